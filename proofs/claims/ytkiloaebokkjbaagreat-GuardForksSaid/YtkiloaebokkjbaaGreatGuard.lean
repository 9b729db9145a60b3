/-
  Contracts of the program's guard: Take.
-/
import Derived.Test.YtkiloaebokkjbaaGreatGuardJudge
import Derived.Test.YtkiloaebokkjbaaGreatM24
import Derived.Test.YtkiloaebokkjbaaGreatM18
import Derived.Test.YtkiloaebokkjbaaGreatQuiet
set_option linter.unusedSimpArgs false
set_option linter.unusedVariables false
namespace Go.Proofs.YtkiloaebokkjbaaGreat.Guard
set_option linter.unusedVariables false
set_option maxRecDepth 20000
open Go.ChangeShapes Go.WideShapes Go.ChangeAt Go.RowKit
open Go.Proofs.YtkiloaebokkjbaaGreat.Base Go.Proofs.YtkiloaebokkjbaaGreat.LedPlain Go.Proofs.YtkiloaebokkjbaaGreat.BudPlain Go.Proofs.YtkiloaebokkjbaaGreat.GuardPlain Go.Proofs.YtkiloaebokkjbaaGreat.Led Go.Proofs.YtkiloaebokkjbaaGreat.Bud Go.Proofs.YtkiloaebokkjbaaGreat.SpanPlain
open Go.Proofs.YtkiloaebokkjbaaGreat.AckPlain (K getAck)
open Go.Proofs.YtkiloaebokkjbaaGreat.OctPlain (Bytes)

/-- What comes of a frame. -/
def PPost (S R T : Nat → Prop) (w : World) (a la : Addr) (t : Tk) : Ending → World → Prop := fun e w' => ∃ p c q d, e = .returned (.tuple #[.agg (vcells t.v), .agg (kcells t.k p c q d)]) ∧
  (∃ S' R' T' Y, Grd S' R' w' a t.g ∧ Led T' w' la t.l ∧ Rw Y w' t.k p c q d ∧ (∀ j, S' j → Plus S w w' j) ∧ (∀ j, R' j → Plus R w w' j) ∧ (∀ j, T' j → Plus T w w' j) ∧ (∀ j, S' j → ¬ T' j) ∧ (∀ j, R' j → ¬ T' j) ∧ (∀ j, Y j → (w.heap.size ≤ j ∧ j < w'.heap.size) ∧ ¬ S' j ∧ ¬ T' j)) ∧ Fr (fun j => S j ∨ T j) w w'
/-- On the way: the results' blocks, the guard, the ledger; what they have of new blocks lies from hi on. -/
structure Sp (S R T : Nat → Prop) (w0 : World) (hi : Nat) (w : World) (a la : Addr) (g : Gd) (l : Lg) (S' R' T' : Nat → Prop) : Prop where
  rv : Blk w w0.heap.size (vcells ⟨0, 0, 0, false⟩) 44
  ra : Blk w (w0.heap.size + 1) (kcells AckPlain.zero none 0 none 0) 56
  gd : Grd S' R' w a g
  ld : Led T' w la l
  fr : Fr (fun j => S j ∨ T j) w0 w
  s1 : w0.heap.size + 2 ≤ hi
  s2 : hi ≤ w.heap.size
  hS : ∀ j, S' j → (S j ∧ j < w0.heap.size) ∨ (hi ≤ j ∧ j < w.heap.size)
  hR : ∀ j, R' j → (R j ∧ j < w0.heap.size) ∨ (hi ≤ j ∧ j < w.heap.size)
  hT : ∀ j, T' j → (T j ∧ j < w0.heap.size) ∨ (hi ≤ j ∧ j < w.heap.size)
  hD : ∀ j, S' j → ¬ T' j
  hE : ∀ j, R' j → ¬ T' j
section
variable {S R T : Nat → Prop} {w0 w w' : World} {hi : Nat} {a la : Addr} {g g' : Gd} {l l' : Lg} {S' R' T' S2 R2 T2 : Nat → Prop}
theorem Sp.under (h : Sp S R T w0 hi w a la g l S' R' T') (hb : Below w.heap.size w w') : Sp S R T w0 hi w' a la g l S' R' T' := by
  have hs := hb.size
  have h1 := h.s1
  have h2 := h.s2
  exact ⟨h.rv.below hb h.rv.lt, h.ra.below hb h.ra.lt, h.gd.below hb, h.ld.below hb, h.fr.trans (T := fun _ => False) (Fr.of_below hb) fun _ _ h => h.elim, h1, by omega, fun j hj => (h.hS j hj).imp id fun h => ⟨h.1, by omega⟩, fun j hj => (h.hR j hj).imp id fun h => ⟨h.1, by omega⟩, fun j hj => (h.hT j hj).imp id fun h => ⟨h.1, by omega⟩, h.hD, h.hE⟩
/-- The guard turned. -/
theorem Sp.guard (h : Sp S R T w0 hi w a la g l S' R' T') (hf : Fr S' w w') (hg : Grd S2 R2 w' a g') (h2 : ∀ j, S2 j → Plus S' w w' j) (h3 : ∀ j, R2 j → Plus R' w w' j) : Sp S R T w0 hi w' a la g' l S2 R2 T' := by
  have hs := hf.size
  have h4 := h.s1
  have h5 := h.s2
  refine ⟨h.rv.kept hf (fun hj => by have := h.hS _ hj; omega), h.ra.kept hf (fun hj => by have := h.hS _ hj; omega), hg, h.ld.kept hf (fun k hk h2 => h.hD k h2 hk), h.fr.trans hf (fun j hj h2 => .inl ?_), h4, by omega, fun j hj => ?_, fun j hj => ?_, fun j hj => (h.hT j hj).imp id fun h => ⟨h.1, by omega⟩, fun j hj h6 => ?_, fun j hj h6 => ?_⟩
  · rcases h.hS j h2 with h7 | h7
    · exact h7.1
    · omega
  · rcases h2 j hj with h7 | h7
    · exact (h.hS j h7).imp id fun h => ⟨h.1, by omega⟩
    · exact .inr ⟨by omega, h7.2⟩
  · rcases h3 j hj with h7 | h7
    · exact (h.hR j h7).imp id fun h => ⟨h.1, by omega⟩
    · exact .inr ⟨by omega, h7.2⟩
  · rcases h2 j hj with h7 | h7
    · exact h.hD j h7 h6
    · have := h.hT j h6
      omega
  · rcases h3 j hj with h7 | h7
    · exact h.hE j h7 h6
    · have := h.hT j h6
      omega
/-- The ledger turned. -/
theorem Sp.led (h : Sp S R T w0 hi w a la g l S' R' T') (hf : Fr T' w w') (hl : Led (Plus T' w w') w' la l') : Sp S R T w0 hi w' a la g l' S' R' (Plus T' w w') := by
  have hs := hf.size
  have h4 := h.s1
  have h5 := h.s2
  refine ⟨h.rv.kept hf (fun hj => by have := h.hT _ hj; omega), h.ra.kept hf (fun hj => by have := h.hT _ hj; omega), h.gd.kept hf (fun k hk h2 => h.hD k hk h2) (fun k hk h2 => h.hE k hk h2), hl, h.fr.trans hf (fun j hj h2 => .inr ?_), h4, by omega, fun j hj => (h.hS j hj).imp id fun h => ⟨h.1, by omega⟩, fun j hj => (h.hR j hj).imp id fun h => ⟨h.1, by omega⟩, fun j hj => ?_, fun j hj h6 => ?_, fun j hj h6 => ?_⟩
  · rcases h.hT j h2 with h7 | h7
    · exact h7.1
    · omega
  · rcases hj with h7 | h7
    · exact (h.hT j h7).imp id fun h => ⟨h.1, by omega⟩
    · exact .inr ⟨by omega, h7.2⟩
  · rcases h6 with h7 | h7
    · exact h.hD j hj h7
    · have := h.hS j hj
      omega
  · rcases h6 with h7 | h7
    · exact h.hE j hj h7
    · have := h.hR j hj
      omega
/-- The results stored. -/
theorem Sp.fin (h : Sp S R T w0 hi w a la g l S' R' T') (v : Vd) (k : K) (p : Option Addr) (c : Nat) (q : Option Addr) (d : Nat) (hk : Rw (fun j => w0.heap.size + 2 ≤ j ∧ j < hi) w k p c q d) :
    PPost S R T w0 a la ⟨v, k, g, l⟩ (.returned (.tuple #[.agg (vcells v), .agg (kcells k p c q d)])) ((w.setRow w0.heap.size (vcells v)).setRow (w0.heap.size + 1) (kcells k p c q d)) := by
  have hF : Fr (fun j => w0.heap.size ≤ j ∧ j < w0.heap.size + 2) w ((w.setRow w0.heap.size (vcells v)).setRow (w0.heap.size + 1) (kcells k p c q d)) := ((Fr.refl (fun j => w0.heap.size ≤ j ∧ j < w0.heap.size + 2) w).setRow (fun _ => by omega) _).setRow (fun _ => by omega) _
  generalize ((w.setRow w0.heap.size (vcells v)).setRow (w0.heap.size + 1) (kcells k p c q d)) = u at *
  have hus := hF.size
  have h4 := h.s1
  have h5 := h.s2
  refine ⟨p, c, q, d, rfl, ⟨S', R', T', _, h.gd.kept hF (fun j hj h2 => by have := h.hS j hj; omega) (fun j hj h2 => by have := h.hR j hj; omega), h.ld.kept hF (fun j hj h2 => by have := h.hT j hj; omega), hk.kept hF (fun j h1 h2 => by omega), fun j hj => ?_, fun j hj => ?_, fun j hj => ?_, h.hD, h.hE, fun j hj => ⟨by omega, fun h6 => by have := h.hS j h6; omega, fun h6 => by have := h.hT j h6; omega⟩⟩, h.fr.trans hF fun j hj h2 => by omega⟩
  · rcases h.hS j hj with h7 | h7
    · exact .inl h7.1
    · exact .inr (by omega)
  · rcases h.hR j hj with h7 | h7
    · exact .inl h7.1
    · exact .inr (by omega)
  · rcases h.hT j hj with h7 | h7
    · exact .inl h7.1
    · exact .inr (by omega)
theorem led_cut {S : Nat → Prop} {w : World} {a : Addr} {l : Lg} (h : Led S w a l) : Led (fun k => S k ∧ k < w.heap.size) w a l := by
  obtain ⟨b, c, cap, kc, rfl, h⟩ := h
  exact ⟨b, c, cap, kc, rfl, h.ok, ⟨h.inB, h.lt⟩, ⟨h.inC, h.ltc⟩, h.ne, h.blk, h.own, h.len, h.at_⟩
/-- At the beginning. -/
theorem sp_start (hG : Grd S R w a g) (hL : Led T w la l) (st : ∀ j, S j → ¬ T j) (rt : ∀ j, R j → ¬ T j) (hb : Below w.heap.size w w') (rv : Blk w' w.heap.size (vcells ⟨0, 0, 0, false⟩) 44) (ra : Blk w' (w.heap.size + 1) (kcells AckPlain.zero none 0 none 0) 56) :
    ∃ S' R' T', Sp S R T w w'.heap.size w' a la g l S' R' T' ∧ (∀ j, S' j → S j ∧ j < w.heap.size) ∧ (∀ j, R' j → R j ∧ j < w.heap.size) ∧ ∀ j, T' j → T j ∧ j < w.heap.size :=
  ⟨_, _, _, ⟨rv, ra, hG.cut.below hb, (led_cut hL).below hb, Fr.of_below hb, ra.lt, Nat.le_refl _, fun j hj => .inl hj, fun j hj => .inl hj, fun j hj => .inl hj, fun j h1 h2 => st j h1.1 h2.1, fun j h1 h2 => rt j h1.1 h2.1⟩, fun _ h => h, fun _ h => h, fun _ h => h⟩
end
def W2 (w : World) : World := (w.alloc (.cells (vcells ⟨0, 0, 0, false⟩) 44)).alloc (.cells (kcells AckPlain.zero none 0 none 0) 56)
theorem w2_is (w : World) : Below w.heap.size w (W2 w) ∧ Blk (W2 w) w.heap.size (vcells ⟨0, 0, 0, false⟩) 44 ∧ Blk (W2 w) (w.heap.size + 1) (kcells AckPlain.zero none 0 none 0) 56 := by
  have h2 := Blk.new (w.alloc (.cells (vcells ⟨0, 0, 0, false⟩) 44)) (kcells AckPlain.zero none 0 none 0) 56
  rw [World.size_alloc] at h2
  exact ⟨((Below.refl w.heap.size w).alloc (Nat.le_refl _) _).alloc (by simp) _, (Blk.new w _ _).alloc _, h2⟩
set_option maxHeartbeats 1000000 in
theorem p_late {S R T : Nat → Prop} {w : World} {a la : Addr} {g : Gd} {l : Lg} {N : Nat} (hG : Grd S R w a g) (hL : Led T w la l) (st : ∀ j, S j → ¬ T j) (rt : ∀ j, R j → ¬ T j) (hc : Cb g N) (hN : N ≤ 1000000) (v : Value) (now : Int) (he : g.ended = true) :
    Calls Tryz.prog 18 #[.pointer (some a), .pointer (some la), v, .int .u64 now] w (PPost S R T w a la (lateT g l)) := by
  have l0 := hc.l0
  have l1 := hc.l1
  obtain ⟨hb, rv, ra⟩ := w2_is w
  obtain ⟨S', R', T', s0, q1, q2, q3⟩ := sp_start hG hL st rt hb rv ra
  clear hb rv ra
  go_enter Tryz.func18, Tryz.ntmps18
  go_upto_region 1 with fail
  refine at_any ?_
  intro W hW
  rw [← show W = W2 w from hW] at s0
  clear hW
  obtain ⟨b, ba, S1, dn, ev, rfl, hP⟩ := s0.gd.ex
  rw [he] at hP
  obtain ⟨rfl, eb, _, _, _, _, rfl, _⟩ := hP.evi.yes rfl
  have k9 := hP.c9
  go_upto_region 5 with (go_at_call 46; refine (Once.add64 ⟨b, 5, none⟩ g.n.late 1 _ (hP.blk.cell 5) (hP.blk.free 5) (by omega) (by omega)).mono ?_; rintro _ _ ⟨rfl, rfl⟩)
  have hP5 := hP.turn s0.gd.dis 5 (.int .u64 (g.n.late + 1)) (n' := { g.n with late := g.n.late + 1 }) rfl
  have F5 : Fr S' W (W.setCell ⟨b, 5, none⟩ (.int .u64 (g.n.late + 1))) := (Fr.refl S' W).setCell (fun _ => hP.inB) _
  have s1 := s0.guard (g' := { g with n := { g.n with late := g.n.late + 1 } }) F5 ⟨s0.gd.dis, b, ba, S1, _, _, rfl, by rw [he]; exact hP5⟩ (fun j hj => .inl hj) (fun j hj => .inl hj)
  generalize W.setCell ⟨b, 5, none⟩ (.int .u64 (g.n.late + 1)) = W1 at *
  clear s0 hP hP5 F5 k9
  have CD := drop_any 8 W1
  unfold vcells at CD
  go_wp2_with (first
    | (go_at_call 45; refine CD.mono ?_; rintro _ w3 ⟨rfl, L3⟩; have s3 := s1.under L3; have rv := s3.rv; have ra := s3.ra.otherRow (g := w.heap.size) (by omega) (vcells ⟨1, 8, 0, false⟩))
    | (refine wpl_store_row rfl 44 (.tmp 8) (.tmp 31) rfl rv (vcells ⟨1, 8, 0, false⟩) rfl rfl (by kernel_rfl) rfl (by simp [vcells, Value.oneCell']) ?_)
    | (refine wpl_store_row rfl 56 (.tmp 9) (.tmp 32) rfl ra (kcells AckPlain.zero none 0 none 0) rfl rfl (by kernel_rfl) rfl (by simp [kcells, Value.oneCell']) ?_))
  refine bodyPost_ret (results_cells rfl _ _ w.heap.size (w.heap.size + 1) 44 56 (vcells ⟨1, 8, 0, false⟩) (kcells AckPlain.zero none 0 none 0) _ _ rfl rfl ((rv.setRow (vcells ⟨1, 8, 0, false⟩)).otherRow (g := w.heap.size + 1) (by omega) (kcells AckPlain.zero none 0 none 0)) (ra.setRow (kcells AckPlain.zero none 0 none 0)) Tryz.underlying44 rfl (by kernel_rfl) Tryz.underlying56 rfl (by kernel_rfl)) rfl ?_
  exact s3.fin ⟨1, 8, 0, false⟩ AckPlain.zero none 0 none 0 (Rw.zero _ _)
set_option maxHeartbeats 1000000 in
theorem p_mal {S R T : Nat → Prop} {w : World} {a la : Addr} {g : Gd} {l : Lg} {N : Nat} (hG : Grd S R w a g) (hL : Led T w la l) (st : ∀ j, S j → ¬ T j) (rt : ∀ j, R j → ¬ T j) (hc : Cb g N) (hN : N ≤ 1000000) (p : Option Addr) (m cap : Nat) (f : List Int) (hm : f.length = m) (hcap : m ≤ cap) (hr : m ≤ 140737488355328) (hb : Bytes f) (hz : ∀ u, Fr (fun j => w.heap.size ≤ j) w u → Ints .u8 u p f) (now : Int) (n0 : 0 ≤ now) (n1 : now ≤ 18446744073709551615) (he : g.ended = false) (hy : (getAck f).2 ≠ 0) :
    Calls Tryz.prog 18 #[.pointer (some a), .pointer (some la), .slice p m cap, .int .u64 now] w (PPost S R T w a la (malT g l)) := by
  have m0 := hc.m0
  have m1 := hc.m1
  obtain ⟨hbw, rv, ra⟩ := w2_is w
  obtain ⟨S', R', T', s0, q1, q2, q3⟩ := sp_start hG hL st rt hbw rv ra
  have CD0 := Ack.decode_loose p m cap f (W2 w) hm hcap hr hb (hz _ (Fr.of_below hbw))
  unfold Ack.AckPost at CD0
  clear hbw rv ra
  go_enter Tryz.func18, Tryz.ntmps18
  go_upto_region 1 with fail
  refine at_any ?_
  intro W hW
  rw [← show W = W2 w from hW] at s0 CD0
  clear hW
  obtain ⟨b, ba, S1, dn, ev, rfl, hP⟩ := s0.gd.ex
  rw [he] at hP
  obtain ⟨rfl, rfl, _⟩ := hP.evi.no rfl
  have k9 := hP.c9
  generalize (getAck f).2 = er at *
  generalize (getAck f).1 = x at *
  go_upto_region 6 with fail
  go_upto_region 7 with (go_at_call 47; refine CD0.mono ?_; rintro _ w1 ⟨xa, xn, xc, xb, xm, xd, rfl, _, _, L1⟩; have s1 := s0.under L1; clear CD0)
  have s2 := s1.under ((Below.refl w1.heap.size w1).alloc (Nat.le_refl _) (.cells #[.slice xa xn xc, .slice xb xm xd, .int .u64 x.trigger, .int .u64 x.xor, .bool x.parity] 56))
  refine at_any ?_
  intro Y hY
  rw [← show Y = w1.alloc (.cells #[.slice xa xn xc, .slice xb xm xd, .int .u64 x.trigger, .int .u64 x.xor, .bool x.parity] 56) from hY] at s2
  clear hY s1 hP k9 s0
  obtain ⟨b', ba, S1, dn, ev, hbb, hP⟩ := s2.gd.ex
  injection hbb with hbb
  subst hbb
  go_upto_region 9 with (go_at_call 46; refine (Once.add64 ⟨b, 1, none⟩ g.n.mal 1 _ (hP.blk.cell 1) (hP.blk.free 1) (by omega) (by omega)).mono ?_; rintro _ _ ⟨rfl, rfl⟩)
  have hP5 := hP.turn s2.gd.dis 1 (.int .u64 (g.n.mal + 1)) (n' := { g.n with mal := g.n.mal + 1 }) rfl
  have F5 : Fr S' Y (Y.setCell ⟨b, 1, none⟩ (.int .u64 (g.n.mal + 1))) := (Fr.refl S' Y).setCell (fun _ => hP.inB) _
  have s3 := s2.guard (g' := { g with n := { g.n with mal := g.n.mal + 1 } }) F5 ⟨s2.gd.dis, b, ba, S1, _, _, rfl, hP5⟩ (fun j hj => .inl hj) (fun j hj => .inl hj)
  generalize Y.setCell ⟨b, 1, none⟩ (.int .u64 (g.n.mal + 1)) = Y1 at *
  clear s2 hP hP5 F5
  have CD := drop_any 1 Y1
  unfold vcells at CD
  go_upto_region 10 with (first
    | (go_at_call 45; refine CD.mono ?_; rintro _ w3 ⟨rfl, L3⟩; have s4 := s3.under L3; have rv := s4.rv; have ra := s4.ra.otherRow (g := w.heap.size) (by omega) (vcells ⟨1, 1, 0, false⟩))
    | (refine wpl_store_row rfl 44 (.tmp 8) (.tmp 44) rfl rv (vcells ⟨1, 1, 0, false⟩) rfl rfl (by kernel_rfl) rfl (by simp [vcells, Value.oneCell']) ?_)
    | (refine wpl_store_row rfl 56 (.tmp 9) (.tmp 45) rfl ra (kcells AckPlain.zero none 0 none 0) rfl rfl (by kernel_rfl) rfl (by simp [kcells, Value.oneCell']) ?_))
  refine bodyPost_ret (results_cells rfl _ _ w.heap.size (w.heap.size + 1) 44 56 (vcells ⟨1, 1, 0, false⟩) (kcells AckPlain.zero none 0 none 0) _ _ rfl rfl ((rv.setRow (vcells ⟨1, 1, 0, false⟩)).otherRow (g := w.heap.size + 1) (by omega) (kcells AckPlain.zero none 0 none 0)) (ra.setRow (kcells AckPlain.zero none 0 none 0)) Tryz.underlying44 rfl (by kernel_rfl) Tryz.underlying56 rfl (by kernel_rfl)) rfl ?_
  exact s4.fin ⟨1, 1, 0, false⟩ AckPlain.zero none 0 none 0 (Rw.zero _ _)
set_option maxHeartbeats 2000000 in
theorem p_drop {S R T : Nat → Prop} {w : World} {a la : Addr} {g : Gd} {l : Lg} {N : Nat} (hG : Grd S R w a g) (hL : Led T w la l) (st : ∀ j, S j → ¬ T j) (rt : ∀ j, R j → ¬ T j) (hc : Cb g N) (hN : N ≤ 1000000) (hn : l.l.length ≤ 1000000) (p : Option Addr) (m cap : Nat) (f : List Int) (hm : f.length = m) (hcap : m ≤ cap) (hr : m ≤ 140737488355328) (hb : Bytes f) (hz : ∀ u, Fr (fun j => w.heap.size ≤ j) w u → Ints .u8 u p f) (now : Int) (n0 : 0 ≤ now) (n1 : now ≤ 18446744073709551615) (he : g.ended = false) (hy : (getAck f).2 = 0) (hlk : (lookG l (getAck f).1).2 ≠ 0) :
    Calls Tryz.prog 18 #[.pointer (some a), .pointer (some la), .slice p m cap, .int .u64 now] w (PPost S R T w a la (dropT g l (lookG l (getAck f).1).2 now)) := by
  obtain ⟨hbw, rv, ra⟩ := w2_is w
  obtain ⟨S', R', T', s0, q1, q2, q3⟩ := sp_start hG hL st rt hbw rv ra
  have CD0 := Ack.decode_loose p m cap f (W2 w) hm hcap hr hb (hz _ (Fr.of_below hbw))
  unfold Ack.AckPost at CD0
  have hk := (get_fine hb hy).2
  clear rv ra
  generalize hg0 : getAck f = gg at *
  obtain ⟨x, er⟩ := gg
  simp only at hk hy
  subst hy
  clear hg0
  go_enter Tryz.func18, Tryz.ntmps18
  go_upto_region 1 with fail
  refine at_any ?_
  intro W hW
  have hWs : w.heap.size + 2 ≤ W.heap.size := by rw [show W = W2 w from hW]; unfold W2; simp only [World.size_alloc]; omega
  rw [← show W = W2 w from hW] at s0 CD0 hbw
  clear hW
  obtain ⟨b, ba, S1, dn, ev, rfl, hP⟩ := s0.gd.ex
  rw [he] at hP
  obtain ⟨rfl, rfl, _⟩ := hP.evi.no rfl
  have k9 := hP.c9
  go_upto_region 6 with fail
  go_upto_region 7 with (go_at_call 47; refine CD0.mono ?_; rintro _ w1 ⟨xa, xn, xc, xb, xm, xd, rfl, ⟨rfl, x1, x2, x3, x4⟩, ⟨rfl, y1, y2, y3, y4⟩, L1⟩; have kr : Rw (fun j => w.heap.size + 2 ≤ j ∧ j < w1.heap.size) w1 x xa xc xb xd := ⟨x1, x2, y1, y2, x3, y3, x4.mono fun j h1 h2 => by omega, y4.mono fun j h1 h2 => by omega⟩; clear CD0 x4 y4 x1 x2 y1 y2 x3 y3)
  have L2 : Below w1.heap.size w1 (w1.alloc (.cells (kcells x xa xc xb xd) 56)) := (Below.refl w1.heap.size w1).alloc (Nat.le_refl _) _
  have V2 := Blk.new w1 (kcells x xa xc xb xd) 56
  have kr2 := (kr.below L2).mono (T := fun j => w.heap.size + 2 ≤ j ∧ j < w1.heap.size) fun j _ hj => hj
  obtain ⟨w2r, r1, r2⟩ := w2_is w
  have rv := s0.rv
  have ra := s0.ra
  have M1 := Base.next hbw L1
  have M2 := Base.next M1 L2
  have rv2 := (rv.below L1 rv.lt).below L2 (by have := L1.size; have := rv.lt; omega)
  have ra2 := (ra.below L1 ra.lt).below L2 (by have := L1.size; have := ra.lt; omega)
  have hs1 := L1.size
  have hs2 : w1.heap.size + 1 ≤ (w1.alloc (.cells (kcells x xa xc xb xd) 56)).heap.size := by simp
  refine at_any ?_
  intro Y hY
  rw [← show Y = w1.alloc (.cells (kcells x xa xc xb xd) 56) from hY] at V2 kr2 M2 rv2 ra2 hs2
  clear hY k9 hP s0 kr L2 M1 L1 hbw q1 q2 q3 w2r r1 r2 rv ra
  clear S' R' T'
  obtain ⟨S', R', T', s2, q1, q2, q3⟩ := sp_start hG hL st rt M2 rv2 ra2
  generalize hdd : w1.heap.size = dd at *
  have hdd2 : w.heap.size + 2 ≤ dd := by omega
  have krY : Rw (fun j => w.heap.size + 2 ≤ j ∧ j < Y.heap.size) Y x xa xc xb xd := kr2.mono fun j _ hj => by omega
  have CK := Led.look_any s2.ld hn x xa xb x.spans.length xc x.marked.length xd rfl rfl (by have := hk.s32; omega) (by have := hk.m32; omega) hk.fs hk.fm kr2.s.row kr2.m.row
  have hwy := (look_bd (s2.ld.ok) x)
  have ldV := V2.lt
  have hdm := hk.m32
  generalize hlk0 : lookG l x = lk at *
  obtain ⟨px, wy⟩ := lk
  simp only at hlk hwy CK ⊢
  go_upto_region 11 with (first
    | (refine wpl_load_row (by rfl) 56 (.tmp 10) rfl dd rfl 56 (kcells x xa xc xb xd) (0, 0) _ V2 Tryz.underlying56 rfl (by kernel_rfl) ?_)
    | (go_at_call 48; refine CK.mono ?_; rintro _ w3 ⟨rfl, L3⟩; have s3 := s2.under L3; have V3 := V2.below L3 ldV; have kr3 := krY.below L3; clear CK))
  have CI := ignore_any s3.gd hc hN wy now n0 n1
  go_wp2_with (first
    | (go_at_call 49; refine CI.mono ?_; rintro _ w4 ⟨rfl, hG4, F4⟩; have s4 := s3.guard F4 hG4 (fun j hj => hj) (fun j hj => .inl hj.1); have rv4 := s4.rv; have ra4 := s4.ra.otherRow (g := w.heap.size) (by omega) (vcells ⟨1, wy, 0, grants g.b now⟩))
    | (refine wpl_store_row rfl 44 (.tmp 8) (.tmp 57) rfl rv4 (vcells ⟨1, wy, 0, grants g.b now⟩) rfl rfl (by kernel_rfl) rfl (by simp [vcells, Value.oneCell']) ?_)
    | (refine wpl_store_row rfl 56 (.tmp 9) (.tmp 58) rfl ra4 (kcells AckPlain.zero none 0 none 0) rfl rfl (by kernel_rfl) rfl (by simp [kcells, Value.oneCell']) ?_))
  refine bodyPost_ret (results_cells rfl _ _ w.heap.size (w.heap.size + 1) 44 56 (vcells ⟨1, wy, 0, grants g.b now⟩) (kcells AckPlain.zero none 0 none 0) _ _ rfl rfl ((rv4.setRow (vcells ⟨1, wy, 0, grants g.b now⟩)).otherRow (g := w.heap.size + 1) (by omega) (kcells AckPlain.zero none 0 none 0)) (ra4.setRow (kcells AckPlain.zero none 0 none 0)) Tryz.underlying44 rfl (by kernel_rfl) Tryz.underlying56 rfl (by kernel_rfl)) rfl ?_
  exact s4.fin ⟨1, wy, 0, grants g.b now⟩ AckPlain.zero none 0 none 0 (Rw.zero _ _)
set_option maxHeartbeats 4000000 in
theorem p_used {S R T : Nat → Prop} {w : World} {a la : Addr} {g : Gd} {l : Lg} {N : Nat} (hG : Grd S R w a g) (hL : Led T w la l) (st : ∀ j, S j → ¬ T j) (rt : ∀ j, R j → ¬ T j) (hc : Cb g N) (hN : N ≤ 1000000) (hn : l.l.length ≤ 1000000) (p : Option Addr) (m cap : Nat) (f : List Int) (hm : f.length = m) (hcap : m ≤ cap) (hr : m ≤ 140737488355328) (hb : Bytes f) (hz : ∀ u, Fr (fun j => w.heap.size ≤ j) w u → Ints .u8 u p f) (now : Int) (n0 : 0 ≤ now) (n1 : now ≤ 18446744073709551615) (he : g.ended = false) (hy : (getAck f).2 = 0) (hlk : (lookG l (getAck f).1).2 = 0) :
    Calls Tryz.prog 18 #[.pointer (some a), .pointer (some la), .slice p m cap, .int .u64 now] w (PPost S R T w a la (usedT g (useG l (lookG l (getAck f).1).1) (getAck f).1 (lookG l (getAck f).1).1 now)) := by
  obtain ⟨hbw, rv, ra⟩ := w2_is w
  obtain ⟨S', R', T', s0, q1, q2, q3⟩ := sp_start hG hL st rt hbw rv ra
  have CD0 := Ack.decode_loose p m cap f (W2 w) hm hcap hr hb (hz _ (Fr.of_below hbw))
  unfold Ack.AckPost at CD0
  have hk := (get_fine hb hy).2
  clear rv ra
  generalize hg0 : getAck f = gg at *
  obtain ⟨x, er⟩ := gg
  simp only at hk hy
  subst hy
  clear hg0
  go_enter Tryz.func18, Tryz.ntmps18
  go_upto_region 1 with fail
  refine at_any ?_
  intro W hW
  have hWs : w.heap.size + 2 ≤ W.heap.size := by rw [show W = W2 w from hW]; unfold W2; simp only [World.size_alloc]; omega
  rw [← show W = W2 w from hW] at s0 CD0 hbw
  clear hW
  obtain ⟨b, ba, S1, dn, ev, rfl, hP⟩ := s0.gd.ex
  rw [he] at hP
  obtain ⟨rfl, rfl, _⟩ := hP.evi.no rfl
  have k9 := hP.c9
  go_upto_region 6 with fail
  go_upto_region 7 with (go_at_call 47; refine CD0.mono ?_; rintro _ w1 ⟨xa, xn, xc, xb, xm, xd, rfl, ⟨rfl, x1, x2, x3, x4⟩, ⟨rfl, y1, y2, y3, y4⟩, L1⟩; have kr : Rw (fun j => w.heap.size + 2 ≤ j ∧ j < w1.heap.size) w1 x xa xc xb xd := ⟨x1, x2, y1, y2, x3, y3, x4.mono fun j h1 h2 => by omega, y4.mono fun j h1 h2 => by omega⟩; clear CD0 x4 y4 x1 x2 y1 y2 x3 y3)
  have L2 : Below w1.heap.size w1 (w1.alloc (.cells (kcells x xa xc xb xd) 56)) := (Below.refl w1.heap.size w1).alloc (Nat.le_refl _) _
  have V2 := Blk.new w1 (kcells x xa xc xb xd) 56
  have kr2 := (kr.below L2).mono (T := fun j => w.heap.size + 2 ≤ j ∧ j < w1.heap.size) fun j _ hj => hj
  obtain ⟨w2r, r1, r2⟩ := w2_is w
  have rv := s0.rv
  have ra := s0.ra
  have M1 := Base.next hbw L1
  have M2 := Base.next M1 L2
  have rv2 := (rv.below L1 rv.lt).below L2 (by have := L1.size; have := rv.lt; omega)
  have ra2 := (ra.below L1 ra.lt).below L2 (by have := L1.size; have := ra.lt; omega)
  have hs1 := L1.size
  have hs2 : w1.heap.size + 1 ≤ (w1.alloc (.cells (kcells x xa xc xb xd) 56)).heap.size := by simp
  refine at_any ?_
  intro Y hY
  rw [← show Y = w1.alloc (.cells (kcells x xa xc xb xd) 56) from hY] at V2 kr2 M2 rv2 ra2 hs2
  clear hY k9 hP s0 kr L2 M1 L1 hbw q1 q2 q3 w2r r1 r2 rv ra
  clear S' R' T'
  obtain ⟨S', R', T', s2, q1, q2, q3⟩ := sp_start hG hL st rt M2 rv2 ra2
  generalize hdd : w1.heap.size = dd at *
  have hdd2 : w.heap.size + 2 ≤ dd := by omega
  have krY : Rw (fun j => w.heap.size + 2 ≤ j ∧ j < Y.heap.size) Y x xa xc xb xd := kr2.mono fun j _ hj => by omega
  have CK := Led.look_any s2.ld hn x xa xb x.spans.length xc x.marked.length xd rfl rfl (by have := hk.s32; omega) (by have := hk.m32; omega) hk.fs hk.fm kr2.s.row kr2.m.row
  have hwy := (look_bd (s2.ld.ok) x)
  have ldV := V2.lt
  have hdm := hk.m32
  generalize hlk0 : lookG l x = lk at *
  obtain ⟨px, wy⟩ := lk
  simp only at hlk hwy CK ⊢
  subst hlk
  go_upto_region 11 with (first
    | (refine wpl_load_row (by rfl) 56 (.tmp 10) rfl dd rfl 56 (kcells x xa xc xb xd) (0, 0) _ V2 Tryz.underlying56 rfl (by kernel_rfl) ?_)
    | (go_at_call 48; refine CK.mono ?_; rintro _ w3 ⟨rfl, L3⟩; have s3 := s2.under L3; have V3 := V2.below L3 ldV; have kr3 := krY.below L3; clear CK))
  have CU := Led.use_any s3.ld px hwy.1.1 hwy.1.2
  go_upto_region 14 with (go_at_call 50; refine CU.mono ?_; rintro _ w4 ⟨rfl, hL4, F4⟩; have s4 := s3.led F4 hL4; have V4 := V3.kept F4 (fun h => by have := q3 _ h; omega); have kr4 := kr3.kept F4 (fun j hj h => by have := q3 _ h; omega); clear CU hL4)
  have hln : (useG l px).l.length ≤ 1000000 := by rw [use_len]; exact hn
  generalize useG l px = l1 at *
  have hq : ∀ j, Plus T' w3 w4 j → ¬ (w.heap.size ≤ j ∧ j < Y.heap.size) := fun j hj h => by have := s4.hT j hj; omega
  generalize Plus T' w3 w4 = T4 at *
  refine held_start (fun u => Blk u dd (kcells x xa xc xb xd) 56) (by kernel_rfl) ?_
  have s5 := s4.under (Base.drew1 (Below.refl _ _))
  have V5 := V4.below (Base.drew1 (Below.refl _ _)) V4.lt
  have kr5 := kr4.below (Base.drew1 (Below.refl _ _))
  clear s4 V4 kr4 F4 s3 V3 kr3 krY kr2
  generalize w4.drew = U at *
  have CJ := judge_any s5.gd he hc hN s5.ld hln x xa xc xb xd hk kr5 px now
  generalize htk : usedT g l1 x px now = tk at *
  have htl : tk.l = l1 ∧ tk.k = x := by
    subst htk
    unfold usedT
    split <;> exact ⟨rfl, rfl⟩
  obtain ⟨v, k, g', l'⟩ := tk
  simp only at htl CJ ⊢
  obtain ⟨rfl, rfl⟩ := htl
  refine h2_take (i := 0) (v := .pointer (some ⟨b, 0, none⟩)) 62 rfl (by kernel_rfl) (by kernel_rfl) (by kernel_rfl) (by kernel_rfl) (fun _ _ _ h => h) (by kernel_rfl) V5 (fun v hv => by kernel_rfl) ?_
  refine h2_take (i := 1) (v := .pointer (some la)) 63 rfl (by kernel_rfl) (by kernel_rfl) (by kernel_rfl) (by kernel_rfl) (fun _ _ _ h => h) (by kernel_rfl) V5 (fun v hv => by kernel_rfl) ?_
  refine h2_take (i := 2) (v := .agg (kcells k xa xc xb xd)) 64 rfl (by kernel_rfl) (by kernel_rfl) (by kernel_rfl) (by kernel_rfl) (fun _ _ _ h => h) (by kernel_rfl) V5 (fun v hv => ld_row 56 (.tmp 10) rfl (by kernel_rfl) hv Tryz.underlying56 rfl (by kernel_rfl)) ?_
  refine h2_take (i := 3) (v := .int .u64 px) 65 rfl (by kernel_rfl) (by kernel_rfl) (by kernel_rfl) (by kernel_rfl) (fun _ _ _ h => h) (by kernel_rfl) V5 (fun v hv => by kernel_rfl) ?_
  refine h2_take (i := 4) (v := .int .u64 now) 66 rfl (by kernel_rfl) (by kernel_rfl) (by kernel_rfl) (by kernel_rfl) (fun _ _ _ h => h) (by kernel_rfl) V5 (fun v hv => by kernel_rfl) ?_
  refine h2_take (i := 6) (v := .agg (kcells k xa xc xb xd)) 68 rfl (by kernel_rfl) (by kernel_rfl) (by kernel_rfl) (by kernel_rfl) (fun _ _ _ h => h) (by kernel_rfl) V5 (fun v hv => ld_row 56 (.tmp 10) rfl (by kernel_rfl) hv Tryz.underlying56 rfl (by kernel_rfl)) ?_
  refine h2_call (i := 5) 67 (f := 51) (args := #[.pointer (some ⟨b, 0, none⟩), .pointer (some la), .agg (kcells k xa xc xb xd), .int .u64 px, .int .u64 now]) rfl (by kernel_rfl) (by kernel_rfl) (by kernel_rfl) (by kernel_rfl) (CJ.mono ?_)
  rintro _ w6 ⟨rfl, ⟨S6, R6, hG6, h6, h7⟩, F6⟩
  have s6 := s5.guard F6 hG6 h6 h7
  have V6 := V5.kept F6 (fun h => by have := q1 _ h; omega)
  have kr6 := (kr5.kept F6 (fun j hj h => by have := q1 _ h; omega))
  refine ⟨_, rfl, V6, ?_⟩
  have rv := s6.rv
  have ra := s6.ra.otherRow (g := w.heap.size) (by omega) (vcells v)
  have V7 := V6.otherRow (g := w.heap.size) (by omega) (vcells v)
  have V8 := V7.otherRow (g := w.heap.size + 1) (by omega) (kcells k xa xc xb xd)
  refine h2_st (i := 7) rfl (by kernel_rfl) (by kernel_rfl) (by kernel_rfl) (st_row 44 (.tmp 8) (.tmp 67) rfl (g := w.heap.size) (cells := vcells v) (by kernel_rfl) (by kernel_rfl) rv (by kernel_rfl) rfl (by simp [vcells, Value.oneCell'])) V7 ?_
  refine h2_st (i := 8) rfl (by kernel_rfl) (by kernel_rfl) (by kernel_rfl) (st_row 56 (.tmp 9) (.tmp 68) rfl (g := w.heap.size + 1) (cells := kcells k xa xc xb xd) (by kernel_rfl) (by kernel_rfl) ra (by kernel_rfl) rfl (by simp [kcells, Value.oneCell'])) V8 ?_
  refine held_end2 8 9 (.pointer (some ⟨w.heap.size, 0, none⟩)) (.pointer (some ⟨w.heap.size + 1, 0, none⟩)) (by kernel_rfl) (by kernel_rfl) (by kernel_rfl) (by kernel_rfl) fun a' hd hv hv2 => ?_
  go_wp2
  refine bodyPost_ret (results_cells rfl _ _ w.heap.size (w.heap.size + 1) 44 56 (vcells v) (kcells k xa xc xb xd) _ _ hv hv2 ((rv.setRow (vcells v)).otherRow (g := w.heap.size + 1) (by omega) (kcells k xa xc xb xd)) (ra.setRow (kcells k xa xc xb xd)) Tryz.underlying44 rfl (by kernel_rfl) Tryz.underlying56 rfl (by kernel_rfl)) hd ?_
  exact s6.fin v k xa xc xb xd kr6
theorem take_any {S R T : Nat → Prop} {w : World} {a la : Addr} {g : Gd} {l : Lg} {N : Nat} (hG : Grd S R w a g) (hL : Led T w la l) (st : ∀ j, S j → ¬ T j) (rt : ∀ j, R j → ¬ T j) (hc : Cb g N) (hN : N ≤ 1000000) (hn : l.l.length ≤ 1000000)
    (p : Option Addr) (m cap : Nat) (f : List Int) (hm : f.length = m) (hcap : m ≤ cap) (hr : m ≤ 140737488355328) (hb : Bytes f) (hz : ∀ u, Fr (fun j => w.heap.size ≤ j) w u → Ints .u8 u p f) (now : Int) (n0 : 0 ≤ now) (n1 : now ≤ 18446744073709551615) :
    Calls Tryz.prog 18 #[.pointer (some a), .pointer (some la), .slice p m cap, .int .u64 now] w (PPost S R T w a la (takeT g l f now)) := by
  unfold takeT
  by_cases he : g.ended = true
  · rw [if_pos he]
    exact p_late hG hL st rt hc hN _ now he
  · rw [if_neg he]
    have he : g.ended = false := by simpa using he
    by_cases hy : (getAck f).2 = 0
    · rw [if_neg (by simpa using hy)]
      unfold ackT
      by_cases hlk : (lookG l (getAck f).1).2 = 0
      · rw [if_neg (by simpa using hlk)]
        exact p_used hG hL st rt hc hN hn p m cap f hm hcap hr hb hz now n0 n1 he hy hlk
      · rw [if_pos hlk]
        exact p_drop hG hL st rt hc hN hn p m cap f hm hcap hr hb hz now n0 n1 he hy hlk
    · rw [if_pos hy]
      exact p_mal hG hL st rt hc hN p m cap f hm hcap hr hb hz now n0 n1 he hy
end Go.Proofs.YtkiloaebokkjbaaGreat.Guard
