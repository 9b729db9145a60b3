/-
  Several texts in one: GuardOwn, GuardOwn2, GuardKeep, GuardFork.
-/
import Derived.Test.YtkiloaebokkjbaaGreatM18
import Derived.Test.YtkiloaebokkjbaaGreatM11
import Derived.Test.YtkiloaebokkjbaaGreatM19
import Derived.Test.YtkiloaebokkjbaaGreatM20
import Derived.Test.YtkiloaebokkjbaaGreatQuad
import Derived.Test.YtkiloaebokkjbaaGreatMid
import Derived.Test.YtkiloaebokkjbaaGreatM8
/-
  The program's guard: its block, its budget, its evidence; contracts of what makes no memory of the guard's own.
-/
set_option linter.unusedSimpArgs false
set_option linter.unusedVariables false
namespace Go.Proofs.YtkiloaebokkjbaaGreat.Guard
set_option linter.unusedVariables false
set_option maxRecDepth 20000
open Go.ChangeShapes Go.WideShapes Go.ChangeAt Go.RowKit
open Go.Proofs.YtkiloaebokkjbaaGreat.Base Go.Proofs.YtkiloaebokkjbaaGreat.LedPlain Go.Proofs.YtkiloaebokkjbaaGreat.BudPlain Go.Proofs.YtkiloaebokkjbaaGreat.GuardPlain Go.Proofs.YtkiloaebokkjbaaGreat.Led Go.Proofs.YtkiloaebokkjbaaGreat.Bud Go.Proofs.YtkiloaebokkjbaaGreat.SpanPlain
open Go.Proofs.YtkiloaebokkjbaaGreat.AckPlain (K)
open Go.Proofs.YtkiloaebokkjbaaGreat.OctPlain (Bytes)

/-- The cells of the program's guard. -/
def pcells (ba : Addr) (n : Ct) (dn : Int) (ev : Option Addr) : Array Value :=
  #[.pointer (some ba), .int .u64 n.mal, .int .u64 n.drop, .int .u64 n.taken, .int .u64 n.chal, .int .u64 n.late, .int .u32 dn, .int .i32 0, .int .u32 0, .pointer ev]
def noEv : Ev := ⟨0, 0, 0, 0, AckPlain.zero⟩
/-- Where the evidence lies: only read. -/
structure Evi (R : Nat → Prop) (w : World) (ended : Bool) (e : Ev) (dn : Int) (ev : Option Addr) : Prop where
  no : ended = false → ev = none ∧ dn = 0 ∧ e = noEv
  yes : ended = true → dn = 1 ∧ ∃ eb p c q d, ev = some ⟨eb, 0, none⟩ ∧ Blk w eb (ecells e p c q d) 65 ∧ R eb ∧ Rw R w e.ack p c q d
theorem Evi.kept {R T : Nat → Prop} {w w' : World} {ended : Bool} {e : Ev} {dn : Int} {ev : Option Addr} (h : Evi R w ended e dn ev) (hf : Fr T w w') (hr : ∀ k, R k → ¬ T k) : Evi R w' ended e dn ev :=
  ⟨h.no, fun he => by
    obtain ⟨h1, eb, p, c, q, d, h2, h3, h4, h5⟩ := h.yes he
    exact ⟨h1, eb, p, c, q, d, h2, h3.kept hf (hr _ h4), h4, h5.kept hf hr⟩⟩
theorem Evi.mono {R U : Nat → Prop} {w : World} {ended : Bool} {e : Ev} {dn : Int} {ev : Option Addr} (h : Evi R w ended e dn ev) (hr : ∀ k, k < w.heap.size → R k → U k) : Evi U w ended e dn ev :=
  ⟨h.no, fun he => by
    obtain ⟨h1, eb, p, c, q, d, h2, h3, h4, h5⟩ := h.yes he
    exact ⟨h1, eb, p, c, q, d, h2, h3, hr _ h3.lt h4, h5.mono hr⟩⟩
/-- The guard's parts: its block b, its budget at ba, its evidence. -/
structure Pg (S R : Nat → Prop) (w : World) (b : Nat) (ba : Addr) (S1 : Nat → Prop) (n : Ct) (bg : Bg) (ended : Bool) (e : Ev) (dn : Int) (ev : Option Addr) : Prop where
  inB : S b
  blk : Blk w b (pcells ba n dn ev) 110
  bud : Bud S1 w ba bg
  s1 : ∀ k, S1 k → S k ∧ k ≠ b
  evi : Evi R w ended e dn ev
/-- The program's guard at a is g: what it may turn lies in S, what it only reads in R. -/
structure Grd (S R : Nat → Prop) (w : World) (a : Addr) (g : Gd) : Prop where
  dis : ∀ k, S k → ¬ R k
  ex : ∃ b ba S1 dn ev, a = ⟨b, 0, none⟩ ∧ Pg S R w b ba S1 g.n g.b g.ended g.e dn ev
section
variable {S R T U : Nat → Prop} {w w' : World} {b : Nat} {ba a : Addr} {S1 : Nat → Prop} {n : Ct} {bg : Bg} {ended : Bool} {e : Ev} {dn : Int} {ev : Option Addr} {g : Gd}
theorem Pg.kept (h : Pg S R w b ba S1 n bg ended e dn ev) (hf : Fr T w w') (hn : ∀ k, S k → ¬ T k) (hr : ∀ k, R k → ¬ T k) : Pg S R w' b ba S1 n bg ended e dn ev :=
  ⟨h.inB, h.blk.kept hf (hn _ h.inB), h.bud.kept hf fun k hk => hn k (h.s1 k hk).1, h.s1, h.evi.kept hf hr⟩
theorem Pg.below (h : Pg S R w b ba S1 n bg ended e dn ev) (hb : Below w.heap.size w w') : Pg S R w' b ba S1 n bg ended e dn ev := h.kept (T := fun _ => False) (Fr.of_below hb) (fun _ _ h => h) fun _ _ h => h
/-- One cell of the guard's counts turned. -/
theorem Pg.turn (h : Pg S R w b ba S1 n bg ended e dn ev) (hd : ∀ k, S k → ¬ R k) (i : Nat) (v : Value) {n' : Ct} (hc : (pcells ba n dn ev).setIfInBounds i v = pcells ba n' dn ev) : Pg S R (w.setCell ⟨b, i, none⟩ v) b ba S1 n' bg ended e dn ev := by
  have hF : Fr (fun k => k = b) w (w.setCell ⟨b, i, none⟩ v) := (Fr.refl (fun k => k = b) w).setCell (fun _ => rfl) v
  have hB := h.blk.set i v
  rw [hc] at hB
  exact ⟨h.inB, hB, h.bud.kept hF fun k hk => (h.s1 k hk).2, h.s1, h.evi.kept hF fun k hk hkb => by subst hkb; exact hd _ h.inB hk⟩
theorem Grd.kept (h : Grd S R w a g) (hf : Fr T w w') (hn : ∀ k, S k → ¬ T k) (hr : ∀ k, R k → ¬ T k) : Grd S R w' a g := by
  obtain ⟨b, ba, S1, dn, ev, rfl, hP⟩ := h.ex
  exact ⟨h.dis, b, ba, S1, dn, ev, rfl, hP.kept hf hn hr⟩
theorem Grd.mono (h : Grd S R w a g) (hn : ∀ k, S k → T k) (hr : ∀ k, k < w.heap.size → R k → U k) (hd : ∀ k, T k → ¬ U k) : Grd T U w a g := by
  obtain ⟨b, ba, S1, dn, ev, rfl, hP⟩ := h.ex
  exact ⟨hd, b, ba, S1, dn, ev, rfl, hn _ hP.inB, hP.blk, hP.bud, fun k hk => ⟨hn k (hP.s1 k hk).1, (hP.s1 k hk).2⟩, hP.evi.mono hr⟩
theorem Grd.below (h : Grd S R w a g) (hb : Below w.heap.size w w') : Grd S R w' a g := h.kept (T := fun _ => False) (Fr.of_below hb) (fun _ _ h => h) fun _ _ h => h
theorem Pg.c0 (h : Pg S R w b ba S1 n bg ended e dn ev) : w.cell? ⟨b, 0, none⟩ = some (.pointer (some ba)) := h.blk.cell 0
theorem Pg.c9 (h : Pg S R w b ba S1 n bg ended e dn ev) : w.cell? ⟨b, 9, none⟩ = some (.pointer ev) := h.blk.cell 9
end
theorem bud_cut {S : Nat → Prop} {w : World} {ba : Addr} {bg : Bg} (h : Bud S w ba bg) : Bud (fun k => S k ∧ k < w.heap.size) w ba bg := by
  obtain ⟨h1, b, l, h2, ⟨hi, v, hB, hO, hv⟩, h4⟩ := h
  exact ⟨h1, b, l, h2, ⟨⟨hi, hB.lt⟩, v, hB, hO, fun k hk => ⟨⟨(hv k hk).1, hO.lt hk⟩, (hv k hk).2⟩⟩, h4⟩
theorem drop_any (why : Int) (w : World) :
    Calls Tryz.prog 45 #[.int .i64 why] w fun e w' => e = .returned (.agg (vcells ⟨1, why, 0, false⟩)) ∧ Below w.heap.size w w' := by
  go_enter Tryz.func45, Tryz.ntmps45
  go_upto_region 1 with fail
  have B0 := Blk.new w #[.int .i64 0, .int .i64 0, .int .u64 0, .bool false] 44
  have L0 := (Below.refl w.heap.size w).alloc (Nat.le_refl _) (.cells #[.int .i64 0, .int .i64 0, .int .u64 0, .bool false] 44)
  refine at_any ?_
  intro W hW
  rw [← show W = w.alloc (.cells #[.int .i64 0, .int .i64 0, .int .u64 0, .bool false] 44) from hW] at B0 L0
  clear hW
  go_wp2_with (refine wpl_store_row rfl 44 (.tmp 2) (.tmp 4) rfl B0 (vcells ⟨1, why, 0, false⟩) rfl rfl (by kernel_rfl) rfl (by simp [vcells, Value.oneCell']) ?_)
  refine bodyPost_ret (results_cell_row rfl _ _ w.heap.size 44 (vcells ⟨1, why, 0, false⟩) (0, 0) _ rfl (B0.setRow _) Tryz.underlying44 rfl (by kernel_rfl)) rfl ?_
  exact ⟨rfl, below_setRow' L0 (Nat.le_refl _)⟩
set_option maxHeartbeats 1000000 in
/-- A copy of an acknowledgment: its rows are new. -/
theorem clone_any {S : Nat → Prop} {w : World} (x : K) (p : Option Addr) (c : Nat) (q : Option Addr) (d : Nat) (hx : Kok x) (hr : Rw S w x p c q d) :
    Calls Tryz.prog 56 #[.agg (kcells x p c q d)] w fun e w' => ∃ p' c' q' d', e = .returned (.agg (kcells x p' c' q' d')) ∧ Rw (fun j => w.heap.size ≤ j) w' x p' c' q' d' ∧ Below w.heap.size w w' := by
  have h32 := hx.s32
  have h33 := hx.m32
  go_enter Tryz.func56, Tryz.ntmps56
  go_upto_region 1 with fail
  have B0 : Blk _ w.heap.size (kcells x p c q d) 56 := (Blk.new w (kcells x p c q d) 56).alloc (.cells (kcells AckPlain.zero none 0 none 0) 56)
  have B1 := Blk.new (w.alloc (.cells (kcells x p c q d) 56)) (kcells AckPlain.zero none 0 none 0) 56
  rw [World.size_alloc] at B1
  have L0 : Below w.heap.size w ((w.alloc (.cells (kcells x p c q d) 56)).alloc (.cells (kcells AckPlain.zero none 0 none 0) 56)) := ((Below.refl w.heap.size w).alloc (Nat.le_refl _) _).alloc (by simp) _
  refine at_any ?_
  intro W hW
  rw [← show W = (w.alloc (.cells (kcells x p c q d) 56)).alloc (.cells (kcells AckPlain.zero none 0 none 0) 56) from hW] at B0 B1 L0
  have hsz : W.heap.size = w.heap.size + 2 := by rw [show W = (w.alloc (.cells (kcells x p c q d) 56)).alloc (.cells (kcells AckPlain.zero none 0 none 0) 56) from hW]; simp
  clear hW
  have hs2 : w.heap.size + 2 ≤ W.heap.size := by omega
  clear hsz
  have hr1 := hr.below L0
  have C0 := Span.clone_spans p x.spans.length c x.spans W rfl (by omega) hr1.p0 hr1.s.row
  have c0 : W.cell? ⟨w.heap.size, 0, none⟩ = some (.slice p x.spans.length c) := B0.cell 0
  have f0 := B0.free 0
  have l0 := B0.lt
  generalize hob : w.heap.size + 1 = ob at *
  have l1 := B1.lt
  go_upto_region 2 with (go_at_call 98; refine C0.mono ?_; rintro e w1 ⟨v1, rfl, O1, L1⟩; have D0 := B0.below L1 l0; have D1 := B1.below L1 l1; have r1 := hr1.below L1; have z0 := D0.lt; have z1 := D0.free 0; have z2 : w1.cell? ⟨w.heap.size, 0, none⟩ = some (.slice p x.spans.length c) := D0.cell 0; obtain ⟨p1, c1, rfl, e1, e2, e3, e4⟩ := O1.read)
  have G0 : Blk (w1.setCell ⟨w.heap.size, 0, none⟩ (.slice p1 x.spans.length c1)) w.heap.size #[.slice p1 x.spans.length c1, .slice q x.marked.length d, .int .u64 x.trigger, .int .u64 x.xor, .bool x.parity] 56 := D0.set 0 _
  have G1 := D1.other (a := ⟨w.heap.size, 0, none⟩) (show ob ≠ w.heap.size by omega) (.slice p1 x.spans.length c1)
  have L2 : Below w.heap.size w (w1.setCell ⟨w.heap.size, 0, none⟩ (.slice p1 x.spans.length c1)) := (Base.next L0 L1).setCell (Nat.le_refl _) _
  have hF : Fr (fun k => k = w.heap.size) w1 (w1.setCell ⟨w.heap.size, 0, none⟩ (.slice p1 x.spans.length c1)) := (Fr.refl (fun k => k = w.heap.size) w1).setCell (fun _ => rfl) _
  have s1 := e4.kept hF (fun k hk hk2 => by have := L1.size; omega)
  have r2 := hr.below L2
  clear r1 hr1
  have hs3 := L1.size
  have hs4 : w1.heap.size ≤ (w1.setCell ⟨w.heap.size, 0, none⟩ (.slice p1 x.spans.length c1)).heap.size := by simp [World.setCell]
  generalize w1.setCell ⟨w.heap.size, 0, none⟩ (.slice p1 x.spans.length c1) = W2 at *
  clear c0 f0 C0 z0 z1 z2 D0 D1 hF
  have C1 := Span.clone_spans q x.marked.length d x.marked W2 rfl (by omega) r2.q0 r2.m.row
  have c0 : W2.cell? ⟨w.heap.size, 1, none⟩ = some (.slice q x.marked.length d) := G0.cell 1
  have f0 := G0.free 1
  have l0 := G0.lt
  have l1 := G1.lt
  go_upto_region 3 with (go_at_call 98; refine C1.mono ?_; rintro e w3 ⟨v2, rfl, O2, L3⟩; have D0 := G0.below L3 l0; have D1 := G1.below L3 l1; have z0 := D0.lt; have z1 := D0.free 1; have z2 : w3.cell? ⟨w.heap.size, 1, none⟩ = some (.slice q x.marked.length d) := D0.cell 1; obtain ⟨q1, d1, rfl, g1, g2, g3, g4⟩ := O2.read)
  have H0 : Blk (w3.setCell ⟨w.heap.size, 1, none⟩ (.slice q1 x.marked.length d1)) w.heap.size (kcells x p1 c1 q1 d1) 56 := D0.set 1 _
  have H1 := D1.other (a := ⟨w.heap.size, 1, none⟩) (show ob ≠ w.heap.size by omega) (.slice q1 x.marked.length d1)
  have L4 : Below w.heap.size w (w3.setCell ⟨w.heap.size, 1, none⟩ (.slice q1 x.marked.length d1)) := (Base.next L2 L3).setCell (Nat.le_refl _) _
  have hF : Fr (fun k => k = w.heap.size) w3 (w3.setCell ⟨w.heap.size, 1, none⟩ (.slice q1 x.marked.length d1)) := (Fr.refl (fun k => k = w.heap.size) w3).setCell (fun _ => rfl) _
  have t1 := (s1.kept (T := fun _ => False) (Fr.of_below L3) (fun _ _ h => h)).kept hF (fun k hk hk2 => by omega)
  have t2 := g4.kept hF (fun k hk hk2 => by have := L3.size; omega)
  have hs5 := L3.size
  generalize w3.setCell ⟨w.heap.size, 1, none⟩ (.slice q1 x.marked.length d1) = W4 at *
  clear c0 f0 C1 z0 z1 z2 D0 D1 hF
  have l0 := H0.lt
  go_wp2_with (first
    | (refine wpl_load_row (by rfl) 56 (.tmp 1) rfl w.heap.size rfl 56 (kcells x p1 c1 q1 d1) (0, 0) _ H0 Tryz.underlying56 rfl (by kernel_rfl) ?_)
    | (refine wpl_store_row rfl 56 (.tmp 2) (.tmp 11) rfl H1 (kcells x p1 c1 q1 d1) rfl rfl (by kernel_rfl) rfl (by simp [kcells, Value.oneCell']) ?_))
  refine bodyPost_ret (results_cell_row rfl _ _ ob 56 (kcells x p1 c1 q1 d1) (0, 0) _ rfl (H1.setRow _) Tryz.underlying56 rfl (by kernel_rfl)) rfl ?_
  refine ⟨p1, c1, q1, d1, rfl, ?_, below_setRow' L4 (by omega)⟩
  have hF : Fr (fun k => k = ob) W4 (W4.setRow ob (kcells x p1 c1 q1 d1)) := (Fr.refl (fun k => k = ob) W4).setRow (fun _ => rfl) _
  exact ⟨e1, e2, g1, g2, e3, g3, (t1.kept hF (fun k hk hk2 => by omega)).mono (fun k _ hk => by omega), (t2.kept hF (fun k hk hk2 => by omega)).mono fun k _ hk => by omega⟩
end Go.Proofs.YtkiloaebokkjbaaGreat.Guard

/-
  Contracts of the program's guard: New, Counts, Evidence.
-/
set_option linter.unusedSimpArgs false
set_option linter.unusedVariables false
namespace Go.Proofs.YtkiloaebokkjbaaGreat.Guard
set_option linter.unusedVariables false
set_option maxRecDepth 20000
open Go.ChangeShapes Go.WideShapes Go.ChangeAt Go.RowKit
open Go.Proofs.YtkiloaebokkjbaaGreat.Base Go.Proofs.YtkiloaebokkjbaaGreat.LedPlain Go.Proofs.YtkiloaebokkjbaaGreat.BudPlain Go.Proofs.YtkiloaebokkjbaaGreat.GuardPlain Go.Proofs.YtkiloaebokkjbaaGreat.Led Go.Proofs.YtkiloaebokkjbaaGreat.Bud Go.Proofs.YtkiloaebokkjbaaGreat.SpanPlain
open Go.Proofs.YtkiloaebokkjbaaGreat.AckPlain (K)
open Go.Proofs.YtkiloaebokkjbaaGreat.OctPlain (Bytes)

theorem new_any (most every : Int) (m0 : -9223372036854775808 ≤ most) (m1 : most ≤ 9223372036854775807) (e0 : 0 ≤ every) (e1 : every ≤ 18446744073709551615) (w : World) :
    Calls Tryz.prog 10 #[.int .i64 most, .int .u64 every] w fun e w' => ∃ a, e = .returned (.pointer (some a)) ∧ Grd (fun k => w.heap.size ≤ k ∧ k < w'.heap.size) (fun _ => False) w' a (newD most every) ∧ Below w.heap.size w w' := by
  have CB := Bud.new_any most every m0 m1 e0 e1 w
  go_enter Tryz.func10, Tryz.ntmps10
  go_wp2_with (go_at_call 37; refine CB.mono ?_; rintro e w1 ⟨ba, rfl, hb, L1⟩)
  go_ret
  have hs := L1.size
  refine ⟨_, rfl, ⟨fun _ _ h => h, w1.heap.size, ba, _, 0, none, rfl, ⟨⟨hs, by simp⟩, Blk.new _ _ _, hb.below ((Below.refl _ _).alloc (Nat.le_refl _) _), fun k hk => ⟨⟨hk.1, by simp; omega⟩, by omega⟩, fun _ => ⟨rfl, rfl, rfl⟩, fun h => by cases h⟩⟩, L1.alloc hs _⟩
set_option maxHeartbeats 2000000 in
theorem counts_any {S R : Nat → Prop} {w : World} {a : Addr} {g : Gd} {N : Nat} (hG : Grd S R w a g) (hc : Cb g N) (hN : N ≤ 1000000) :
    Calls Tryz.prog 17 #[.pointer (some a)] w fun e w' => e = .returned (.agg #[.int .u64 g.n.mal, .int .u64 g.n.drop, .int .u64 g.n.taken, .int .u64 g.n.chal, .int .u64 g.n.late]) ∧ Below w.heap.size w w' := by
  obtain ⟨b, ba, S1, dn, ev, rfl, hP⟩ := hG.ex
  have B := hP.blk
  clear hc hP hG
  obtain ⟨⟨bm, be, bt, bl⟩, ⟨c1, c2, c3, c4, c5⟩, en, ee⟩ := g
  simp only at *
  go_enter Tryz.func17, Tryz.ntmps17
  go_upto_region 1 with fail
  have B0 := Blk.new w #[.int .u64 0, .int .u64 0, .int .u64 0, .int .u64 0, .int .u64 0] 52
  have L0 := (Below.refl w.heap.size w).alloc (Nat.le_refl _) (.cells #[.int .u64 0, .int .u64 0, .int .u64 0, .int .u64 0, .int .u64 0] 52)
  have B1 := B.alloc (.cells #[.int .u64 0, .int .u64 0, .int .u64 0, .int .u64 0, .int .u64 0] 52)
  refine at_any ?_
  intro W hW
  rw [← show W = w.alloc (.cells #[.int .u64 0, .int .u64 0, .int .u64 0, .int .u64 0, .int .u64 0] 52) from hW] at B0 L0 B1
  clear hW
  go_upto_region 3 with fail
  have lb := B0.lt
  have d1 := fun p : In (Lt W) => inCell p (v := .int .u64 c1) (B1.cell 1)
  have d2 := fun p : In (Lt W) => inCell p (v := .int .u64 c2) (B1.cell 2)
  have d3 := fun p : In (Lt W) => inCell p (v := .int .u64 c3) (B1.cell 3)
  have d4 := fun p : In (Lt W) => inCell p (v := .int .u64 c4) (B1.cell 4)
  have d5 := fun p : In (Lt W) => inCell p (v := .int .u64 c5) (B1.cell 5)
  refine wp_region_rest (C := fun w' => ∃ p : In (Lt W), w' = p.w) 21 1 (by kernel_rfl) (by kernel_rfl) (by kernel_rfl) (by kernel_rfl) (by kernel_rfl) ⟨⟨W.drew, Lt.drew W⟩, rfl⟩ ?_
  simp only [List.toList_toArray, List.take_succ_cons, List.take_zero]
  repeat (go_big_quiet_step (first
    | (go_at_call 44; refine in_same (v := .int .u64 c1) ?_; exact (Once.load64 _ _ _ (d1 _)).mono fun _ _ h => ⟨h.1, h.2.symm⟩)
    | (go_at_call 44; refine in_same (v := .int .u64 c2) ?_; exact (Once.load64 _ _ _ (d2 _)).mono fun _ _ h => ⟨h.1, h.2.symm⟩)
    | (go_at_call 44; refine in_same (v := .int .u64 c3) ?_; exact (Once.load64 _ _ _ (d3 _)).mono fun _ _ h => ⟨h.1, h.2.symm⟩)
    | (go_at_call 44; refine in_same (v := .int .u64 c4) ?_; exact (Once.load64 _ _ _ (d4 _)).mono fun _ _ h => ⟨h.1, h.2.symm⟩)
    | (go_at_call 44; refine in_same (v := .int .u64 c5) ?_; exact (Once.load64 _ _ _ (d5 _)).mono fun _ _ h => ⟨h.1, h.2.symm⟩)))
  refine wpQuiet_nil ?_
  rintro w5 ⟨⟨_, hw5⟩, rfl⟩
  have hw5 : Below W.heap.size W w5 := hw5
  clear d1 d2 d3 d4 d5 B1
  have B5 := B0.below hw5 lb
  refine wpAny_of_held (S := fun _ => True) _ _ _ _ ?_
  refine held_st (i := 21) rfl (by kernel_rfl) (by kernel_rfl) (st_row 52 (.tmp 2) (.tmp 26) rfl (g := w.heap.size) (cells := #[.int .u64 c1, .int .u64 c2, .int .u64 c3, .int .u64 c4, .int .u64 c5]) (by kernel_rfl) (by kernel_rfl) B5 (by kernel_rfl) rfl (by simp [Value.oneCell'])) trivial ?_
  refine held_end 2 (.pointer (some ⟨w.heap.size, 0, none⟩)) (by kernel_rfl) (by kernel_rfl) (by kernel_rfl) fun a' hd hv => ?_
  go_wp2
  refine bodyPost_ret (results_cell_row rfl _ _ w.heap.size 52 #[.int .u64 c1, .int .u64 c2, .int .u64 c3, .int .u64 c4, .int .u64 c5] (0, 0) _ hv (B5.setRow _) Tryz.underlying52 rfl (by kernel_rfl)) hd ?_
  exact ⟨rfl, below_setRow' (Base.next L0 hw5) (Nat.le_refl _)⟩
set_option maxHeartbeats 2000000 in
theorem evidence_any {S R : Nat → Prop} {w : World} {a : Addr} {g : Gd} {N : Nat} (hG : Grd S R w a g) (hc : Cb g N) (hN : N ≤ 1000000) :
    Calls Tryz.prog 23 #[.pointer (some a)] w fun e w' => ∃ p c q d, e = .returned (.tuple #[.agg (ecells g.e p c q d), .bool g.ended]) ∧ Rw (fun j => R j ∨ w.heap.size ≤ j) w' g.e.ack p c q d ∧ Below w.heap.size w w' := by
  obtain ⟨b, ba, S1, dn, ev, rfl, hP⟩ := hG.ex
  have B := hP.blk
  have hE := hP.evi
  have hK := hc.k
  clear hc hP hG
  obtain ⟨⟨bm, be, bt, bl⟩, n, en, ee⟩ := g
  simp only at *
  cases en with
  | false =>
    obtain ⟨rfl, rfl, rfl⟩ := hE.no rfl
    go_enter Tryz.func23, Tryz.ntmps23
    go_upto_region 1 with fail
    have B0 := Blk.new w (ecells noEv none 0 none 0) 65
    have L0 := (Below.refl w.heap.size w).alloc (Nat.le_refl _) (.cells (ecells noEv none 0 none 0) 65)
    have B1 := B.alloc (.cells (ecells noEv none 0 none 0) 65)
    refine at_any ?_
    intro W hW
    rw [← show W = w.alloc (.cells (ecells noEv none 0 none 0) 65) from hW] at B0 L0 B1
    clear hW
    have k9 : W.cell? ⟨b, 9, none⟩ = some (.pointer none) := B1.cell 9
    have lb := B0.lt
    go_wp2_with (refine wpl_store_row rfl 65 (.tmp 2) (.tmp 14) rfl B0 (ecells noEv none 0 none 0) rfl rfl (by kernel_rfl) rfl (by simp [ecells, Value.oneCell']) ?_)
    refine bodyPost_ret (Ack.results_row2 rfl _ _ w.heap.size 65 (ecells noEv none 0 none 0) _ rfl (B0.setRow _) Tryz.underlying65 rfl (by kernel_rfl)) rfl ?_
    exact ⟨none, 0, none, 0, rfl, Rw.zero _ _, below_setRow' L0 (Nat.le_refl _)⟩
  | true =>
    obtain ⟨rfl, eb, p, c, q, d, rfl, hB, hR, hW⟩ := hE.yes rfl
    go_enter Tryz.func23, Tryz.ntmps23
    go_upto_region 1 with fail
    have B0 := Blk.new w (ecells noEv none 0 none 0) 65
    have L0 := (Below.refl w.heap.size w).alloc (Nat.le_refl _) (.cells (ecells noEv none 0 none 0) 65)
    have B1 := B.alloc (.cells (ecells noEv none 0 none 0) 65)
    have E1 := hB.alloc (.cells (ecells noEv none 0 none 0) 65)
    have hs1 : w.heap.size + 1 ≤ (w.alloc (.cells (ecells noEv none 0 none 0) 65)).heap.size := by simp
    refine at_any ?_
    intro W hW0
    rw [← show W = w.alloc (.cells (ecells noEv none 0 none 0) 65) from hW0] at B0 L0 B1 E1 hs1
    clear hW0
    have k9 : W.cell? ⟨b, 9, none⟩ = some (.pointer (some ⟨eb, 0, none⟩)) := B1.cell 9
    have lb := B0.lt
    have le := E1.lt
    go_upto_region 4 with (refine wpl_load_row (by rfl) 65 (.tmp 19) rfl eb rfl 65 #[.int .u64 ee.time, .int .u64 ee.pn, .int .u64 ee.used, .int .i64 ee.why, .slice p ee.ack.spans.length c, .slice q ee.ack.marked.length d, .int .u64 ee.ack.trigger, .int .u64 ee.ack.xor, .bool ee.ack.parity] (0, 0) _ E1 Tryz.underlying65 rfl (by kernel_rfl) ?_)
    have V0 := Blk.new W (ecells ee p c q d) 65
    have M0 : Below w.heap.size w (W.alloc (.cells (ecells ee p c q d) 65)) := L0.alloc (by omega) _
    have R0 := B0.alloc (.cells (ecells ee p c q d) 65)
    have hw1 := hW.below M0
    generalize hvb : W.heap.size = vb at *
    have hvb : w.heap.size + 1 ≤ vb := by omega
    refine at_any ?_
    intro W2 hW2
    rw [← show W2 = W.alloc (.cells (ecells ee p c q d) 65) from hW2] at V0 M0 R0 hw1
    clear hW2
    have CC := clone_any ee.ack p c q d hK hw1
    have l2 := V0.lt
    have l3 := R0.lt
    have q4 : W2.cell? ⟨vb, 4, none⟩ = some (.slice p ee.ack.spans.length c) := V0.cell 4
    have q5 : W2.cell? ⟨vb, 5, none⟩ = some (.slice q ee.ack.marked.length d) := V0.cell 5
    have q6 : W2.cell? ⟨vb, 6, none⟩ = some (.int .u64 ee.ack.trigger) := V0.cell 6
    have q7 : W2.cell? ⟨vb, 7, none⟩ = some (.int .u64 ee.ack.xor) := V0.cell 7
    have q8 : W2.cell? ⟨vb, 8, none⟩ = some (.bool ee.ack.parity) := V0.cell 8
    go_upto_region 5 with (first
      | (go_at_call 56; refine CC.mono ?_; rintro e w3 ⟨p', c', q', d', rfl, hr3, L3⟩; have V3 := V0.below L3 l2; have R3 := R0.below L3 l3; have M3 := Base.next M0 L3; clear q4 q5 q6 q7 q8)
      | (refine wpl_store_mid rfl 56 (.tmp 24) (.tmp 23) rfl V3 4 (kcells ee.ack p' c' q' d') rfl rfl (by kernel_rfl) (by simp [ecells, kcells]) (by simp [kcells, Value.oneCell']) ?_))
    have V4 := V3.mid 4 (kcells ee.ack p' c' q' d').toList
    rw [show putAll (ecells ee p c q d) 4 (kcells ee.ack p' c' q' d').toList = ecells ee p' c' q' d' by simp [putAll, ecells, kcells]] at V4
    have R4 := R3.otherMid (show w.heap.size ≠ vb by omega) 4 (kcells ee.ack p' c' q' d').toList
    have M4 := below_setCells (show w.heap.size ≤ vb by omega) M3 4 (kcells ee.ack p' c' q' d').toList
    have hF : Fr (fun j => j = vb) w3 (w3.setCells vb 4 (kcells ee.ack p' c' q' d').toList) := setCells_fr _ _ _ _
    generalize w3.setCells vb 4 (kcells ee.ack p' c' q' d').toList = W5 at *
    have l4 := V4.lt
    have l5 := R4.lt
    go_wp2_with (first
      | (refine wpl_load_row (by rfl) 65 (.tmp 4) rfl vb rfl 65 (ecells ee p' c' q' d') (0, 0) _ V4 Tryz.underlying65 rfl (by kernel_rfl) ?_)
      | (refine wpl_store_row rfl 65 (.tmp 2) (.tmp 25) rfl R4 (ecells ee p' c' q' d') rfl rfl (by kernel_rfl) rfl (by simp [ecells, Value.oneCell']) ?_))
    refine bodyPost_ret (Ack.results_row2 rfl _ _ w.heap.size 65 (ecells ee p' c' q' d') _ rfl (R4.setRow _) Tryz.underlying65 rfl (by kernel_rfl)) rfl ?_
    have hF2 : Fr (fun j => j = w.heap.size) W5 (W5.setRow w.heap.size (ecells ee p' c' q' d')) := (Fr.refl (fun j => j = w.heap.size) W5).setRow (fun _ => rfl) _
    exact ⟨p', c', q', d', rfl, (hr3.kept hF (fun j hj hj2 => by omega)).kept hF2 (fun j hj hj2 => by omega) |>.mono fun j _ hj => .inr (by omega), below_setRow' M4 (Nat.le_refl _)⟩
end Go.Proofs.YtkiloaebokkjbaaGreat.Guard

/-
  Contracts of the program's guard: the evidence is stored once; Fork.
-/
set_option linter.unusedSimpArgs false
set_option linter.unusedVariables false
namespace Go.Proofs.YtkiloaebokkjbaaGreat.Guard
set_option linter.unusedVariables false
set_option maxRecDepth 20000
open Go.ChangeShapes Go.WideShapes Go.ChangeAt Go.RowKit
open Go.Proofs.YtkiloaebokkjbaaGreat.Base Go.Proofs.YtkiloaebokkjbaaGreat.LedPlain Go.Proofs.YtkiloaebokkjbaaGreat.BudPlain Go.Proofs.YtkiloaebokkjbaaGreat.GuardPlain Go.Proofs.YtkiloaebokkjbaaGreat.Led Go.Proofs.YtkiloaebokkjbaaGreat.Bud Go.Proofs.YtkiloaebokkjbaaGreat.SpanPlain
open Go.Proofs.YtkiloaebokkjbaaGreat.AckPlain (K)
open Go.Proofs.YtkiloaebokkjbaaGreat.OctPlain (Bytes)

set_option maxHeartbeats 2000000 in
/-- The evidence e, whose rows lie in Y, is stored. -/
theorem keep_any {S R Y : Nat → Prop} {w : World} {a : Addr} {g : Gd} (hG : Grd S R w a g) (hg : g.ended = false) (e : Ev) (p : Option Addr) (c : Nat) (q : Option Addr) (d : Nat) (hr : Rw Y w e.ack p c q d) (hy : ∀ k, S k → ¬ Y k) :
    Calls Tryz.prog 66 #[.pointer (some a), .agg (ecells e p c q d)] w fun o w' => o = .returned (.tuple #[]) ∧ Grd (fun k => S k ∧ k < w.heap.size) (fun k => (Y k ∧ k < w.heap.size) ∨ (w.heap.size ≤ k ∧ k < w'.heap.size)) w' a { g with ended := true, e := e } ∧ Fr S w w' := by
  obtain ⟨b, ba, S1, dn, ev, rfl, hP⟩ := hG.ex
  have hdis := hG.dis
  obtain ⟨bg, n, en, ee⟩ := g
  simp only at hg hP ⊢
  subst hg
  obtain ⟨rfl, rfl, _⟩ := hP.evi.no rfl
  have hbl := hP.blk.lt
  have hA : Below w.heap.size w ((w.alloc (.cells #[.pointer (some ⟨b, 0, none⟩)] 31)).alloc (.cells (ecells e p c q d) 65)) := ((Below.refl w.heap.size w).alloc (Nat.le_refl _) _).alloc (by simp) _
  have B := hP.blk.below hA hbl
  have hP2 := hP.below hA
  have hr2 := hr.below hA
  have V0 := (Blk.new w #[.pointer (some ⟨b, 0, none⟩)] 31).alloc (.cells (ecells e p c q d) 65)
  have V1 := Blk.new (w.alloc (.cells #[.pointer (some ⟨b, 0, none⟩)] 31)) (ecells e p c q d) 65
  rw [World.size_alloc] at V1
  have hsz : w.heap.size + 2 ≤ ((w.alloc (.cells #[.pointer (some ⟨b, 0, none⟩)] 31)).alloc (.cells (ecells e p c q d) 65)).heap.size := by simp only [World.size_alloc]; omega
  have hmf : ∀ (fn : Fn) (first cap : Array Value) (w : World), (Instr.makeFunc fn first cap).run Tryz.prog w = .ok (.func fn first cap) w := fun _ _ _ _ => rfl
  go_enter Tryz.func66, Tryz.ntmps66
  go_upto_region 1 with fail
  refine at_any ?_
  intro W hW
  rw [← show W = (w.alloc (.cells #[.pointer (some ⟨b, 0, none⟩)] 31)).alloc (.cells (ecells e p c q d) 65) from hW] at hA B hP2 hr2 V0 V1 hsz
  clear hW
  generalize hvb : w.heap.size + 1 = vb at *
  have hvb : w.heap.size < vb := by omega
  have CD := Once.do_first b w.heap.size ⟨vb, 0, none⟩ (by omega) (.pointer none) W (V0.cell 0) (B.cell 6) (B.cell 7) (B.cell 9) (B.free 6) (B.free 7) (B.free 9)
  have p0 : W.cell? ⟨w.heap.size, 0, none⟩ = some (.pointer (some ⟨b, 0, none⟩)) := V0.cell 0
  have l0 := V0.lt
  go_wp2_with (go_at_call 102; refine CD.mono ?_; rintro o w' ⟨rfl, rfl⟩)
  go_end0
  clear CD p0
  have hF : Fr (fun k => k = b) W (((((W.setCell ⟨b, 7, none⟩ (.int .i32 1)).setCell ⟨b, 9, none⟩ (.pointer (some ⟨vb, 0, none⟩))).setCell ⟨b, 6, none⟩ (.int .u32 1)).setCell ⟨b, 7, none⟩ (.int .i32 0)).drew) :=
    (((((Fr.refl (fun k => k = b) W).setCell (p := ⟨b, 7, none⟩) (fun _ => rfl) _).setCell (p := ⟨b, 9, none⟩) (fun _ => rfl) _).setCell (p := ⟨b, 6, none⟩) (fun _ => rfl) _).setCell (p := ⟨b, 7, none⟩) (fun _ => rfl) _).drew
  have hB := ((((B.set 7 (.int .i32 1)).set 9 (.pointer (some ⟨vb, 0, none⟩))).set 6 (.int .u32 1)).set 7 (.int .i32 0)).drew
  generalize ((((W.setCell ⟨b, 7, none⟩ (.int .i32 1)).setCell ⟨b, 9, none⟩ (.pointer (some ⟨vb, 0, none⟩))).setCell ⟨b, 6, none⟩ (.int .u32 1)).setCell ⟨b, 7, none⟩ (.int .i32 0)).drew = W2 at *
  have hB2 : Blk W2 b (pcells ba n 1 (some ⟨vb, 0, none⟩)) 110 := by simpa [pcells] using hB
  have hs := hF.size
  have hwl := V1.lt
  have hbud := hP2.bud.kept hF fun k hk => (hP2.s1 k hk).2
  refine ⟨rfl, ⟨fun k hk h2 => ?_, b, ba, fun k => S1 k ∧ k < w.heap.size, 1, some ⟨vb, 0, none⟩, rfl, ⟨hP.inB, hbl⟩, hB2, ?_, fun k hk => ⟨⟨(hP.s1 k hk.1).1, hk.2⟩, (hP.s1 k hk.1).2⟩, ⟨fun h => (by cases h), fun _ => ⟨rfl, vb, p, c, q, d, rfl, V1.kept hF (by omega), .inr ⟨by omega, by omega⟩, ?_⟩⟩⟩, ?_⟩
  · rcases h2 with h2 | h2
    · exact hy k hk.1 h2.1
    · omega
  · exact ((bud_cut hP.bud).below hA).kept hF fun k hk => (hP.s1 k hk.1).2
  · exact ((hr.mono (fun k h1 h2 => (⟨h2, h1⟩ : Y k ∧ k < w.heap.size))).below hA).kept hF (fun k hk hkb => by subst hkb; exact hy _ hP.inB hk.1) |>.mono fun k _ hk => .inl hk
  · exact (Fr.of_below (S := S) hA).trans hF fun k _ hk => by subst hk; exact hP.inB
set_option maxHeartbeats 4000000 in
/-- The counts are set. -/
theorem start_any {S R : Nat → Prop} {w : World} {a : Addr} {g : Gd} (hG : Grd S R w a g) (n : Ct) :
    Calls Tryz.prog 65 #[.pointer (some a), .agg #[.int .u64 n.mal, .int .u64 n.drop, .int .u64 n.taken, .int .u64 n.chal, .int .u64 n.late]] w fun o w' => o = .returned (.tuple #[]) ∧ Grd S R w' a { g with n := n } ∧ Fr S w w' := by
  obtain ⟨b, ba, S1, dn, ev, rfl, hP0⟩ := hG.ex
  have hdis := hG.dis
  clear hG
  obtain ⟨bg, ⟨c1, c2, c3, c4, c5⟩, en, ee⟩ := g
  obtain ⟨n1, n2, n3, n4, n5⟩ := n
  simp only at hP0 ⊢
  have hbl := hP0.blk.lt
  have hA : Below w.heap.size w (w.alloc (.cells #[.int .u64 n1, .int .u64 n2, .int .u64 n3, .int .u64 n4, .int .u64 n5] 52)) := (Below.refl w.heap.size w).alloc (Nat.le_refl _) _
  have hP := hP0.below hA
  have V := Blk.new w #[.int .u64 n1, .int .u64 n2, .int .u64 n3, .int .u64 n4, .int .u64 n5] 52
  have hF0 : Fr S w (w.alloc (.cells #[.int .u64 n1, .int .u64 n2, .int .u64 n3, .int .u64 n4, .int .u64 n5] 52)) := Fr.of_below hA
  clear hP0 hA
  go_enter Tryz.func65, Tryz.ntmps65
  go_upto_region 1 with fail
  refine at_any ?_
  intro W hW
  rw [← show W = w.alloc (.cells #[.int .u64 n1, .int .u64 n2, .int .u64 n3, .int .u64 n4, .int .u64 n5] 52) from hW] at hP V hF0
  clear hW
  have k1 := fun p : In (Lt W) => inCell p (v := .int .u64 n1) (V.cell 0)
  refine wp_region_rest (C := fun w' => ∃ p : In (Lt W), w' = p.w) 5 1 (by kernel_rfl) (by kernel_rfl) (by kernel_rfl) (by kernel_rfl) (by kernel_rfl) ⟨⟨W.drew, Lt.drew W⟩, rfl⟩ ?_
  simp only [List.toList_toArray, List.take_succ_cons, List.take_zero]
  repeat (go_big_quiet_step (fail))
  refine wpQuiet_nil ?_
  rintro w5 ⟨⟨_, hw5⟩, rfl⟩
  have hw5 : Below W.heap.size W w5 := hw5
  clear k1
  have hP5 := hP.below hw5
  have V5 := V.below hw5 V.lt
  refine wpAny_of_held (S := fun _ => True) _ _ _ _ ?_
  refine h2_call 9 (i := 5) (f := 101) (args := #[.pointer (some ⟨b, 1, none⟩), .int .u64 n1]) rfl rfl (by kernel_rfl) (by kernel_rfl) (by kernel_rfl) ((Once.store64 ⟨b, 1, none⟩ c1 n1 w5 (hP5.blk.cell 1) (hP5.blk.free 1)).mono ?_)
  rintro _ _ ⟨rfl, rfl⟩
  refine ⟨_, rfl, trivial, ?_⟩
  refine held_done (by kernel_rfl) ?_
  simp only [Act.put, List.setIfInBounds_toArray, List.set_cons_succ, List.set_cons_zero]
  have hP6 := hP5.turn hdis 1 (.int .u64 n1) (n' := ⟨n1, c2, c3, c4, c5⟩) rfl
  have V6 := V5.other (a := ⟨b, 1, none⟩) (show w.heap.size ≠ b by omega) (.int .u64 n1)
  have hF6 : Fr S w (w5.setCell ⟨b, 1, none⟩ (.int .u64 n1)) := (hF0.trans (T := fun _ => False) (Fr.of_below hw5) fun _ _ h => h.elim).setCell (fun _ => hP.inB) _
  generalize w5.setCell ⟨b, 1, none⟩ (.int .u64 n1) = W1 at *
  clear hP hP5 V V5 hF0 hw5
  have hP := hP6
  have V := V6
  have hF0 := hF6
  clear hP6 V6 hF6
  go_upto_region 2 with fail
  have k2 := fun p : In (Lt W1) => inCell p (v := .int .u64 n2) (V.cell 1)
  refine wp_region_rest (C := fun w' => ∃ p : In (Lt W1), w' = p.w) 5 1 (by kernel_rfl) (by kernel_rfl) (by kernel_rfl) (by kernel_rfl) (by kernel_rfl) ⟨⟨W1.drew, Lt.drew W1⟩, rfl⟩ ?_
  simp only [List.toList_toArray, List.take_succ_cons, List.take_zero]
  repeat (go_big_quiet_step (fail))
  refine wpQuiet_nil ?_
  rintro w5 ⟨⟨_, hw5⟩, rfl⟩
  have hw5 : Below W1.heap.size W1 w5 := hw5
  clear k2
  have hP5 := hP.below hw5
  have V5 := V.below hw5 V.lt
  refine wpAny_of_held (S := fun _ => True) _ _ _ _ ?_
  refine h2_call 15 (i := 5) (f := 101) (args := #[.pointer (some ⟨b, 2, none⟩), .int .u64 n2]) rfl rfl (by kernel_rfl) (by kernel_rfl) (by kernel_rfl) ((Once.store64 ⟨b, 2, none⟩ c2 n2 w5 (hP5.blk.cell 2) (hP5.blk.free 2)).mono ?_)
  rintro _ _ ⟨rfl, rfl⟩
  refine ⟨_, rfl, trivial, ?_⟩
  refine held_done (by kernel_rfl) ?_
  simp only [Act.put, List.setIfInBounds_toArray, List.set_cons_succ, List.set_cons_zero]
  have hP6 := hP5.turn hdis 2 (.int .u64 n2) (n' := ⟨n1, n2, c3, c4, c5⟩) rfl
  have V6 := V5.other (a := ⟨b, 2, none⟩) (show w.heap.size ≠ b by omega) (.int .u64 n2)
  have hF6 : Fr S w (w5.setCell ⟨b, 2, none⟩ (.int .u64 n2)) := (hF0.trans (T := fun _ => False) (Fr.of_below hw5) fun _ _ h => h.elim).setCell (fun _ => hP.inB) _
  generalize w5.setCell ⟨b, 2, none⟩ (.int .u64 n2) = W2 at *
  clear hP hP5 V V5 hF0 hw5
  have hP := hP6
  have V := V6
  have hF0 := hF6
  clear hP6 V6 hF6
  go_upto_region 3 with fail
  have k3 := fun p : In (Lt W2) => inCell p (v := .int .u64 n3) (V.cell 2)
  refine wp_region_rest (C := fun w' => ∃ p : In (Lt W2), w' = p.w) 5 1 (by kernel_rfl) (by kernel_rfl) (by kernel_rfl) (by kernel_rfl) (by kernel_rfl) ⟨⟨W2.drew, Lt.drew W2⟩, rfl⟩ ?_
  simp only [List.toList_toArray, List.take_succ_cons, List.take_zero]
  repeat (go_big_quiet_step (fail))
  refine wpQuiet_nil ?_
  rintro w5 ⟨⟨_, hw5⟩, rfl⟩
  have hw5 : Below W2.heap.size W2 w5 := hw5
  clear k3
  have hP5 := hP.below hw5
  have V5 := V.below hw5 V.lt
  refine wpAny_of_held (S := fun _ => True) _ _ _ _ ?_
  refine h2_call 21 (i := 5) (f := 101) (args := #[.pointer (some ⟨b, 3, none⟩), .int .u64 n3]) rfl rfl (by kernel_rfl) (by kernel_rfl) (by kernel_rfl) ((Once.store64 ⟨b, 3, none⟩ c3 n3 w5 (hP5.blk.cell 3) (hP5.blk.free 3)).mono ?_)
  rintro _ _ ⟨rfl, rfl⟩
  refine ⟨_, rfl, trivial, ?_⟩
  refine held_done (by kernel_rfl) ?_
  simp only [Act.put, List.setIfInBounds_toArray, List.set_cons_succ, List.set_cons_zero]
  have hP6 := hP5.turn hdis 3 (.int .u64 n3) (n' := ⟨n1, n2, n3, c4, c5⟩) rfl
  have V6 := V5.other (a := ⟨b, 3, none⟩) (show w.heap.size ≠ b by omega) (.int .u64 n3)
  have hF6 : Fr S w (w5.setCell ⟨b, 3, none⟩ (.int .u64 n3)) := (hF0.trans (T := fun _ => False) (Fr.of_below hw5) fun _ _ h => h.elim).setCell (fun _ => hP.inB) _
  generalize w5.setCell ⟨b, 3, none⟩ (.int .u64 n3) = W3 at *
  clear hP hP5 V V5 hF0 hw5
  have hP := hP6
  have V := V6
  have hF0 := hF6
  clear hP6 V6 hF6
  go_upto_region 4 with fail
  have k4 := fun p : In (Lt W3) => inCell p (v := .int .u64 n4) (V.cell 3)
  refine wp_region_rest (C := fun w' => ∃ p : In (Lt W3), w' = p.w) 5 1 (by kernel_rfl) (by kernel_rfl) (by kernel_rfl) (by kernel_rfl) (by kernel_rfl) ⟨⟨W3.drew, Lt.drew W3⟩, rfl⟩ ?_
  simp only [List.toList_toArray, List.take_succ_cons, List.take_zero]
  repeat (go_big_quiet_step (fail))
  refine wpQuiet_nil ?_
  rintro w5 ⟨⟨_, hw5⟩, rfl⟩
  have hw5 : Below W3.heap.size W3 w5 := hw5
  clear k4
  have hP5 := hP.below hw5
  have V5 := V.below hw5 V.lt
  refine wpAny_of_held (S := fun _ => True) _ _ _ _ ?_
  refine h2_call 27 (i := 5) (f := 101) (args := #[.pointer (some ⟨b, 4, none⟩), .int .u64 n4]) rfl rfl (by kernel_rfl) (by kernel_rfl) (by kernel_rfl) ((Once.store64 ⟨b, 4, none⟩ c4 n4 w5 (hP5.blk.cell 4) (hP5.blk.free 4)).mono ?_)
  rintro _ _ ⟨rfl, rfl⟩
  refine ⟨_, rfl, trivial, ?_⟩
  refine held_done (by kernel_rfl) ?_
  simp only [Act.put, List.setIfInBounds_toArray, List.set_cons_succ, List.set_cons_zero]
  have hP6 := hP5.turn hdis 4 (.int .u64 n4) (n' := ⟨n1, n2, n3, n4, c5⟩) rfl
  have V6 := V5.other (a := ⟨b, 4, none⟩) (show w.heap.size ≠ b by omega) (.int .u64 n4)
  have hF6 : Fr S w (w5.setCell ⟨b, 4, none⟩ (.int .u64 n4)) := (hF0.trans (T := fun _ => False) (Fr.of_below hw5) fun _ _ h => h.elim).setCell (fun _ => hP.inB) _
  generalize w5.setCell ⟨b, 4, none⟩ (.int .u64 n4) = W4 at *
  clear hP hP5 V V5 hF0 hw5
  have hP := hP6
  have V := V6
  have hF0 := hF6
  clear hP6 V6 hF6
  go_upto_region 5 with fail
  have k5 := fun p : In (Lt W4) => inCell p (v := .int .u64 n5) (V.cell 4)
  refine wp_region_rest (C := fun w' => ∃ p : In (Lt W4), w' = p.w) 5 1 (by kernel_rfl) (by kernel_rfl) (by kernel_rfl) (by kernel_rfl) (by kernel_rfl) ⟨⟨W4.drew, Lt.drew W4⟩, rfl⟩ ?_
  simp only [List.toList_toArray, List.take_succ_cons, List.take_zero]
  repeat (go_big_quiet_step (fail))
  refine wpQuiet_nil ?_
  rintro w5 ⟨⟨_, hw5⟩, rfl⟩
  have hw5 : Below W4.heap.size W4 w5 := hw5
  clear k5
  have hP5 := hP.below hw5
  have V5 := V.below hw5 V.lt
  refine wpAny_of_held (S := fun _ => True) _ _ _ _ ?_
  refine h2_call 33 (i := 5) (f := 101) (args := #[.pointer (some ⟨b, 5, none⟩), .int .u64 n5]) rfl rfl (by kernel_rfl) (by kernel_rfl) (by kernel_rfl) ((Once.store64 ⟨b, 5, none⟩ c5 n5 w5 (hP5.blk.cell 5) (hP5.blk.free 5)).mono ?_)
  rintro _ _ ⟨rfl, rfl⟩
  refine ⟨_, rfl, trivial, ?_⟩
  refine held_done (by kernel_rfl) ?_
  simp only [Act.put, List.setIfInBounds_toArray, List.set_cons_succ, List.set_cons_zero]
  have hP6 := hP5.turn hdis 5 (.int .u64 n5) (n' := ⟨n1, n2, n3, n4, n5⟩) rfl
  have V6 := V5.other (a := ⟨b, 5, none⟩) (show w.heap.size ≠ b by omega) (.int .u64 n5)
  have hF6 : Fr S w (w5.setCell ⟨b, 5, none⟩ (.int .u64 n5)) := (hF0.trans (T := fun _ => False) (Fr.of_below hw5) fun _ _ h => h.elim).setCell (fun _ => hP.inB) _
  generalize w5.setCell ⟨b, 5, none⟩ (.int .u64 n5) = W5 at *
  clear hP hP5 V V5 hF0 hw5
  have hP := hP6
  have V := V6
  have hF0 := hF6
  clear hP6 V6 hF6
  go_wp2
  go_end0
  exact ⟨rfl, ⟨hdis, b, ba, S1, dn, ev, rfl, hP⟩, hF0⟩
end Go.Proofs.YtkiloaebokkjbaaGreat.Guard

/-
  Contract of the program's guard: Fork.
-/
set_option linter.unusedSimpArgs false
set_option linter.unusedVariables false
namespace Go.Proofs.YtkiloaebokkjbaaGreat.Guard
set_option linter.unusedVariables false
set_option maxRecDepth 20000
open Go.ChangeShapes Go.WideShapes Go.ChangeAt Go.RowKit
open Go.Proofs.YtkiloaebokkjbaaGreat.Base Go.Proofs.YtkiloaebokkjbaaGreat.LedPlain Go.Proofs.YtkiloaebokkjbaaGreat.BudPlain Go.Proofs.YtkiloaebokkjbaaGreat.GuardPlain Go.Proofs.YtkiloaebokkjbaaGreat.Led Go.Proofs.YtkiloaebokkjbaaGreat.Bud Go.Proofs.YtkiloaebokkjbaaGreat.SpanPlain
open Go.Proofs.YtkiloaebokkjbaaGreat.AckPlain (K)
open Go.Proofs.YtkiloaebokkjbaaGreat.OctPlain (Bytes)

theorem Grd.cut {S R : Nat → Prop} {w : World} {a : Addr} {g : Gd} (h : Grd S R w a g) : Grd (fun k => S k ∧ k < w.heap.size) (fun k => R k ∧ k < w.heap.size) w a g := by
  obtain ⟨b, ba, S1, dn, ev, rfl, hP⟩ := h.ex
  exact ⟨fun k h1 h2 => h.dis k h1.1 h2.1, b, ba, fun k => S1 k ∧ k < w.heap.size, dn, ev, rfl, ⟨hP.inB, hP.blk.lt⟩, hP.blk, bud_cut hP.bud, fun k hk => ⟨⟨(hP.s1 k hk.1).1, hk.2⟩, (hP.s1 k hk.1).2⟩, hP.evi.mono fun k h1 h2 => ⟨h2, h1⟩⟩
set_option maxHeartbeats 2000000 in
theorem fork_any {S R : Nat → Prop} {w : World} {a : Addr} {g : Gd} {N : Nat} (hG : Grd S R w a g) (hc : Cb g N) (hN : N ≤ 1000000) :
    Calls Tryz.prog 31 #[.pointer (some a)] w fun e w' => ∃ a' S' R', e = .returned (.pointer (some a')) ∧ Grd S' R' w' a' g ∧ (∀ k, S' k → w.heap.size ≤ k ∧ k < w'.heap.size) ∧ (∀ k, R' k → (R k ∧ k < w.heap.size) ∨ (w.heap.size ≤ k ∧ k < w'.heap.size)) ∧ Below w.heap.size w w' := by
  have hG1 := hG.cut
  obtain ⟨b, ba, S1, dn, ev, rfl, hP⟩ := hG.ex
  have hbl := hP.blk.lt
  have k0 := hP.c0
  have hcb := hc.b
  have CF := Bud.fork_any hP.bud (by omega)
  have hev := hP.evi.no
  clear hP
  obtain ⟨bg, n, en, ee⟩ := g
  simp only at hev CF
  obtain ⟨S2, eS2⟩ : ∃ S2 : Nat → Prop, ∀ k, S2 k ↔ (S k ∧ k < w.heap.size) := ⟨_, fun _ => Iff.rfl⟩
  obtain ⟨R2, eR2⟩ : ∃ R2 : Nat → Prop, ∀ k, R2 k ↔ (R k ∧ k < w.heap.size) := ⟨_, fun _ => Iff.rfl⟩
  have hG2 : Grd S2 R2 w ⟨b, 0, none⟩ ⟨bg, n, en, ee⟩ := hG1.mono (fun k h => (eS2 k).2 h) (fun k _ h => (eR2 k).2 h) fun k h1 h2 => hG1.dis k ((eS2 k).1 h1) ((eR2 k).1 h2)
  clear hG hG1
  go_enter Tryz.func31, Tryz.ntmps31
  go_upto_region 4 with (go_at_call 64; refine CF.mono ?_; rintro e w1 ⟨ba', rfl, hb1, L1⟩)
  have hs1 := L1.size
  have L2 : Below w.heap.size w (w1.alloc (.cells (pcells ba' ⟨0, 0, 0, 0, 0⟩ 0 none) 110)) := L1.alloc hs1 _
  have hN0 : Grd (fun k => w.heap.size ≤ k ∧ k < w1.heap.size + 1) (fun _ => False) (w1.alloc (.cells (pcells ba' ⟨0, 0, 0, 0, 0⟩ 0 none) 110)) ⟨w1.heap.size, 0, none⟩ ⟨bg, ⟨0, 0, 0, 0, 0⟩, false, noEv⟩ :=
    ⟨fun _ _ h => h, w1.heap.size, ba', _, 0, none, rfl, ⟨hs1, by omega⟩, Blk.new _ _ _, hb1.below ((Below.refl _ _).alloc (Nat.le_refl _) _), fun k hk => ⟨⟨hk.1, by omega⟩, by omega⟩, fun _ => ⟨rfl, rfl, rfl⟩, fun h => by cases h⟩
  have hs2 : w1.heap.size + 1 ≤ (w1.alloc (.cells (pcells ba' ⟨0, 0, 0, 0, 0⟩ 0 none) 110)).heap.size := by simp
  refine at_any ?_
  intro W hW
  rw [← show W = w1.alloc (.cells (pcells ba' ⟨0, 0, 0, 0, 0⟩ 0 none) 110) from hW] at L2 hN0 hs2
  clear hW CF k0 hb1 L1
  obtain ⟨S0, eS0⟩ : ∃ S0 : Nat → Prop, ∀ k, S0 k ↔ (w.heap.size ≤ k ∧ k < w1.heap.size + 1) := ⟨_, fun _ => Iff.rfl⟩
  have hN1 : Grd S0 (fun _ => False) W ⟨w1.heap.size, 0, none⟩ ⟨bg, ⟨0, 0, 0, 0, 0⟩, false, noEv⟩ := hN0.mono (fun k h => (eS0 k).2 h) (fun _ _ h => h) fun _ _ h => h
  clear hN0
  have hGW := hG2.kept (T := S0) (Fr.of_old L2 fun k h1 h2 => by omega) (fun k h1 h2 => by have := (eS2 k).1 h1; have := (eS0 k).1 h2; omega) (fun k h1 h2 => by have := (eR2 k).1 h1; have := (eS0 k).1 h2; omega)
  have CC := counts_any hGW hc hN

  generalize hnb : w1.heap.size = nb at *
  go_upto_region 5 with (first
    | (go_at_call 17; refine CC.mono ?_; rintro e w2 ⟨rfl, L3⟩; have hN2 := hN1.below L3; have hG3 := hGW.below L3; have CS := start_any hN2 n; have M3 := Base.next L2 L3; have z3 := L3.size)
    | (go_at_call 65; refine CS.mono ?_; rintro e w3 ⟨rfl, hN3, F3⟩))

  have hG4 := hG3.kept F3 (fun k h1 h2 => by have := (eS2 k).1 h1; have := (eS0 k).1 h2; omega) (fun k h1 h2 => by have := (eR2 k).1 h1; have := (eS0 k).1 h2; omega)
  have z4 := F3.size
  have M4 : Below w.heap.size w w3 := M3.trans (F3.toBelow (by omega) fun k hk => ((eS0 k).1 hk).1)
  clear CC CS hG3 hN2 hN1 hGW F3 L3 M3 L2 hG2
  have CE := evidence_any hG4 hc hN
  unfold ecells at CE
  go_upto_region 6 with (go_at_call 23; refine CE.mono ?_; rintro e w5 ⟨p, c, q, d, rfl, hr5, L5⟩)
  have hN5 := hN3.below L5
  have z5 := L5.size
  have M5 := Base.next M4 L5
  have V := Blk.new w5 (ecells ee p c q d) 65
  have M6 : Below w.heap.size w (w5.alloc (.cells (ecells ee p c q d) 65)) := M5.alloc (by omega) _
  have L6 := (Below.refl w5.heap.size w5).alloc (Nat.le_refl _) (.cells (ecells ee p c q d) 65)
  have hN6 := hN5.below L6
  have hr6 := hr5.below L6
  have z6 := L6.size
  refine at_any ?_
  intro W6 hW
  rw [← show W6 = w5.alloc (.cells (ecells ee p c q d) 65) from hW] at V M6 hN6 hr6 z6
  clear hW L6 hN5 hr5 CE hN3 M5
  have l6 := V.lt
  cases en with
  | false =>
    obtain ⟨rfl, rfl, rfl⟩ := hev rfl
    go_wp2
    go_ret
    exact ⟨_, rfl, S0, fun _ => False, hN6, fun k hk => by have := (eS0 k).1 hk; omega, fun _ h => h.elim, M6⟩
  | true =>
    have CK := keep_any hN6 rfl ee p c q d hr6 (fun k h1 h2 => by have := (eS0 k).1 h1; rcases h2 with h2 | h2; (have := (eR2 k).1 h2; omega); omega)
    go_wp2_with (first
      | (refine wpl_load_row (by rfl) 65 (.tmp 4) rfl w5.heap.size rfl 65 (ecells ee p c q d) (0, 0) _ V Tryz.underlying65 rfl (by kernel_rfl) ?_)
      | (go_at_call 66; refine CK.mono ?_; rintro e w7 ⟨rfl, hN7, F7⟩))
    go_ret
    have z7 := F7.size
    refine ⟨_, _, _, rfl, hN7, fun k hk => by have := (eS0 k).1 hk.1; omega, fun k hk => ?_, M6.trans (F7.toBelow (by omega) fun k hk => ((eS0 k).1 hk).1)⟩
    rcases hk with ⟨hk | hk, h2⟩ | hk
    · exact .inl ((eR2 k).1 hk)
    · exact .inr (by omega)
    · exact .inr (by omega)
end Go.Proofs.YtkiloaebokkjbaaGreat.Guard
