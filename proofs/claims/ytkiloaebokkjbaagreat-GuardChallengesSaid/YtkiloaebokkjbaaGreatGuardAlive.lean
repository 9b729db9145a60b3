/-
  The examples of chapter 16 hold (alive), out of the contracts of the program's ledger and guard.
-/
import Derived.Test.YtkiloaebokkjbaaGreatGuard
import Derived.Test.YtkiloaebokkjbaaGreatM18
set_option linter.unusedSimpArgs false
set_option linter.unusedVariables false
namespace Go.Proofs.YtkiloaebokkjbaaGreat.Guard
set_option linter.unusedVariables false
set_option maxRecDepth 20000
open Go.ChangeShapes Go.WideShapes Go.ChangeAt Go.RowKit
open Go.Proofs.YtkiloaebokkjbaaGreat.Base Go.Proofs.YtkiloaebokkjbaaGreat.LedPlain Go.Proofs.YtkiloaebokkjbaaGreat.BudPlain Go.Proofs.YtkiloaebokkjbaaGreat.GuardPlain Go.Proofs.YtkiloaebokkjbaaGreat.Led Go.Proofs.YtkiloaebokkjbaaGreat.Bud Go.Proofs.YtkiloaebokkjbaaGreat.SpanPlain
open Go.Proofs.YtkiloaebokkjbaaGreat.AckPlain (K)
open Go.Proofs.YtkiloaebokkjbaaGreat.OctPlain (Bytes)

/-- The program's ledger l at lp and guard g at gp, what they may turn new behind w0 and apart from F. -/
def Gl (F : Nat → Prop) (w0 u : World) (gp lp : Addr) (g : Gd) (l : Lg) : Prop :=
  ∃ T R S, Grd T R u gp g ∧ Led S u lp l ∧ (∀ k, T k → (w0.heap.size ≤ k ∧ k < u.heap.size) ∧ ¬ F k) ∧ (∀ k, S k → (w0.heap.size ≤ k ∧ k < u.heap.size) ∧ ¬ F k) ∧ (∀ k, R k → k < u.heap.size) ∧ (∀ k, T k → ¬ S k) ∧ (∀ k, R k → ¬ S k) ∧ (∀ k, F k → k < u.heap.size) ∧ Below w0.heap.size w0 u
section
variable {F : Nat → Prop} {w0 u u' : World} {gp lp : Addr} {g : Gd} {l : Lg}
theorem Gl.more (h : Gl F w0 u gp lp g l) (hb : Below u.heap.size u u') : Gl (fun k => F k ∨ (u.heap.size ≤ k ∧ k < u'.heap.size)) w0 u' gp lp g l := by
  obtain ⟨T, R, S, h1, h2, h3, h4, h5, h6, h7, h8, h9⟩ := h
  have hs := hb.size
  refine ⟨T, R, S, h1.below hb, h2.below hb, fun k hk => ?_, fun k hk => ?_, fun k hk => by have := h5 k hk; omega, h6, h7, fun k hk => ?_, Base.next h9 hb⟩
  · have := h3 k hk
    exact ⟨by omega, fun e => e.elim this.2 fun e => by omega⟩
  · have := h4 k hk
    exact ⟨by omega, fun e => e.elim this.2 fun e => by omega⟩
  · rcases hk with hk | hk
    · have := h8 k hk
      omega
    · omega
theorem Gl.next (h : Gl F w0 u gp lp g l) (hb : Below u.heap.size u u') : Gl F w0 u' gp lp g l := by
  obtain ⟨T, R, S, h1, h2, h3, h4, h5, h6, h7, h8, h9⟩ := h
  have hs := hb.size
  exact ⟨T, R, S, h1.below hb, h2.below hb, fun k hk => ⟨by have := h3 k hk; omega, (h3 k hk).2⟩, fun k hk => ⟨by have := h4 k hk; omega, (h4 k hk).2⟩, fun k hk => by have := h5 k hk; omega, h6, h7, fun k hk => by have := h8 k hk; omega, Base.next h9 hb⟩
theorem Gl.step (h : Gl F w0 u gp lp g l) (hb : Below u.heap.size u u') (hn : u.heap.size + 1 < u'.heap.size) : ∃ F', Gl F' w0 u' gp lp g l ∧ (∀ k, F k → F' k) ∧ F' u.heap.size ∧ F' (u.heap.size + 1) :=
  ⟨_, h.more hb, fun k hk => .inl hk, .inr ⟨Nat.le_refl _, by omega⟩, .inr ⟨by omega, hn⟩⟩
theorem Gl.bel (h : Gl F w0 u gp lp g l) : Below w0.heap.size w0 u := by
  obtain ⟨T, R, S, h1, h2, h3, h4, h5, h6, h7, h8, h9⟩ := h
  exact h9
theorem Gl.flt (h : Gl F w0 u gp lp g l) : ∀ k, F k → k < u.heap.size := by
  obtain ⟨T, R, S, h1, h2, h3, h4, h5, h6, h7, h8, h9⟩ := h
  exact h8
theorem gl_take {n : Nat} (h : Gl F w0 u gp lp g l) (hc : Cb g n) (hn : n ≤ 1000000) (hl : l.l.length ≤ 1000000) (p : Option Addr) (m cap : Nat) (f : List Int) (hm : f.length = m) (hcap : m ≤ cap) (hr : m ≤ 140737488355328) (hb : Bytes f) (hz : RowIn F u p (f.map (.int .u8))) (now : Int) (n0 : 0 ≤ now) (n1 : now ≤ 18446744073709551615) :
    Calls Tryz.prog 18 #[.pointer (some gp), .pointer (some lp), .slice p m cap, .int .u64 now] u fun e w' => ∃ x c y d, e = .returned (.tuple #[.agg (vcells (takeT g l f now).v), .agg (kcells (takeT g l f now).k x c y d)]) ∧
      Gl F w0 w' gp lp (takeT g l f now).g (takeT g l f now).l ∧ Fr (fun k => ¬ F k) u w' := by
  obtain ⟨T, R, S, h1, h2, h3, h4, h5, h6, h7, h8, h9⟩ := h
  refine (take_any h1 h2 h6 h7 hc hn hl p m cap f hm hcap hr hb (fun v hv => RowIn.row (hz.kept hv fun k hk h => by have := h8 k hk; omega)) now n0 n1).mono fun e w' hp => ?_
  obtain ⟨x, c, y, d, he, ⟨T', R', S', Y, g1, l1, hw, a1, a2, a3, a4, a5, a6⟩, hF⟩ := hp
  have hs := hF.size
  have hU := h9.size
  have up : ∀ (X X' : Nat → Prop), (∀ k, X k → (w0.heap.size ≤ k ∧ k < u.heap.size) ∧ ¬ F k) → (∀ k, X' k → Plus X u w' k) → ∀ k, X' k → (w0.heap.size ≤ k ∧ k < w'.heap.size) ∧ ¬ F k := fun X X' hX hX' k hk => by
    rcases hX' k hk with h | h
    · have := hX k h
      exact ⟨by omega, this.2⟩
    · exact ⟨by omega, fun e => by have := h8 k e; omega⟩
  refine ⟨x, c, y, d, he, ⟨T', R', S', g1, l1, up T T' h3 a1, up S S' h4 a3, fun k hk => ?_, a4, a5, fun k hk => by have := h8 k hk; omega, ?_⟩, hF.mono fun k hk h => ?_⟩
  · rcases a2 k hk with h | h
    · have := h5 k h
      omega
    · exact h.2
  · exact h9.trans (hF.toBelow' hU fun k _ hk => by
      rcases hk with hk | hk
      · exact (h3 k hk).1.1
      · exact (h4 k hk).1.1)
  · rcases h with h | h
    · exact (h3 k h).2
    · exact (h4 k h).2
theorem gl_counts {n : Nat} (h : Gl F w0 u gp lp g l) (hc : Cb g n) (hn : n ≤ 1000000) :
    Calls Tryz.prog 17 #[.pointer (some gp)] u fun e w' => e = .returned (.agg #[.int .u64 g.n.mal, .int .u64 g.n.drop, .int .u64 g.n.taken, .int .u64 g.n.chal, .int .u64 g.n.late]) ∧ Below u.heap.size u w' := by
  obtain ⟨T, R, S, h1, h2, h3, h4, h5, h6, h7, h8, h9⟩ := h
  exact counts_any h1 hc hn
theorem gl_evidence {n : Nat} (h : Gl F w0 u gp lp g l) (hc : Cb g n) (hn : n ≤ 1000000) :
    Calls Tryz.prog 23 #[.pointer (some gp)] u fun e w' => ∃ p c q d, e = .returned (.tuple #[.agg (ecells g.e p c q d), .bool g.ended]) ∧ Below u.heap.size u w' := by
  obtain ⟨T, R, S, h1, h2, h3, h4, h5, h6, h7, h8, h9⟩ := h
  exact (evidence_any h1 hc hn).mono fun e w' ⟨p, c, q, d, he, _, hb⟩ => ⟨p, c, q, d, he, hb⟩
end
def sA : Sn := { Z8 with len := 1, nonce := 9 }
def lA : Lg := sendG (newG 4 99) sA
def kA : K := ⟨[(0, 0)], [], 9, 9, false⟩
def fA : List Int := AckPlain.putAck kA
def tA1 : Tk := takeT (newD 1 10) lA [] 1
def tA2 : Tk := takeT tA1.g tA1.l fA 2
def tA3 : Tk := takeT tA2.g tA2.l fA 3
theorem exA1 : (tA1.v.kind, tA1.v.why, tA1.v.pn, tA1.v.chal) = (1, 1, 0, false) := by decide +kernel
theorem exA2 : (tA2.v.kind, tA2.v.why, tA2.v.pn, tA2.v.chal) = (2, 0, 0, false) := by decide +kernel
theorem exA3 : (tA3.v.kind, tA3.v.why, tA3.v.pn, tA3.v.chal) = (1, 3, 0, true) := by decide +kernel
theorem exA4 : (tA3.g.n.mal, tA3.g.n.drop, tA3.g.n.taken, tA3.g.n.chal, tA3.g.n.late) = (1, 1, 1, 1, 0) := by decide +kernel
theorem exA5 : (tA2.k.xor, tA3.g.ended) = (9, false) := by decide +kernel
theorem exA8 : fA.length ≤ 100 := by decide +kernel
theorem exA6 : (lA.l.length, tA1.l.l.length, tA2.l.l.length) = (1, 1, 1) := by decide +kernel
theorem exA7 : (newG 4 99).l.length = 0 := by decide +kernel
theorem okA : Ok lA := by
  unfold lA
  exact ok_send (ok_new 4 99 (by decide)) (by unfold Words sA Z8; decide)
theorem vd_eq {v : Vd} {a b c : Int} {d : Bool} (h : (v.kind, v.why, v.pn, v.chal) = (a, b, c, d)) : v = ⟨a, b, c, d⟩ := by
  obtain ⟨_, _, _, _⟩ := v
  cases h
  rfl
theorem ct_eq {v : Ct} {a b c d e : Int} (h : (v.mal, v.drop, v.taken, v.chal, v.late) = (a, b, c, d, e)) : v = ⟨a, b, c, d, e⟩ := by
  obtain ⟨_, _, _, _, _⟩ := v
  cases h
  rfl
theorem bytes_A : Bytes fA := AckPlain.put_ack_bytes (by decide +kernel)
theorem cbA0 : Cb (newD 1 10) 0 := cb_new 1 10 (by decide) (by decide)
theorem cbA1 : Cb tA1.g 1 := cb_take cbA0 okA Bytes.nil (by decide) (by decide)
theorem okA1 : Ok tA1.l := ok_take okA [] 1
theorem cbA2 : Cb tA2.g 2 := cb_take cbA1 okA1 bytes_A (by decide) (by decide)
theorem okA2 : Ok tA2.l := ok_take okA1 fA 2
theorem cbA3 : Cb tA3.g 3 := cb_take cbA2 okA2 bytes_A (by decide) (by decide)
theorem sp_lit (u : World) (lo hi : Int) (T : TypeId) : Spans (u.alloc (.cells #[.int .u64 lo, .int .u64 hi] T)) (some ⟨u.heap.size, 0, none⟩) [(lo, hi)] := Row.lit u T [.int .u64 lo, .int .u64 hi]
theorem may_A : AckPlain.may kA = true := by decide +kernel
theorem fit_A : AckPlain.Fit kA := by unfold AckPlain.Fit kA; decide
set_option maxHeartbeats 4000000 in
theorem alive_guard (w : World) :
    Calls Tryz.prog 12 #[] w fun e w' => e = .returned (.bool true) ∧ Below w.heap.size w w' := by
  go_enter Tryz.func12, Tryz.ntmps12
  go_upto_region 2 with (first
    | (go_at_call 10; refine (new_any 1 10 (by decide) (by decide) (by decide) (by decide) _).mono ?_; rintro e u1 ⟨gp, rfl, G1, L1⟩)
    | (go_at_call 34; refine (Led.new_any 4 99 (by decide) (by decide) (by decide) (by decide) _).mono ?_; rintro e u2 ⟨lp, rfl, D2, L2⟩))
  have hl0 := exA7
  have CS := send_any D2 sA (by unfold Words sA Z8; decide) (by omega)
  go_upto_region 5 with (go_at_call 39; refine CS.mono ?_; rintro e u3 ⟨rfl, D3, F3⟩)
  have q1 := L1.size
  have q2 := L2.size
  have q3 := F3.size
  have hF3 : Below u1.heap.size u1 u3 := L2.trans (F3.toBelow' (B := u1.heap.size) q2 fun k _ hk => hk.1)
  have g3 : Gl (fun _ => False) w u3 gp lp (newD 1 10) lA := by
    refine ⟨_, _, _, G1.below hF3, D3, fun k hk => ⟨by omega, fun h => h⟩, fun k hk => ⟨?_, fun h => h⟩, fun k hk => hk.elim, fun k hk h => ?_, fun k hk => hk.elim, fun k hk => hk.elim, Base.next L1 hF3⟩
    · rcases hk with hk | hk <;> omega
    · rcases h with h | h <;> omega
  clear G1 D2 D3 CS hF3 L1 L2 F3 q1 q2 hl0
  have CP : Calls Tryz.prog 22 #[.agg #[.slice (some ⟨u3.heap.size, 0, none⟩) 1 1, .slice none 0 0, .int .u64 9, .int .u64 9, .bool false]] (u3.alloc (.cells #[.int .u64 0, .int .u64 0] 119)) _ :=
    Ack.ref_put_ack kA (some ⟨u3.heap.size, 0, none⟩) none 1 1 0 0 (u3.alloc (.cells #[.int .u64 0, .int .u64 0] 119)) rfl rfl may_A fit_A (sp_lit u3 0 0 119) (Row.nil _ _)
  go_upto_region 6 with (go_at_call 22; refine CP.mono ?_; rintro e u5 ⟨pa, ca, rfl, hca, hcm, hpn, ra, L5⟩)
  clear CP
  have hL5 : Below u3.heap.size u3 u5 := ((Below.refl _ _).alloc (Nat.le_refl _) _).trans (L5.mono (by rw [World.size_alloc]; omega))
  have q5 := hL5.size
  have g5 := g3.more hL5
  replace ra : RowIn (fun k => False ∨ (u3.heap.size ≤ k ∧ k < u5.heap.size)) u5 pa (fA.map (.int .u8)) := ra.mono fun k hk h => .inr ⟨by rw [World.size_alloc] at h; omega, hk⟩
  have hfl : fA.length ≤ 100 := exA8
  have hca' : fA.length ≤ ca := hca
  replace hca' := hca'
  clear hca hL5 L5 hpn g3 q3
  generalize hFz : (fun k => False ∨ (u3.heap.size ≤ k ∧ k < u5.heap.size)) = F5 at g5 ra
  clear hFz
  have C6 := gl_take g5 cbA0 (by decide) (by have := exA6; simp only [Prod.mk.injEq] at this; omega) none 0 0 [] rfl (Nat.le_refl _) (by decide) Bytes.nil (RowIn.nil _ _ _) 1 (by decide) (by decide)
  rw [show takeT (newD 1 10) lA [] 1 = tA1 from rfl, vd_eq exA1] at C6
  simp only [vcells, kcells] at C6
  go_upto_region 7 with (go_at_call 18; refine C6.mono ?_; rintro e u6 ⟨x6, c6, y6, d6, rfl, h6, F6⟩)
  clear C6 g5
  have q6 := F6.size
  have ra := ra.kept F6 fun _ h1 h2 => h2 h1
  clear F6
  refine some_world ?_
  intro U6 hU
  obtain ⟨hv6, hk6, hL6⟩ : Blk U6 u6.heap.size #[.int .i64 1, .int .i64 1, .int .u64 0, .bool false] 44 ∧ Blk U6 (u6.heap.size + 1) #[.slice x6 tA1.k.spans.length c6, .slice y6 tA1.k.marked.length d6, .int .u64 tA1.k.trigger, .int .u64 tA1.k.xor, .bool tA1.k.parity] 56 ∧ Below u6.heap.size u6 U6 := by
    subst hU
    exact laid2 u6 _ _ _ _
  clear hU
  have n6 := hk6.lt
  obtain ⟨F6, g6, s6, mv6, mk6⟩ := h6.step hL6 n6
  have ra := (ra.below hL6 fun k hk => h6.flt k hk).mono (T := F6) fun k _ h => s6 k h
  clear h6 hL6 s6
  have C7 := gl_take g6 cbA1 (by decide) (by have := exA6; simp only [Prod.mk.injEq] at this; omega) pa fA.length ca fA rfl hca' (by omega) bytes_A ra 2 (by decide) (by decide)
  rw [show takeT tA1.g tA1.l fA 2 = tA2 from rfl, vd_eq exA2] at C7
  simp only [vcells, kcells] at C7
  go_upto_region 8 with (go_at_call 18; refine C7.mono ?_; rintro e u7 ⟨x7, c7, y7, d7, rfl, h7, F7⟩)
  clear C7 g6
  have q7 := F7.size
  have ra := ra.kept F7 fun _ h1 h2 => h2 h1
  have hv6 := hv6.kept F7 (fun h => h mv6)
  have hk6 := hk6.kept F7 (fun h => h mk6)
  clear F7
  refine some_world ?_
  intro U7 hU
  obtain ⟨hv7, hk7, hL7⟩ : Blk U7 u7.heap.size #[.int .i64 2, .int .i64 0, .int .u64 0, .bool false] 44 ∧ Blk U7 (u7.heap.size + 1) #[.slice x7 tA2.k.spans.length c7, .slice y7 tA2.k.marked.length d7, .int .u64 tA2.k.trigger, .int .u64 tA2.k.xor, .bool tA2.k.parity] 56 ∧ Below u7.heap.size u7 U7 := by
    subst hU
    exact laid2 u7 _ _ _ _
  clear hU
  have n7 := hk7.lt
  obtain ⟨F7, g7, s7, mv7, mk7⟩ := h7.step hL7 n7
  have ra := (ra.below hL7 fun k hk => h7.flt k hk).mono (T := F7) fun k _ h => s7 k h
  have hv6 := hv6.below hL7 (h7.flt _ mv6)
  have mv6 := s7 _ mv6
  have hk6 := hk6.below hL7 (h7.flt _ mk6)
  have mk6 := s7 _ mk6
  clear h7 hL7 s7
  have C8 := gl_take g7 cbA2 (by decide) (by have := exA6; simp only [Prod.mk.injEq] at this; omega) pa fA.length ca fA rfl hca' (by omega) bytes_A ra 3 (by decide) (by decide)
  rw [show takeT tA2.g tA2.l fA 3 = tA3 from rfl, vd_eq exA3] at C8
  simp only [vcells, kcells] at C8
  go_upto_region 9 with (go_at_call 18; refine C8.mono ?_; rintro e u8 ⟨x8, c8, y8, d8, rfl, h8, F8⟩)
  clear C8 g7
  have q8 := F8.size
  have ra := ra.kept F8 fun _ h1 h2 => h2 h1
  have hv6 := hv6.kept F8 (fun h => h mv6)
  have hk6 := hk6.kept F8 (fun h => h mk6)
  have hv7 := hv7.kept F8 (fun h => h mv7)
  have hk7 := hk7.kept F8 (fun h => h mk7)
  clear F8
  refine some_world ?_
  intro U8 hU
  obtain ⟨hv8, hk8, hL8⟩ : Blk U8 u8.heap.size #[.int .i64 1, .int .i64 3, .int .u64 0, .bool true] 44 ∧ Blk U8 (u8.heap.size + 1) #[.slice x8 tA3.k.spans.length c8, .slice y8 tA3.k.marked.length d8, .int .u64 tA3.k.trigger, .int .u64 tA3.k.xor, .bool tA3.k.parity] 56 ∧ Below u8.heap.size u8 U8 := by
    subst hU
    exact laid2 u8 _ _ _ _
  clear hU
  have n8 := hk8.lt
  obtain ⟨F8, g8, s8, mv8, mk8⟩ := h8.step hL8 n8
  have ra := (ra.below hL8 fun k hk => h8.flt k hk).mono (T := F8) fun k _ h => s8 k h
  have hv6 := hv6.below hL8 (h8.flt _ mv6)
  have mv6 := s8 _ mv6
  have hk6 := hk6.below hL8 (h8.flt _ mk6)
  have mk6 := s8 _ mk6
  have hv7 := hv7.below hL8 (h8.flt _ mv7)
  have mv7 := s8 _ mv7
  have hk7 := hk7.below hL8 (h8.flt _ mk7)
  have mk7 := s8 _ mk7
  clear h8 hL8 s8
  have C9 := gl_counts g8 cbA3 (by decide)
  rw [ct_eq exA4] at C9
  go_upto_region 10 with (go_at_call 17; refine C9.mono ?_; rintro e u9 ⟨rfl, L9⟩)
  clear C9
  refine some_world ?_
  intro U9 hU
  obtain ⟨hc9, M9, N9⟩ : Blk U9 u9.heap.size #[.int .u64 1, .int .u64 1, .int .u64 1, .int .u64 1, .int .u64 0] 52 ∧ Below u9.heap.size u9 U9 ∧ Below U8.heap.size U8 U9 := by
    subst hU
    exact ⟨Blk.new _ _ _, (Below.refl _ _).alloc (Nat.le_refl _) _, L9.alloc L9.size _⟩
  clear hU M9
  have C10 := gl_evidence (g8.next N9) cbA3 (by decide)
  rw [show tA3.g.ended = false from by have := exA5; simp only [Prod.mk.injEq] at this; exact this.2] at C10
  simp only [ecells] at C10
  go_upto_region 11 with (go_at_call 23; refine C10.mono ?_; rintro e u10 ⟨x10, c10, y10, d10, rfl, L10⟩)
  clear C10
  refine some_world ?_
  intro V hV
  have hB : Below U9.heap.size U9 V := by
    subst hV
    exact L10.alloc L10.size _
  clear hV
  have B8 := N9.trans (hB.mono N9.size)
  have hend := g8.bel
  have hx : tA2.k.xor = 9 := by have := exA5; simp only [Prod.mk.injEq] at this; exact this.1
  have a6 := hv6.below B8 hv6.lt
  have a7 := hv7.below B8 hv7.lt
  have b7 := hk7.below B8 hk7.lt
  have a8 := hv8.below B8 hv8.lt
  have a9 := hc9.below hB hc9.lt
  clear hk6 hk8 mv6 mk6 mv7 mk7 mv8 mk8 ra n6 n7 n8
  have k60 : V.cell? ⟨u6.heap.size, 0, none⟩ = some (.int .i64 1) := a6.cell 0
  have k61 : V.cell? ⟨u6.heap.size, 1, none⟩ = some (.int .i64 1) := a6.cell 1
  have k62 : V.cell? ⟨u6.heap.size, 2, none⟩ = some (.int .u64 0) := a6.cell 2
  have k63 : V.cell? ⟨u6.heap.size, 3, none⟩ = some (.bool false) := a6.cell 3
  have k70 : V.cell? ⟨u7.heap.size, 0, none⟩ = some (.int .i64 2) := a7.cell 0
  have k71 : V.cell? ⟨u7.heap.size, 1, none⟩ = some (.int .i64 0) := a7.cell 1
  have k72 : V.cell? ⟨u7.heap.size, 2, none⟩ = some (.int .u64 0) := a7.cell 2
  have k73 : V.cell? ⟨u7.heap.size, 3, none⟩ = some (.bool false) := a7.cell 3
  have k80 : V.cell? ⟨u8.heap.size, 0, none⟩ = some (.int .i64 1) := a8.cell 0
  have k81 : V.cell? ⟨u8.heap.size, 1, none⟩ = some (.int .i64 3) := a8.cell 1
  have k82 : V.cell? ⟨u8.heap.size, 2, none⟩ = some (.int .u64 0) := a8.cell 2
  have k83 : V.cell? ⟨u8.heap.size, 3, none⟩ = some (.bool true) := a8.cell 3
  have k90 : V.cell? ⟨u9.heap.size, 0, none⟩ = some (.int .u64 1) := a9.cell 0
  have k91 : V.cell? ⟨u9.heap.size, 1, none⟩ = some (.int .u64 1) := a9.cell 1
  have k92 : V.cell? ⟨u9.heap.size, 2, none⟩ = some (.int .u64 1) := a9.cell 2
  have k93 : V.cell? ⟨u9.heap.size, 3, none⟩ = some (.int .u64 1) := a9.cell 3
  have k94 : V.cell? ⟨u9.heap.size, 4, none⟩ = some (.int .u64 0) := a9.cell 4
  have kx : V.cell? ⟨u7.heap.size + 1, 3, none⟩ = some (.int .u64 9) := by
    have h : V.cell? ⟨u7.heap.size + 1, 3, none⟩ = some (.int .u64 tA2.k.xor) := b7.cell 3
    rw [h, hx]
  have l6 := a6.lt
  have l7 := a7.lt
  have l8 := a8.lt
  have l9 := a9.lt
  have l7' := b7.lt
  have hfin := Base.next hend B8
  clear a6 a7 b7 a8 a9 hv6 hv7 hk7 hv8 hc9 hx hend B8 hB N9 L9 L10
  go_wp2
  go_ret
  exact ⟨rfl, hfin⟩
end Go.Proofs.YtkiloaebokkjbaaGreat.Guard
