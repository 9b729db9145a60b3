/-
  A ledger of the program's and of the reference's and a guard of the program's, side by side, by contract.
-/
import Derived.Test.YtkiloaebokkjbaaGreatGuardBoth
set_option linter.unusedSimpArgs false
set_option linter.unusedVariables false
namespace Go.Proofs.YtkiloaebokkjbaaGreat.Guard
set_option linter.unusedVariables false
set_option maxRecDepth 20000
open Go.ChangeShapes Go.WideShapes Go.ChangeAt Go.RowKit
open Go.Proofs.YtkiloaebokkjbaaGreat.Base Go.Proofs.YtkiloaebokkjbaaGreat.LedPlain Go.Proofs.YtkiloaebokkjbaaGreat.BudPlain Go.Proofs.YtkiloaebokkjbaaGreat.GuardPlain Go.Proofs.YtkiloaebokkjbaaGreat.Led Go.Proofs.YtkiloaebokkjbaaGreat.Bud Go.Proofs.YtkiloaebokkjbaaGreat.SpanPlain
open Go.Proofs.YtkiloaebokkjbaaGreat.AckPlain (K)
open Go.Proofs.YtkiloaebokkjbaaGreat.OctPlain (Bytes)

/-- The program's ledger lp at tp and guard g at gp, the reference's ledger lr in tr. -/
def Tri (A F Z : Nat → Prop) (U u : World) (tp : Addr) (tr : Nat) (gp : Addr) (lp lr : Lg) (g : Gd) : Prop :=
  ∃ S1 S2 T1 R1, Qw A F Z U u S1 S2 T1 R1 (fun _ => False) (fun _ => False) ∧ Led S1 u tp lp ∧ Rf S2 u tr lr ∧ Grd T1 R1 u gp g
section
variable {A F Z : Nat → Prop} {U u u' : World} {tp gp : Addr} {tr : Nat} {lp lr : Lg} {g : Gd}
theorem Tri.next (h : Tri A F Z U u tp tr gp lp lr g) (hb : Below u.heap.size u u') : Tri A F Z U u' tp tr gp lp lr g := by
  obtain ⟨S1, S2, T1, R1, q, h1, h2, h3⟩ := h
  have hs := hb.size
  exact ⟨S1, S2, T1, R1, { q with s1 := fun k hk => ⟨by have := (q.s1 k hk).1; omega, (q.s1 k hk).2⟩, s2 := fun k hk => ⟨by have := (q.s2 k hk).1; omega, (q.s2 k hk).2⟩, t1 := fun k hk => ⟨by have := (q.t1 k hk).1; omega, (q.t1 k hk).2⟩, t2 := fun k hk => ⟨by have := (q.t2 k hk).1; omega, (q.t2 k hk).2⟩, r1 := fun k hk => by have := q.r1 k hk; omega, r2 := fun k hk => by have := q.r2 k hk; omega, f := fun k hk => by have := q.f k hk; omega, fr := q.fr.trans (T := fun _ => False) (Fr.of_below hb) fun _ _ h => h.elim }, h1.below hb, h2.below hb, h3.below hb⟩
theorem Tri.fr (h : Tri A F Z U u tp tr gp lp lr g) : Fr A U u := by
  obtain ⟨S1, S2, T1, R1, q, _⟩ := h
  exact q.fr
theorem Tri.drew (h : Tri A F Z U u tp tr gp lp lr g) : Tri A F Z U u.drew tp tr gp lp lr g := h.next (Base.drew1 (Below.refl _ _))
/-- What was there before U and may not turn, and what is new since, is kept. -/
theorem Tri.with_ (h : Tri A F Z U u tp tr gp lp lr g) (hb : Below u.heap.size u u') (Bk : Nat → Prop) (hB : ∀ k, Bk k → k < U.heap.size ∧ ¬ A k) : Tri A (fun k => Bk k ∨ (u.heap.size ≤ k ∧ k < u'.heap.size)) (fun k => u.heap.size ≤ k ∧ k < u'.heap.size) U u' tp tr gp lp lr g := by
  obtain ⟨S1, S2, T1, R1, q, h1, h2, h3⟩ := h
  have hs := hb.size
  have hU := q.fr.size
  have off : ∀ X : Nat → Prop, (∀ k, X k → k < u.heap.size ∧ (A k ∨ U.heap.size ≤ k)) → ∀ k, X k → ¬ (Bk k ∨ (u.heap.size ≤ k ∧ k < u'.heap.size)) := fun X hX k hk hf => by
    obtain ⟨x1, x2⟩ := hX k hk
    rcases hf with hf | hf
    · obtain ⟨y1, y2⟩ := hB k hf
      rcases x2 with x2 | x2
      · exact y2 x2
      · omega
    · omega
  have up : ∀ X : Nat → Prop, (∀ k, X k → k < u.heap.size ∧ (A k ∨ U.heap.size ≤ k)) → ∀ k, X k → k < u'.heap.size ∧ (A k ∨ U.heap.size ≤ k) := fun X hX k hk => ⟨by have := (hX k hk).1; omega, (hX k hk).2⟩
  exact ⟨S1, S2, T1, R1, ⟨up _ q.s1, up _ q.s2, up _ q.t1, up _ q.t2, fun k hk => by have := q.r1 k hk; omega, fun k hk => by have := q.r2 k hk; omega, q.s12, q.s1t1, q.s1t2, q.s2t1, q.s2t2, q.t12, q.r1s1, q.r1s2, q.r1t1, q.r1t2, q.r2s1, q.r2s2, q.r2t1, q.r2t2, fun k hk => by
      rcases hk with hk | hk
      · have := (hB k hk).1
        omega
      · omega, off _ q.s1, off _ q.s2, off _ q.t1, off _ q.t2, fun k hk => .inr hk, fun k hk h => by have := q.r1 k hk; omega, fun k hk h => by have := q.r2 k hk; omega, q.fr.trans (T := fun _ => False) (Fr.of_below hb) fun _ _ h => h.elim⟩, h1.below hb, h2.below hb, h3.below hb⟩
theorem Tri.more (h : Tri A F Z U u tp tr gp lp lr g) (hb : Below u.heap.size u u') : Tri A (fun k => F k ∨ (u.heap.size ≤ k ∧ k < u'.heap.size)) (fun k => Z k ∨ (u.heap.size ≤ k ∧ k < u'.heap.size)) U u' tp tr gp lp lr g := by
  obtain ⟨S1, S2, T1, R1, q, h1, h2, h3⟩ := h
  have hs := hb.size
  have off : ∀ X : Nat → Prop, (∀ k, X k → k < u.heap.size ∧ (A k ∨ U.heap.size ≤ k)) → (∀ k, X k → ¬ F k) → ∀ k, X k → ¬ (F k ∨ (u.heap.size ≤ k ∧ k < u'.heap.size)) := fun X hX hF k hk hf => hf.elim (hF k hk) fun hf => by
    have := (hX k hk).1
    omega
  have up : ∀ X : Nat → Prop, (∀ k, X k → k < u.heap.size ∧ (A k ∨ U.heap.size ≤ k)) → ∀ k, X k → k < u'.heap.size ∧ (A k ∨ U.heap.size ≤ k) := fun X hX k hk => ⟨by have := (hX k hk).1; omega, (hX k hk).2⟩
  exact ⟨S1, S2, T1, R1, ⟨up _ q.s1, up _ q.s2, up _ q.t1, up _ q.t2, fun k hk => by have := q.r1 k hk; omega, fun k hk => by have := q.r2 k hk; omega, q.s12, q.s1t1, q.s1t2, q.s2t1, q.s2t2, q.t12, q.r1s1, q.r1s2, q.r1t1, q.r1t2, q.r2s1, q.r2s2, q.r2t1, q.r2t2, fun k hk => by
      rcases hk with hk | hk
      · have := q.f k hk
        omega
      · omega, off _ q.s1 q.s1f, off _ q.s2 q.s2f, off _ q.t1 q.t1f, off _ q.t2 q.t2f, fun k hk => hk.imp (q.z k) id, fun k hk h => h.elim (q.r1z k hk) fun h => (by have := q.r1 k hk; omega), fun k hk h => h.elim (q.r2z k hk) fun h => (by have := q.r2 k hk; omega), q.fr.trans (T := fun _ => False) (Fr.of_below hb) fun _ _ h => h.elim⟩, h1.below hb, h2.below hb, h3.below hb⟩
theorem Tri.less (h : Tri A F Z U u tp tr gp lp lr g) {F' Z' : Nat → Prop} (hF : ∀ k, F' k → F k) (hZ : ∀ k, Z' k → Z k) (hZF : ∀ k, Z' k → F' k) : Tri A F' Z' U u tp tr gp lp lr g := by
  obtain ⟨S1, S2, T1, R1, q, h⟩ := h
  exact ⟨S1, S2, T1, R1, { q with f := fun k hk => q.f k (hF k hk), s1f := fun k h hk => q.s1f k h (hF k hk), s2f := fun k h hk => q.s2f k h (hF k hk), t1f := fun k h hk => q.t1f k h (hF k hk), t2f := fun k h hk => q.t2f k h (hF k hk), z := hZF, r1z := fun k h hk => q.r1z k h (hZ k hk), r2z := fun k h hk => q.r2z k h (hZ k hk) }, h⟩
theorem Tri.flt (h : Tri A F Z U u tp tr gp lp lr g) : ∀ k, F k → k < u.heap.size := by
  obtain ⟨S1, S2, T1, R1, q, h⟩ := h
  exact q.f
theorem Tri.bare (h : Tri A F Z U u tp tr gp lp lr g) : Tri A (fun _ => False) (fun _ => False) U u tp tr gp lp lr g := by
  obtain ⟨S1, S2, T1, R1, q, h⟩ := h
  exact ⟨S1, S2, T1, R1, { q with f := fun k hk => hk.elim, s1f := fun _ _ h => h, s2f := fun _ _ h => h, t1f := fun _ _ h => h, t2f := fun _ _ h => h, z := fun _ h => h, r1z := fun _ _ h => h, r2z := fun _ _ h => h }, h⟩
/-- A local's block, whole, is stored. -/
theorem Tri.set (h : Tri A F Z U u tp tr gp lp lr g) {b : Nat} (hb : Z b) (hU : U.heap.size ≤ b) (cs : Array Value) : Tri A F Z U (u.setRow b cs) tp tr gp lp lr g := by
  obtain ⟨S1, S2, T1, R1, q, h1, h2, h3⟩ := h
  have hf : Fr (fun k => k = b) u (u.setRow b cs) := (Fr.refl (fun k => k = b) u).setRow (g := b) (fun _ => rfl) cs
  have hs : (u.setRow b cs).heap.size = u.heap.size := by simp [World.setRow]
  refine ⟨S1, S2, T1, R1, { q with s1 := fun k hk => by rw [hs]; exact q.s1 k hk, s2 := fun k hk => by rw [hs]; exact q.s2 k hk, t1 := fun k hk => by rw [hs]; exact q.t1 k hk, t2 := fun k hk => by rw [hs]; exact q.t2 k hk, r1 := fun k hk => by rw [hs]; exact q.r1 k hk, r2 := fun k hk => by rw [hs]; exact q.r2 k hk, f := fun k hk => by rw [hs]; exact q.f k hk, fr := q.fr.setRow (fun hk => by omega) cs }, h1.kept hf (fun k hk h => ?_), h2.kept hf (fun k hk h => ?_), h3.kept hf (fun k hk h => ?_) fun k hk h => ?_⟩
  · exact q.s1f k hk (q.z k (h ▸ hb))
  · exact q.s2f k hk (q.z k (h ▸ hb))
  · exact q.t1f k hk (q.z k (h ▸ hb))
  · exact q.r1z k hk (h ▸ hb)
/-- A frame for the program's guard. -/
theorem tri_p {n : Nat} (h : Tri A F Z U u tp tr gp lp lr g) (hc : Cb g n) (hn : n ≤ 1000000) (hl : lp.l.length ≤ 1000000) (p : Option Addr) (m cap : Nat) (f : List Int) (hm : f.length = m) (hcap : m ≤ cap) (hr : m ≤ 140737488355328) (hb : Bytes f) (hz : ∀ v, Fr (fun j => u.heap.size ≤ j) u v → Ints .u8 v p f) (now : Int) (n0 : 0 ≤ now) (n1 : now ≤ 18446744073709551615) :
    Calls Tryz.prog 18 #[.pointer (some gp), .pointer (some tp), .slice p m cap, .int .u64 now] u fun e w' => ∃ x c y d Y, e = .returned (.tuple #[.agg (vcells (takeT g lp f now).v), .agg (kcells (takeT g lp f now).k x c y d)]) ∧
      Rw Y w' (takeT g lp f now).k x c y d ∧ Tri A (fun k => F k ∨ Y k) Z U w' tp tr gp (takeT g lp f now).l lr (takeT g lp f now).g ∧ Fr (fun k => ¬ F k) u w' := by
  obtain ⟨S1, S2, T1, R1, q, h1, h2, h3⟩ := h
  refine (take_any h3 h1 q.s1t1 q.r1s1 hc hn hl p m cap f hm hcap hr hb hz now n0 n1).mono fun e w' hp => ?_
  obtain ⟨x, c, y, d, he, ⟨T1', R1', S1', Y, g1, l1, hw, a1, a2, a3, a4, a5, a6⟩, hF⟩ := hp
  have hs := hF.size
  have hU := q.fr.size
  refine ⟨x, c, y, d, Y, he, hw, ⟨S1' , S2, T1', R1', ?_, ?_, ?_, ?_⟩, hF.mono fun k hk h => ?_⟩
  · exact {
      s1 := fun k hk => by
        rcases a3 k hk with h | h
        · have := q.s1 k h
          exact ⟨by omega, this.2⟩
        · exact ⟨h.2, .inr (by omega)⟩
      s2 := fun k hk => ⟨by have := (q.s2 k hk).1; omega, (q.s2 k hk).2⟩
      t1 := fun k hk => by
        rcases a1 k hk with h | h
        · have := q.t1 k h
          exact ⟨by omega, this.2⟩
        · exact ⟨h.2, .inr (by omega)⟩
      t2 := fun k hk => ⟨by have := (q.t2 k hk).1; omega, (q.t2 k hk).2⟩
      r1 := fun k hk => by
        rcases a2 k hk with h | h
        · have := q.r1 k h
          omega
        · exact h.2
      r2 := fun k hk => by have := q.r2 k hk; omega
      s12 := plus_dis a3 q.s12 fun k hk => (q.s2 k hk).1
      s1t1 := a4
      s1t2 := fun k hk h => plus_dis a3 (fun j h1 h2 => q.s1t2 j h2 h1) (fun k hk => (q.t2 k hk).1) k h hk
      s2t1 := plus_dis a1 q.s2t1 fun k hk => (q.s2 k hk).1
      s2t2 := q.s2t2
      t12 := plus_dis a1 q.t12 fun k hk => (q.t2 k hk).1
      r1s1 := a5
      r1s2 := plus_dis a2 q.r1s2 fun k hk => (q.s2 k hk).1
      r1t1 := fun k hk h => g1.dis k h hk
      r1t2 := plus_dis a2 q.r1t2 fun k hk => (q.t2 k hk).1
      r2s1 := fun k hk h => plus_dis a3 (fun j h1 h2 => q.r2s1 j h2 h1) q.r2 k h hk
      r2s2 := q.r2s2
      r2t1 := fun k hk h => plus_dis a1 (fun j h1 h2 => q.r2t1 j h2 h1) q.r2 k h hk
      r2t2 := q.r2t2
      f := fun k hk => by
        rcases hk with hk | hk
        · have := q.f k hk
          omega
        · exact (a6 k hk).1.2
      s1f := fun k h hk => hk.elim (plus_dis a3 q.s1f q.f k h) fun hk => (a6 k hk).2.2 h
      s2f := fun k h hk => hk.elim (q.s2f k h) fun hk => by
        have := (q.s2 k h).1
        have := (a6 k hk).1.1
        omega
      t1f := fun k h hk => hk.elim (plus_dis a1 q.t1f q.f k h) fun hk => (a6 k hk).2.1 h
      t2f := fun k h hk => hk.elim (q.t2f k h) fun hk => by
        have := (q.t2 k h).1
        have := (a6 k hk).1.1
        omega
      z := fun k hk => .inl (q.z k hk)
      r1z := plus_dis a2 q.r1z fun k hk => q.f k (q.z k hk)
      r2z := q.r2z
      fr := q.fr.trans hF fun k hk h => by
        rcases h with h | h
        · exact (q.t1 k h).2.resolve_right (by omega)
        · exact (q.s1 k h).2.resolve_right (by omega) }
  · exact l1
  · exact h2.kept hF fun k hk h => h.elim (fun h => q.s2t1 k h hk) fun h => q.s12 k h hk
  · exact g1
  · rcases h with h | h
    · exact q.t1f k h
    · exact q.s1f k h
/-- The program's guard's counts. -/
theorem tri_counts {n : Nat} (h : Tri A F Z U u tp tr gp lp lr g) (hc : Cb g n) (hn : n ≤ 1000000) :
    Calls Tryz.prog 17 #[.pointer (some gp)] u fun e w' => e = .returned (.agg #[.int .u64 g.n.mal, .int .u64 g.n.drop, .int .u64 g.n.taken, .int .u64 g.n.chal, .int .u64 g.n.late]) ∧ Below u.heap.size u w' := by
  obtain ⟨S1, S2, T1, R1, q, h1, h2, h3⟩ := h
  exact counts_any h3 hc hn
theorem Tri.led (h : Tri A F Z U u tp tr gp lp lr g) : ∃ S, Led S u tp lp := by
  obtain ⟨S1, S2, T1, R1, q, h1, h2, h3⟩ := h
  exact ⟨S1, h1⟩
theorem Tri.rf (h : Tri A F Z U u tp tr gp lp lr g) : ∃ S, Rf S u tr lr := by
  obtain ⟨S1, S2, T1, R1, q, h1, h2, h3⟩ := h
  exact ⟨S2, h2⟩
end
end Go.Proofs.YtkiloaebokkjbaaGreat.Guard
