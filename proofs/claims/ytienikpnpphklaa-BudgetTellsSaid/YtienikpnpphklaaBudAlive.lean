/-
  The examples of chapter 15 hold (alive), out of the contracts of the program's budget.
-/
import Derived.Test.YtienikpnpphklaaBud
set_option linter.unusedSimpArgs false
set_option linter.unusedVariables false
namespace Go.Proofs.Ytienikpnpphklaa.Bud
set_option linter.unusedVariables false
set_option maxRecDepth 20000
open Go.ChangeShapes Go.WideShapes Go.ChangeAt Go.RowKit
open Go.Proofs.Ytienikpnpphklaa.Base Go.Proofs.Ytienikpnpphklaa.BudPlain

/-- The program's budget g, made by the call that began in w0, in world u. -/
def Solo (w0 u : World) (a : Addr) (g : Bg) : Prop := ∃ T, Bud T u a g ∧ (∀ k, T k → w0.heap.size ≤ k ∧ k < u.heap.size) ∧ Below w0.heap.size w0 u
theorem Solo.bel {w0 u : World} {a : Addr} {g : Bg} (h : Solo w0 u a g) : Below w0.heap.size w0 u := by
  obtain ⟨T, _, _, h⟩ := h
  exact h
theorem Solo.next {w0 u u' : World} {a : Addr} {g : Bg} (h : Solo w0 u a g) (hb : Below u.heap.size u u') : Solo w0 u' a g := by
  obtain ⟨T, h1, h2, h3⟩ := h
  exact ⟨T, h1.below hb, fun k hk => by have := h2 k hk; have := hb.size; omega, Base.next h3 hb⟩
theorem solo_new (most every : Int) (m0 : -9223372036854775808 ≤ most) (m1 : most ≤ 9223372036854775807) (e0 : 0 ≤ every) (e1 : every ≤ 18446744073709551615) {w0 w : World} (hb : Below w0.heap.size w0 w) :
    Calls Try.prog 7 #[.int .i64 most, .int .u64 every] w fun e w' => ∃ a, e = .returned (.pointer (some a)) ∧ Solo w0 w' a (newB most every) ∧ Below w.heap.size w w' :=
  (new_any most every m0 m1 e0 e1 w).mono fun e w' ⟨a, he, h, hb'⟩ => ⟨a, he, ⟨_, h, fun k hk => by have := hb.size; omega, Base.next hb hb'⟩, hb'⟩
theorem solo_ask {w0 u : World} {a : Addr} {g : Bg} (h : Solo w0 u a g) (hn : g.l.length ≤ 1000000) (now : Int) (n0 : 0 ≤ now) (n1 : now ≤ 18446744073709551615) :
    Calls Try.prog 10 #[.pointer (some a), .int .u64 now] u fun e w' => e = .returned (.bool (grants g now)) ∧ Solo w0 w' a (askG g now) := by
  obtain ⟨T, h1, h2, h3⟩ := h
  refine (ask_any h1 hn now n0 n1).mono fun e w' ⟨he, hp, hf⟩ => ⟨he, _, hp, fun k hk => ?_, h3.trans (hf.toBelow' h3.size fun k _ hk => (h2 k hk).1)⟩
  have := hf.size
  have := h3.size
  rcases hk with hk | hk
  · have := h2 k hk
    omega
  · omega
theorem Solo.ok {w0 u : World} {a : Addr} {g : Bg} (h : Solo w0 u a g) : BOk g := by
  obtain ⟨T, h1, _⟩ := h
  exact h1.ok
theorem solo_granted {w0 u : World} {a : Addr} {g : Bg} (h : Solo w0 u a g) (hn : g.l.length ≤ 1000000) :
    Calls Try.prog 12 #[.pointer (some a)] u fun e w' => e = .returned (.int .i64 g.l.length) ∧ Below u.heap.size u w' := by
  obtain ⟨T, h1, _⟩ := h
  exact granted_any h1 hn
/-- The program's budget g at a and the reference's r in block b: what they are made of lies in A or is new behind U, apart from each other; of what U had only A may have turned. -/
def Duo (A : Nat → Prop) (U u : World) (a : Addr) (b : Nat) (g r : Bg) : Prop := ∃ T1 T2, Bud T1 u a g ∧ Bf T2 u b r ∧ (∀ k, T1 k → k < u.heap.size ∧ (A k ∨ U.heap.size ≤ k)) ∧ (∀ k, T2 k → k < u.heap.size ∧ (A k ∨ U.heap.size ≤ k)) ∧ (∀ k, T1 k → ¬ T2 k) ∧ Fr A U u
theorem Duo.next {A : Nat → Prop} {U u u' : World} {a : Addr} {b : Nat} {g r : Bg} (h : Duo A U u a b g r) (hb : Below u.heap.size u u') : Duo A U u' a b g r := by
  obtain ⟨T1, T2, h1, h2, h3, h4, h5, h6⟩ := h
  have := hb.size
  exact ⟨T1, T2, h1.below hb, h2.below hb, fun k hk => ⟨by have := (h3 k hk).1; omega, (h3 k hk).2⟩, fun k hk => ⟨by have := (h4 k hk).1; omega, (h4 k hk).2⟩, h5, h6.trans (T := fun _ => False) (Fr.of_below hb) fun _ _ h => h.elim⟩
theorem Duo.fr {A : Nat → Prop} {U u : World} {a : Addr} {b : Nat} {g r : Bg} (h : Duo A U u a b g r) : Fr A U u := by
  obtain ⟨T1, T2, h1, h2, h3, h4, h5, h6⟩ := h
  exact h6
theorem duo_p {A : Nat → Prop} {U u : World} {a : Addr} {b : Nat} {g r : Bg} (h : Duo A U u a b g r) (hn : g.l.length ≤ 1000000) (now : Int) (n0 : 0 ≤ now) (n1 : now ≤ 18446744073709551615) :
    Calls Try.prog 10 #[.pointer (some a), .int .u64 now] u fun e w' => e = .returned (.bool (grants g now)) ∧ Duo A U w' a b (askG g now) r := by
  obtain ⟨T1, T2, h1, h2, h3, h4, h5, h6⟩ := h
  refine (ask_any h1 hn now n0 n1).mono fun e w' ⟨he, hp, hf⟩ => ⟨he, _, T2, hp, h2.kept hf fun k hk h => h5 k h hk, fun k hk => ?_, fun k hk => ?_, fun k hk h => ?_, h6.trans hf fun k hk h => ((h3 k h).2).resolve_right (by omega)⟩
  · have := hf.size
    have := h6.size
    rcases hk with hk | hk
    · have := h3 k hk
      exact ⟨by omega, this.2⟩
    · exact ⟨hk.2, .inr (by omega)⟩
  · have := hf.size
    have := h4 k hk
    exact ⟨by omega, this.2⟩
  · rcases hk with hk | hk
    · exact h5 k hk h
    · have := (h4 k h).1
      omega
theorem duo_r {A : Nat → Prop} {U u : World} {a : Addr} {b : Nat} {g r : Bg} (h : Duo A U u a b g r) (hn : r.l.length ≤ 1000000) (now : Int) (n0 : 0 ≤ now) (n1 : now ≤ 18446744073709551615) :
    Calls Try.prog 11 #[.pointer (some ⟨b, 0, none⟩), .int .u64 now] u fun e w' => e = .returned (.bool (grants r now)) ∧ Duo A U w' a b g (askG r now) := by
  obtain ⟨T1, T2, h1, h2, h3, h4, h5, h6⟩ := h
  refine (ref_ask h2 hn now n0 n1).mono fun e w' ⟨he, hp, hf⟩ => ⟨he, T1, _, h1.kept hf h5, hp, fun k hk => ?_, fun k hk => ?_, fun k hk h => ?_, h6.trans hf fun k hk h => ((h4 k h).2).resolve_right (by omega)⟩
  · have := hf.size
    have := h3 k hk
    exact ⟨by omega, this.2⟩
  · have := hf.size
    have := h6.size
    rcases hk with hk | hk
    · have := h4 k hk
      exact ⟨by omega, this.2⟩
    · exact ⟨hk.2, .inr (by omega)⟩
  · rcases h with h | h
    · exact h5 k hk h
    · have := (h3 k hk).1
      omega
theorem duo_granted {A : Nat → Prop} {U u : World} {a : Addr} {b : Nat} {g r : Bg} (h : Duo A U u a b g r) (hn : g.l.length ≤ 1000000) :
    Calls Try.prog 12 #[.pointer (some a)] u fun e w' => e = .returned (.int .i64 g.l.length) ∧ Below u.heap.size u w' := by
  obtain ⟨T1, T2, h1, _⟩ := h
  exact granted_any h1 hn
theorem Duo.drew {A : Nat → Prop} {U u : World} {a : Addr} {b : Nat} {g r : Bg} (h : Duo A U u a b g r) : Duo A U u.drew a b g r := h.next (Base.drew1 (Below.refl _ _))
/-- What is read of the reference's: how many were granted. -/
theorem Duo.cell {A : Nat → Prop} {U u : World} {a : Addr} {b : Nat} {g r : Bg} (h : Duo A U u a b g r) : ∃ v cap, u.cell? ⟨b, 3, none⟩ = some (.slice v r.l.length cap) := by
  obtain ⟨T1, T2, h1, h2, _⟩ := h
  obtain ⟨v, hB, hO, _⟩ := h2.ex
  obtain ⟨a', cap, rfl, _, _, _⟩ := hO.read
  exact ⟨a', cap, hB.cell 3⟩
theorem Solo.duo {w0 u u' : World} {a : Addr} {g r : Bg} {b : Nat} (h : Solo w0 u a g) (hb : Bf (fun k => u.heap.size ≤ k ∧ k < u'.heap.size) u' b r) (hL : Below u.heap.size u u') : Duo (fun k => w0.heap.size ≤ k ∧ k < u'.heap.size) u' u' a b g r := by
  obtain ⟨T, h1, h2, h3⟩ := h
  have := hL.size
  have := h3.size
  exact ⟨T, _, h1.below hL, hb, fun k hk => by have := h2 k hk; omega, fun k hk => by omega, fun k hk h => by have := h2 k hk; omega, Fr.refl _ _⟩
def gB0 : Bg := newB 1 10
theorem exB1 : grants gB0 5 = true := by decide +kernel
theorem exB2 : grants (askG gB0 5) 14 = false := by decide +kernel
theorem exB3 : grants (askG (askG gB0 5) 14) 15 = true := by decide +kernel
theorem exB4 : (askG (askG (askG gB0 5) 14) 15).l.length = 2 := by decide +kernel
theorem exB5 : (askG gB0 5).l.length ≤ 1000 ∧ (askG (askG gB0 5) 14).l.length ≤ 1000 ∧ (askG (askG (askG gB0 5) 14) 15).l.length ≤ 1000 ∧ gB0.l.length ≤ 1000 := by decide +kernel
set_option maxHeartbeats 1000000 in
theorem alive_bud (w : World) :
    Calls Try.prog 8 #[] w fun e w' => e = .returned (.bool true) ∧ Below w.heap.size w w' := by
  obtain ⟨x1, x2, x3, x0⟩ := exB5
  have CN := solo_new 1 10 (by decide) (by decide) (by decide) (by decide) (Below.refl w.heap.size w)
  have C1 := fun a U (h : Solo w U a gB0) => solo_ask h (by omega) 5 (by decide) (by decide)
  have C2 := fun a U (h : Solo w U a (askG gB0 5)) => solo_ask h (by omega) 14 (by decide) (by decide)
  have C3 := fun a U (h : Solo w U a (askG (askG gB0 5) 14)) => solo_ask h (by omega) 15 (by decide) (by decide)
  have C4 := fun a U (h : Solo w U a (askG (askG (askG gB0 5) 14) 15)) => solo_granted h (by omega)
  rw [exB1] at C1
  rw [exB2] at C2
  rw [exB3] at C3
  rw [exB4] at C4
  replace CN : Calls Try.prog 7 #[.int .i64 1, .int .u64 10] w fun e w' => ∃ a, e = .returned (.pointer (some a)) ∧ Solo w w' a gB0 ∧ Below w.heap.size w w' := CN
  generalize askG (askG (askG gB0 5) 14) 15 = g3 at *
  generalize askG (askG gB0 5) 14 = g2 at *
  generalize askG gB0 5 = g1 at *
  generalize gB0 = g0 at *
  go_enter Try.func8, Try.ntmps8
  go_wp2_with (first
    | (go_at_call 7; refine CN.mono ?_; rintro e u1 ⟨a, rfl, P1, _⟩)
    | (go_at_call 10; (with_reducible refine (C1 _ _ P1).mono ?_); rintro e u2 ⟨rfl, P2⟩; clear C1)
    | (go_at_call 10; (with_reducible refine (C2 _ _ P2).mono ?_); rintro e u3 ⟨rfl, P3⟩; clear C2)
    | (go_at_call 10; (with_reducible refine (C3 _ _ P3).mono ?_); rintro e u4 ⟨rfl, P4⟩; clear C3)
    | (go_at_call 12; (with_reducible refine (C4 _ _ P4).mono ?_); rintro e u5 ⟨rfl, L5⟩; clear C4))
  all_goals go_ret
  all_goals exact ⟨rfl, Base.next P4.bel L5⟩
end Go.Proofs.Ytienikpnpphklaa.Bud
