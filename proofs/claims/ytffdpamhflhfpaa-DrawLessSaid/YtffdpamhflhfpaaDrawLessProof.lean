/-
  Fewer bits of a result of draw.Low are the fewer bits of the word, and the result is less than 2^bits. No conditions.
-/
import Derived.Test.YtffdpamhflhfpaaRows
import Derived.Test.YtffdpamhflhfpaaRow
import Derived.WalkKit
import Derived.ProofKit
import Derived.OpenShut
import Derived.ShutString
import Derived.ChangeOld
import Derived.Below
import Derived.Test.YtffdpamhflhfpaaDraw
namespace Go.Proofs.Ytffdpamhflhfpaa.drawLess
open Go.ChangeShapes Go.WideShapes Go.ChangeAt Go.RowKit
open Go.ChangeMaps (open_string shut_string)
open Go.Proofs.Ytffdpamhflhfpaa.Base
set_option linter.unusedVariables false

theorem own : ownKnob Try.prog.godebug = none := by kernel_rfl
theorem laidOut : laidOutB Try.prog = true := by kernel_rfl

open Go.Proofs.Ytffdpamhflhfpaa.Draw Go.Proofs.Ytffdpamhflhfpaa.DrawPlain
theorem wrap_pow {m : Int} (h : m ≤ 63) : IntKind.u64.wrap (2 ^ m.toNat) = 2 ^ m.toNat := by
  rw [IntKind.wrap_u64]
  have hp : (2 : Nat) ^ m.toNat ≤ 2 ^ 63 := Nat.pow_le_pow_right (by decide) (by omega)
  have : (2 : Int) ^ m.toNat = ((2 ^ m.toNat : Nat) : Int) := by simp
  rw [this]
  generalize (2 : Nat) ^ m.toNat = p at hp
  omega
theorem walk (a0 : Int) (a1 : Int) (a2 : Int) (w : World) (w0 : (Lit.int .u64 a0).wf = true) (w1 : (Lit.int .u8 a1).wf = true) (w2 : (Lit.int .u8 a2).wf = true) :
    Calls Try.prog 8 #[.int .u64 a0, .int .u8 a1, .int .u8 a2] w fun e w' => e = .returned (.bool true) ∧ Below w.heap.size w w' := by
  obtain ⟨p0, p1⟩ := Base.u64_of w0
  obtain ⟨q0, q1⟩ := Base.u8_of w1
  obtain ⟨r0, r1⟩ := Base.u8_of w2
  clear w0 w1 w2
  obtain ⟨m, hm⟩ : ∃ m, a1 % 70 = m := ⟨_, rfl⟩
  obtain ⟨n, hn⟩ : ∃ n, a2 % 70 = n := ⟨_, rfl⟩
  obtain ⟨y, hy⟩ : ∃ y, low a0 m = y := ⟨_, rfl⟩
  have m0 : 0 ≤ m := by omega
  have m1 : m ≤ 69 := by omega
  have n0 : 0 ≤ n := by omega
  have n1 : n ≤ 69 := by omega
  have yb := low_bd (n := m) p0 p1
  rw [hy] at yb
  obtain ⟨y0, y2⟩ := yb
  have y1 : y ≤ 18446744073709551615 := by omega
  have E := low_low (m := m) (n := n) p0 p1 m0 n0
  rw [hy] at E
  have c1 := fun W => low_any a0 m p0 p1 (by omega) (by omega) W
  rw [hy] at c1
  have c2 := fun W => low_any y n y0 y1 (by omega) (by omega) W
  have hl : m ≤ 63 → ¬ 2 ^ m.toNat ≤ y := fun h => by have := low_lt (x := a0) p0 m0 h; rw [hy] at this; omega
  have hb : 64 ≤ m → y = a0 := fun h => by rw [← hy, low_all (by omega)]
  rw [E] at c2
  have M := Lib.hid hm
  have N := Lib.hid hn
  rcases Int.lt_trichotomy m n with h | h | h
  · rw [show min m n = m by omega, hy] at c2
    clear E hm hn hy
    rcases Int.lt_or_le 63 m with h3 | h3
    · obtain rfl := hb (by omega)
      have h4 : 64 ≤ m := h3
      clear hl hb y2
      go_enter Try.func8, Try.ntmps8
      go_wp2_with (first
        | (go_at_call 9; rw [M.out, N.out]; refine (alive_draw _).mono ?_; rintro e wa ⟨rfl, ha⟩)
        | ((with_reducible refine (c1 _).mono ?_); rintro e w' ⟨rfl, rfl⟩)
        | ((with_reducible refine (c2 _).mono ?_); rintro e w' ⟨rfl, rfl⟩))
      all_goals go_ret
      all_goals exact ⟨Base.ret_bool (by simp [*]), ha⟩
    · have hl' := hl h3
      have hw := wrap_pow h3
      clear hl hb y2
      go_enter Try.func8, Try.ntmps8
      go_wp2_with (first
        | (go_at_call 9; rw [M.out, N.out]; refine (alive_draw _).mono ?_; rintro e wa ⟨rfl, ha⟩)
        | ((with_reducible refine (c1 _).mono ?_); rintro e w' ⟨rfl, rfl⟩)
        | ((with_reducible refine (c2 _).mono ?_); rintro e w' ⟨rfl, rfl⟩))
      all_goals go_ret
      all_goals exact ⟨Base.ret_bool (by simp [*]), ha⟩
  · subst h
    rw [show min m m = m by omega, hy] at c2
    clear E hm hn hy
    rcases Int.lt_or_le 63 m with h3 | h3
    · obtain rfl := hb (by omega)
      have h4 : 64 ≤ m := h3
      clear hl hb y2
      go_enter Try.func8, Try.ntmps8
      go_wp2_with (first
        | (go_at_call 9; rw [M.out, N.out]; refine (alive_draw _).mono ?_; rintro e wa ⟨rfl, ha⟩)
        | ((with_reducible refine (c1 _).mono ?_); rintro e w' ⟨rfl, rfl⟩)
        | ((with_reducible refine (c2 _).mono ?_); rintro e w' ⟨rfl, rfl⟩))
      all_goals go_ret
      all_goals exact ⟨Base.ret_bool (by simp [*]), ha⟩
    · have hl' := hl h3
      have hw := wrap_pow h3
      clear hl hb y2
      go_enter Try.func8, Try.ntmps8
      go_wp2_with (first
        | (go_at_call 9; rw [M.out, N.out]; refine (alive_draw _).mono ?_; rintro e wa ⟨rfl, ha⟩)
        | ((with_reducible refine (c1 _).mono ?_); rintro e w' ⟨rfl, rfl⟩)
        | ((with_reducible refine (c2 _).mono ?_); rintro e w' ⟨rfl, rfl⟩))
      all_goals go_ret
      all_goals exact ⟨Base.ret_bool (by simp [*]), ha⟩
  · rw [show min m n = n by omega] at c2
    have c3 := fun W => low_any a0 n p0 p1 (by omega) (by omega) W
    clear E hm hn hy
    rcases Int.lt_or_le 63 m with h3 | h3
    · obtain rfl := hb (by omega)
      have h4 : 64 ≤ m := h3
      clear hl hb y2
      go_enter Try.func8, Try.ntmps8
      go_wp2_with (first
        | (go_at_call 9; rw [M.out, N.out]; refine (alive_draw _).mono ?_; rintro e wa ⟨rfl, ha⟩)
        | ((with_reducible refine (c1 _).mono ?_); rintro e w' ⟨rfl, rfl⟩)
        | ((with_reducible refine (c2 _).mono ?_); rintro e w' ⟨rfl, rfl⟩)
        | ((with_reducible refine (c3 _).mono ?_); rintro e w' ⟨rfl, rfl⟩))
      all_goals go_ret
      all_goals exact ⟨Base.ret_bool (by simp [*]), ha⟩
    · have hl' := hl h3
      have hw := wrap_pow h3
      clear hl hb y2
      go_enter Try.func8, Try.ntmps8
      go_wp2_with (first
        | (go_at_call 9; rw [M.out, N.out]; refine (alive_draw _).mono ?_; rintro e wa ⟨rfl, ha⟩)
        | ((with_reducible refine (c1 _).mono ?_); rintro e w' ⟨rfl, rfl⟩)
        | ((with_reducible refine (c2 _).mono ?_); rintro e w' ⟨rfl, rfl⟩)
        | ((with_reducible refine (c3 _).mono ?_); rintro e w' ⟨rfl, rfl⟩))
      all_goals go_ret
      all_goals exact ⟨Base.ret_bool (by simp [*]), ha⟩

set_option maxRecDepth 100000 in
theorem lifted (os : Os) (started : os.Started) (H : Type) (enc : TypeId × Value → H) :
    ReturnsInHanded {} Try.checked os 8 .any (Rows.drawLessSpec.pre6 enc Try.prog Try.f8 Rows.drawLessRow.domain false) (Rows.drawLessSpec.post enc Try.prog Try.f8 false true false false) := by
  refine returnsInHanded_of_change (C := Try.checked) own started (by kernel_rfl) Try.func8
    (ChangeSpec.witness6 (enc := enc) (C := Try.checked) false ⟨#[], #[.int .u64 0, .int .u8 0, .int .u8 0], []⟩ 8 (by kernel_rfl) (by kernel_rfl) (by kernel_rfl) (by kernel_rfl)) ?_
  intro W base args ds gs before hval0 hW hcnd _
  have hval : ∀ (j : Nat) t v, Try.f8.params[j]? = some t → args[j]? = some v → Value.okWide Try.prog W .any base t v := hval0
  have hW' := hW
  obtain ⟨p, q, hA0, hV, rfl, hfz, hnd⟩ := hW
  have hA : DataW.TrodAll enc Try.prog W 0 (fun _ => true) true Try.f8.params.toList args.toList ds p := hA0
  rw [Try.params8] at hA hval
  obtain ⟨v0, vs0, d0, ds0, p0, q0, hargs, rfl, rfl, h0, r0⟩ := trodAll_cons hA
  obtain ⟨v1, vs1, d1, ds1, p1, q1, rfl, rfl, rfl, h1, r1⟩ := trodAll_cons r0
  obtain ⟨v2, vs2, d2, ds2, p2, q2, rfl, rfl, rfl, h2, r2⟩ := trodAll_cons r1
  obtain ⟨rfl, rfl, rfl⟩ := trodAll_nil r2
  obtain rfl : args = #[v0, v1, v2] := by cases args; simp_all
  obtain ⟨rfl, rfl⟩ := trodVars_none hV
  obtain ⟨a0, rfl, rfl, rfl, w0⟩ := open_int Try.underlying22 (hval 0 22 v0 rfl rfl) h0
  obtain ⟨a1, rfl, rfl, rfl, w1⟩ := open_int Try.underlying5 (hval 1 5 v1 rfl rfl) h1
  obtain ⟨a2, rfl, rfl, rfl, w2⟩ := open_int Try.underlying5 (hval 2 5 v2 rfl rfl) h2
  clear hA0 hval0
  refine (walk a0 a1 a2 W w0 w1 w2).mono fun e W' ⟨he, bel⟩ => ?_
  subst he
  exact ⟨_, rfl, _, _, _, [], _, [], hW', trodAll_mk1 (shut_bool Try.underlying4 _), (trodAll_cons_mk (shut_int Try.underlying22 w0) (trodAll_cons_mk (shut_int Try.underlying5 w1) (trodAll_cons_mk (shut_int Try.underlying5 w2) trodAll_mk0))), rfl, bel.frame _, fun h => by cases h⟩

theorem over : Rows.drawLessRow.holds Try.pinned (OpenSpec.ofChange Rows.drawLessSpec) :=
  OpenClaim.holds_of_wide 8 Try.f8 rfl rfl rfl rfl rfl rfl rfl ⟨rfl, rfl, rfl, rfl, rfl⟩ rfl rfl rfl rfl rfl (by kernel_rfl) Try.func8 (by kernel_rfl)
    (of_decide_eq_true (by kernel_rfl)) (by unfold Func.isWrapper; first | (rw [if_pos (by decide +kernel)]; kernel_rfl) | (rw [if_neg (by decide +kernel)]; exact ⟨rfl, rfl⟩))
    (fun os started H enc _ => lifted os started H enc)

/-- The given statement. -/
theorem proved : Rows.DrawLessSaid :=
  over
#print axioms proved
end Go.Proofs.Ytffdpamhflhfpaa.drawLess
