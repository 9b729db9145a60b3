/-
  For any four words, both roundings are at most one apart, do not depend on the order of the factors, and rise with them. No conditions.
-/
import Derived.Test.YtoaoeffjehencaaRows
import Derived.WalkKit
import Derived.ProofKit
import Derived.OpenShut
import Derived.Test.YtoaoeffjehencaaWideRnd
namespace Go.Proofs.Ytoaoeffjehencaa.wideBetween
open Go.ChangeShapes Go.WideShapes Go.ChangeAt Go.RowKit
set_option linter.unusedVariables false      -- a walk need not use every 'w<i>' (that an integer argument fits its kind)

theorem own : ownKnob Try.prog.godebug = none := by kernel_rfl

open Go.Proofs.Ytoaoeffjehencaa.Wide Go.Proofs.Ytoaoeffjehencaa.Base
theorem rnd_bd {a b d : Int} (a0 : 0 ≤ a) (a1 : a ≤ 18446744073709551615) (b0 : 0 ≤ b) (b1 : b ≤ 18446744073709551615) :
    0 ≤ down a b d ∧ down a b d ≤ up a b d ∧ up a b d ≤ down a b d + 1 ∧ up a b d ≤ 18446744073709551615 := by
  obtain ⟨x0, x1⟩ := high_lt a0 a1 b0 b1
  unfold down up
  by_cases h : d ≤ a * b / 18446744073709551616
  · rw [if_pos h, if_pos h]; omega
  · obtain ⟨k0, k1, k2, k3⟩ := quo_bd (d := d) x0 (by omega)
    rw [if_neg h, if_neg h]
    split <;> omega
theorem rnd_mono {a b c d : Int} (a0 : 0 ≤ a) (a1 : a ≤ 18446744073709551615) (b0 : 0 ≤ b) (b1 : b ≤ 18446744073709551615) (c0 : 0 ≤ c) (c1 : c ≤ 18446744073709551615) (h : a ≤ c) :
    down a b d ≤ down c b d ∧ up a b d ≤ up c b d := by
  obtain ⟨x0, x1⟩ := high_lt a0 a1 b0 b1
  obtain ⟨y0, y1⟩ := high_lt c0 c1 b0 b1
  have hm : a * b ≤ c * b := Int.mul_le_mul_of_nonneg_right h b0
  unfold down up
  generalize a * b = x at *
  generalize c * b = y at *
  by_cases h2 : d ≤ y / 18446744073709551616
  · rw [if_pos h2, if_pos h2]
    by_cases h1 : d ≤ x / 18446744073709551616
    · rw [if_pos h1, if_pos h1]; omega
    · obtain ⟨k0, k1, k2, k3⟩ := quo_bd (d := d) x0 (by omega)
      rw [if_neg h1, if_neg h1]
      refine ⟨k1, ?_⟩
      split <;> omega
  · have h1 : ¬ d ≤ x / 18446744073709551616 := by omega
    obtain ⟨k0, k1, k2, k3⟩ := quo_bd (d := d) x0 (by omega)
    obtain ⟨l0, l1, l2, l3⟩ := quo_bd (d := d) y0 (by omega)
    have hd : 0 < d := by omega
    have hq : x / d ≤ y / d := Int.ediv_le_ediv hd hm
    rw [if_neg h1, if_neg h1, if_neg h2, if_neg h2]
    refine ⟨hq, ?_⟩
    have ex := Int.mul_ediv_add_emod x d
    have ey := Int.mul_ediv_add_emod y d
    by_cases he : x / d = y / d
    · rw [he] at ex ⊢
      split <;> split <;> omega
    · split <;> split <;> omega

/-! ### STEP 1: THE WALK: the Go text returns true. 'Below w.heap.size w w'': the world has at most new blocks (Derived/RowKit3.lean). Part the cases AHEAD of 'go_enter' where a test parts the walk; take each callee by a contract of your own. -/
theorem walk (a0 : Int) (a1 : Int) (a2 : Int) (a3 : Int) (w0 : (Lit.int .u64 a0).wf = true) (w1 : (Lit.int .u64 a1).wf = true) (w2 : (Lit.int .u64 a2).wf = true) (w3 : (Lit.int .u64 a3).wf = true) (w : World) :
    Calls Try.prog 8 #[.int .u64 a0, .int .u64 a1, .int .u64 a2, .int .u64 a3] w fun e w' => e = .returned (.bool true) ∧ Below w.heap.size w w' := by
  obtain ⟨p0, p1⟩ := u64_of w0
  obtain ⟨q0, q1⟩ := u64_of w1
  obtain ⟨r0, r1⟩ := u64_of w2
  obtain ⟨s0, s1⟩ := u64_of w3
  clear w0 w1 w2 w3
  have ED := Lib.hid (show down a1 a0 a3 = down a0 a1 a3 by unfold down; rw [Int.mul_comm a1])
  have EU := Lib.hid (show up a1 a0 a3 = up a0 a1 a3 by unfold up; rw [Int.mul_comm a1])
  obtain ⟨t0, t1, t2, t3⟩ := rnd_bd (d := a3) p0 p1 q0 q1
  obtain ⟨u0, u1, u2, u3⟩ := rnd_bd (d := a3) r0 r1 q0 q1
  by_cases h : a0 ≤ a2
  · obtain ⟨m1, m2⟩ := rnd_mono (d := a3) p0 p1 q0 q1 r0 r1 h
    go_enter Try.func8, Try.ntmps8
    go_wp2_with (first
      | (go_at_call 9; refine (alive_wide _).mono ?_; rintro e wa ⟨rfl, ha⟩)
      | ((with_reducible refine (down_any a0 a1 a3 p0 p1 q0 q1 s0 s1 _).mono ?_); rintro e wb ⟨rfl, hb⟩)
      | ((with_reducible refine (up_any a0 a1 a3 p0 p1 q0 q1 s0 s1 _).mono ?_); rintro e wc ⟨rfl, hc⟩)
      | ((with_reducible refine (down_any a1 a0 a3 q0 q1 p0 p1 s0 s1 _).mono ?_); rw [ED.out]; rintro e wd ⟨rfl, hd⟩)
      | ((with_reducible refine (up_any a1 a0 a3 q0 q1 p0 p1 s0 s1 _).mono ?_); rw [EU.out]; rintro e we ⟨rfl, he⟩)
      | ((with_reducible refine (down_any a2 a1 a3 r0 r1 q0 q1 s0 s1 _).mono ?_); rintro e wf ⟨rfl, hf⟩)
      | ((with_reducible refine (up_any a2 a1 a3 r0 r1 q0 q1 s0 s1 _).mono ?_); rintro e wg ⟨rfl, hg⟩))
    go_ret
    exact ⟨rfl, next (next (next (next (next (next ha hb) hc) hd) he) hf) hg⟩
  · obtain ⟨m1, m2⟩ := rnd_mono (d := a3) r0 r1 q0 q1 p0 p1 (show a2 ≤ a0 by omega)
    go_enter Try.func8, Try.ntmps8
    go_wp2_with (first
      | (go_at_call 9; refine (alive_wide _).mono ?_; rintro e wa ⟨rfl, ha⟩)
      | ((with_reducible refine (down_any a0 a1 a3 p0 p1 q0 q1 s0 s1 _).mono ?_); rintro e wb ⟨rfl, hb⟩)
      | ((with_reducible refine (up_any a0 a1 a3 p0 p1 q0 q1 s0 s1 _).mono ?_); rintro e wc ⟨rfl, hc⟩)
      | ((with_reducible refine (down_any a1 a0 a3 q0 q1 p0 p1 s0 s1 _).mono ?_); rw [ED.out]; rintro e wd ⟨rfl, hd⟩)
      | ((with_reducible refine (up_any a1 a0 a3 q0 q1 p0 p1 s0 s1 _).mono ?_); rw [EU.out]; rintro e we ⟨rfl, he⟩)
      | ((with_reducible refine (down_any a2 a1 a3 r0 r1 q0 q1 s0 s1 _).mono ?_); rintro e wf ⟨rfl, hf⟩)
      | ((with_reducible refine (up_any a2 a1 a3 r0 r1 q0 q1 s0 s1 _).mono ?_); rintro e wg ⟨rfl, hg⟩))
    go_ret
    exact ⟨rfl, next (next (next (next (next (next ha hb) hc) hd) he) hf) hg⟩

/-! ### THE ROW's STEP: WRITTEN OUT: LEAVE IT -/
set_option maxRecDepth 100000 in
theorem lifted (os : Os) (started : os.Started) (H : Type) (enc : TypeId × Value → H) :
    ReturnsInHanded {} Try.checked os 8 .any (Rows.wideBetweenSpec.pre6 enc Try.prog Try.f8 Rows.wideBetweenRow.domain false) (Rows.wideBetweenSpec.post enc Try.prog Try.f8 false true false false) := by
  refine returnsInHanded_of_change (C := Try.checked) own started (by kernel_rfl) Try.func8
    (ChangeSpec.witness6 (enc := enc) (C := Try.checked) false ⟨#[], #[.int .u64 0, .int .u64 0, .int .u64 0, .int .u64 0], []⟩ 8 (by kernel_rfl) (by kernel_rfl) (by kernel_rfl) (by kernel_rfl)) ?_
  intro W base args ds gs before hval0 hW hcnd _
  have hval : ∀ (j : Nat) t v, Try.f8.params[j]? = some t → args[j]? = some v → Value.okWide Try.prog W .any base t v := hval0
  have hW' := hW
  obtain ⟨p, q, hA0, hV, rfl, hfz, hnd⟩ := hW
  have hA : DataW.TrodAll enc Try.prog W 0 (fun _ => true) true Try.f8.params.toList args.toList ds p := hA0
  rw [Try.params8] at hA hval
  obtain ⟨v0, vs0, d0, ds0, p0, q0, hargs, rfl, rfl, h0, r0⟩ := trodAll_cons hA
  obtain ⟨v1, vs1, d1, ds1, p1, q1, rfl, rfl, rfl, h1, r1⟩ := trodAll_cons r0
  obtain ⟨v2, vs2, d2, ds2, p2, q2, rfl, rfl, rfl, h2, r2⟩ := trodAll_cons r1
  obtain ⟨v3, vs3, d3, ds3, p3, q3, rfl, rfl, rfl, h3, r3⟩ := trodAll_cons r2
  obtain ⟨rfl, rfl, rfl⟩ := trodAll_nil r3
  obtain rfl : args = #[v0, v1, v2, v3] := by cases args; simp_all
  obtain ⟨rfl, rfl⟩ := trodVars_none hV
  obtain ⟨a0, rfl, rfl, rfl, w0⟩ := open_int Try.underlying22 (hval 0 22 v0 rfl rfl) h0
  obtain ⟨a1, rfl, rfl, rfl, w1⟩ := open_int Try.underlying22 (hval 1 22 v1 rfl rfl) h1
  obtain ⟨a2, rfl, rfl, rfl, w2⟩ := open_int Try.underlying22 (hval 2 22 v2 rfl rfl) h2
  obtain ⟨a3, rfl, rfl, rfl, w3⟩ := open_int Try.underlying22 (hval 3 22 v3 rfl rfl) h3
  clear hA0 hval0
  simp only [List.append_nil] at hW'
  refine (walk a0 a1 a2 a3 w0 w1 w2 w3 W).mono fun e W' ⟨he, hg⟩ => ?_
  subst he
  exact ⟨_, rfl, Go.Proofs.Ytoaoeffjehencaa.Base.post_below (pa := []) (pv := []) hW' (fun _ _ _ => (trodAll_cons_mk (shut_bool Try.underlying4 _) trodAll_mk0)) (fun sp _ => (trodAll_cons_mk (shut_int Try.underlying22 w0) (trodAll_cons_mk (shut_int Try.underlying22 w1) (trodAll_cons_mk (shut_int Try.underlying22 w2) (trodAll_cons_mk (shut_int Try.underlying22 w3) trodAll_mk0))))) (fun _ _ => rfl) rfl
    hg (ok_one (by kernel_rfl) rfl (okWide_bool_mk Try.underlying4 _))⟩

theorem over : Rows.wideBetweenRow.holds Try.pinned (OpenSpec.ofChange Rows.wideBetweenSpec) :=
  OpenClaim.holds_of_wide 8 Try.f8 rfl rfl rfl rfl rfl rfl rfl ⟨rfl, rfl, rfl, rfl, rfl⟩ rfl rfl rfl rfl rfl (by kernel_rfl) Try.func8 (by kernel_rfl)
    (of_decide_eq_true (by kernel_rfl)) (by unfold Func.isWrapper; first | (rw [if_pos (by decide +kernel)]; kernel_rfl) | (rw [if_neg (by decide +kernel)]; exact ⟨rfl, rfl⟩))
    (fun os started H enc _ => lifted os started H enc)

/-- ████ THE STATEMENT ████ -/
theorem proved : Rows.WideBetweenSaid :=
  over
#print axioms proved
end Go.Proofs.Ytoaoeffjehencaa.wideBetween
