/-
  What is told of any two places of any lists is as the document defines it. No conditions.
-/
import Derived.Test.YtakdacjdjhlnkaaBools
import Derived.Test.YtakdacjdjhlnkaaRows
import Derived.Test.YtakdacjdjhlnkaaRow
import Derived.WalkKit
import Derived.ProofKit
import Derived.OpenShut
import Derived.ShutString
import Derived.ChangeOld
import Derived.Below
import Derived.Test.YtakdacjdjhlnkaaFoldAlive
namespace Go.Proofs.Ytakdacjdjhlnkaa.foldPlaces
open Go.ChangeShapes Go.WideShapes Go.ChangeAt Go.RowKit
open Go.ChangeMaps (open_string shut_string)
open Go.Proofs.Ytakdacjdjhlnkaa.Base
set_option linter.unusedVariables false

theorem own : ownKnob Try.prog.godebug = none := by kernel_rfl
theorem laidOut : laidOutB Try.prog = true := by kernel_rfl

open Go.Proofs.Ytakdacjdjhlnkaa.Fold Go.Proofs.Ytakdacjdjhlnkaa.FoldPlain
set_option maxHeartbeats 2000000 in
theorem walk (a0 : Option Addr) (len0 cap0 : Nat) (z0 : List Int) (a1 : Option Addr) (len1 cap1 : Nat) (z1 : List Bool) (a2 : Int) (a3 : Int) (w : World) (w0 : Ints .u64 w a0 z0) (n0 : z0.length = len0) (m0 : len0 ≤ cap0) (o0 : cap0 ≤ maxLen) (f0 : ∀ x ∈ z0, (Lit.int .u64 x).wf = true) (w1 : Bools w a1 z1) (n1 : z1.length = len1) (m1 : len1 ≤ cap1) (o1 : cap1 ≤ maxLen) (w2 : (Lit.int .i64 a2).wf = true) (w3 : (Lit.int .i64 a3).wf = true) :
    Calls Try.prog 4 #[.slice a0 len0 cap0, .slice a1 len1 cap1, .int .i64 a2, .int .i64 a3] w fun e w' => e = .returned (.bool true) ∧ Below w.heap.size w w' := by
  subst n0
  subst n1
  obtain ⟨p0, p1⟩ := Base.i64_of w2
  obtain ⟨q0, q1⟩ := Base.i64_of w3
  unfold maxLen at o0 o1
  have hw : W64 z0 := fun x hx => Base.u64_of (f0 x hx)
  have C1 := fun W hz => over_any a0 z0.length cap0 z0 a2 a3 W rfl (by omega) hw p0 p1 q0 q1 hz
  have C2 := fun W hz => odd_any a1 z1.length cap1 z1 a2 a3 W rfl (by omega) p0 p1 q0 q1 hz
  clear f0 hw w2 w3
  by_cases hbad : a2 < 0 ∨ a3 < a2
  · rw [overB_false (by omega), overV_none (by omega)] at C1
    rw [overB_false (by omega), oddV_none (by omega)] at C2
    have hcase : a2 < 0 ∨ (0 ≤ a2 ∧ a3 < a2) := by omega
    clear hbad
    rcases hcase with hc | ⟨hc, hd⟩
    all_goals go_enter Try.func4, Try.ntmps4
    all_goals go_wp2_with (first
      | (go_at_call 7; refine (alive_fold w).mono ?_; rintro e wa ⟨rfl, ha⟩)
      | (go_at_call 13; refine (C1 _ (w0.below ha)).mono ?_; rintro e x1 ⟨rfl, L1⟩; have M1 := Base.next ha L1; clear C1)
      | (go_at_call 14; refine (C2 _ (w1.below M1)).mono ?_; rintro e x2 ⟨rfl, L2⟩; have M2 := Base.next M1 L2; clear C2))
    all_goals go_quiet (fail)
    all_goals go_wp2
    all_goals go_ret
    all_goals exact ⟨rfl, Base.drawn M2 _⟩
  · obtain ⟨F, rfl⟩ := Int.eq_ofNat_of_zero_le (show 0 ≤ a2 by omega)
    obtain ⟨T, rfl⟩ := Int.eq_ofNat_of_zero_le (show 0 ≤ a3 by omega)
    have hFT : (F : Int) ≤ (T : Int) := by omega
    have hF0 : (0 : Int) ≤ (F : Int) := by omega
    clear hbad
    by_cases h1 : (T : Int) < (z0.length : Int)
    · rw [overB_true hF0 hFT h1, overV_at (by omega) (by omega)] at C1
      have N1 := fun {W} (hL : Below w.heap.size w W) => Ints.at_ (w0.below hL) (i := F) (by omega)
      have N2 := fun {W} (hL : Below w.heap.size w W) => Ints.at_ (w0.below hL) (i := T) (by omega)
      obtain ⟨X, hX⟩ : ∃ X, xr (z0.getD F 0) (z0.getD T 0) = X := ⟨_, rfl⟩
      rw [hX] at C1
      have hX' : bits .xor .u64 (z0.getD F 0) (z0.getD T 0) = X := hX
      clear hX
      by_cases h2 : (T : Int) < (z1.length : Int)
      · rw [overB_true hF0 hFT h2, oddV_at (by omega) (by omega)] at C2
        have N3 := fun {W} (hL : Below w.heap.size w W) => Bools.at_ (w1.below hL) (i := F) (by omega)
        have N4 := fun {W} (hL : Below w.heap.size w W) => Bools.at_ (w1.below hL) (i := T) (by omega)
        generalize z0.getD F 0 = xF at *
        generalize z0.getD T 0 = xT at *
        generalize z1.getD F false = yF at *
        generalize z1.getD T false = yT at *
        go_enter Try.func4, Try.ntmps4
        go_wp2_with (first
          | (go_at_call 7; refine (alive_fold w).mono ?_; rintro e wa ⟨rfl, ha⟩)
          | (go_at_call 13; refine (C1 _ (w0.below ha)).mono ?_; rintro e x1 ⟨rfl, L1⟩; have M1 := Base.next ha L1; clear C1)
          | (go_at_call 14; refine (C2 _ (w1.below M1)).mono ?_; rintro e x2 ⟨rfl, L2⟩; have M2 := Base.next M1 L2; clear C2; obtain ⟨b1, o1, rfl, _, c1⟩ := N1 M2; obtain ⟨b2, o2, e2, _, c2⟩ := N2 M2; cases e2; obtain ⟨b3, o3, rfl, _, c3⟩ := N3 M2; obtain ⟨b4, o4, e4, _, c4⟩ := N4 M2; cases e4; clear N1 N2 N3 N4))
        go_quiet (fail)
        all_goals go_wp2
        all_goals go_ret
        exact ⟨by cases yF <;> cases yT <;> rfl, Base.drawn M2 _⟩
      · rw [overB_false (by omega), oddV_none (by omega)] at C2
        have h2' : ¬ (T : Int) < (z1.length : Int) := h2
        generalize z0.getD F 0 = xF at *
        generalize z0.getD T 0 = xT at *
        go_enter Try.func4, Try.ntmps4
        go_wp2_with (first
          | (go_at_call 7; refine (alive_fold w).mono ?_; rintro e wa ⟨rfl, ha⟩)
          | (go_at_call 13; refine (C1 _ (w0.below ha)).mono ?_; rintro e x1 ⟨rfl, L1⟩; have M1 := Base.next ha L1; clear C1)
          | (go_at_call 14; refine (C2 _ (w1.below M1)).mono ?_; rintro e x2 ⟨rfl, L2⟩; have M2 := Base.next M1 L2; clear C2; obtain ⟨b1, o1, rfl, _, c1⟩ := N1 M2; obtain ⟨b2, o2, e2, _, c2⟩ := N2 M2; cases e2; clear N1 N2))
        go_quiet (fail)
        all_goals go_wp2
        all_goals go_ret
        exact ⟨rfl, Base.drawn M2 _⟩
    · rw [overB_false (by omega), overV_none (by omega)] at C1
      by_cases h2 : (T : Int) < (z1.length : Int)
      · rw [overB_true hF0 hFT h2, oddV_at (by omega) (by omega)] at C2
        have N3 := fun {W} (hL : Below w.heap.size w W) => Bools.at_ (w1.below hL) (i := F) (by omega)
        have N4 := fun {W} (hL : Below w.heap.size w W) => Bools.at_ (w1.below hL) (i := T) (by omega)
        generalize z1.getD F false = yF at *
        generalize z1.getD T false = yT at *
        go_enter Try.func4, Try.ntmps4
        go_wp2_with (first
          | (go_at_call 7; refine (alive_fold w).mono ?_; rintro e wa ⟨rfl, ha⟩)
          | (go_at_call 13; refine (C1 _ (w0.below ha)).mono ?_; rintro e x1 ⟨rfl, L1⟩; have M1 := Base.next ha L1; clear C1)
          | (go_at_call 14; refine (C2 _ (w1.below M1)).mono ?_; rintro e x2 ⟨rfl, L2⟩; have M2 := Base.next M1 L2; clear C2; obtain ⟨b3, o3, rfl, _, c3⟩ := N3 M2; obtain ⟨b4, o4, e4, _, c4⟩ := N4 M2; cases e4; clear N3 N4))
        go_quiet (fail)
        all_goals go_wp2
        all_goals go_ret
        exact ⟨by cases yF <;> cases yT <;> rfl, Base.drawn M2 _⟩
      · rw [overB_false (by omega), oddV_none (by omega)] at C2
        go_enter Try.func4, Try.ntmps4
        go_wp2_with (first
          | (go_at_call 7; refine (alive_fold w).mono ?_; rintro e wa ⟨rfl, ha⟩)
          | (go_at_call 13; refine (C1 _ (w0.below ha)).mono ?_; rintro e x1 ⟨rfl, L1⟩; have M1 := Base.next ha L1; clear C1)
          | (go_at_call 14; refine (C2 _ (w1.below M1)).mono ?_; rintro e x2 ⟨rfl, L2⟩; have M2 := Base.next M1 L2; clear C2))
        go_quiet (fail)
        all_goals go_wp2
        all_goals go_ret
        exact ⟨rfl, Base.drawn M2 _⟩

set_option maxRecDepth 100000 in
theorem lifted (os : Os) (started : os.Started) (H : Type) (enc : TypeId × Value → H) :
    ReturnsInHanded {} Try.checked os 4 .any (Rows.foldPlacesSpec.pre6 enc Try.prog Try.f4 Rows.foldPlacesRow.domain false) (Rows.foldPlacesSpec.post enc Try.prog Try.f4 false true false false) := by
  refine returnsInHanded_of_change (C := Try.checked) own started (by kernel_rfl) Try.func4
    (ChangeSpec.witness6 (enc := enc) (C := Try.checked) false ⟨#[], #[.slice none 0 0, .slice none 0 0, .int .i64 0, .int .i64 0], []⟩ 8 (by kernel_rfl) (by kernel_rfl) (by kernel_rfl) (by kernel_rfl)) ?_
  intro W base args ds gs before hval0 hW hcnd _
  have hval : ∀ (j : Nat) t v, Try.f4.params[j]? = some t → args[j]? = some v → Value.okWide Try.prog W .any base t v := hval0
  have hW' := hW
  obtain ⟨p, q, hA0, hV, rfl, hfz, hnd⟩ := hW
  have hA : DataW.TrodAll enc Try.prog W 0 (fun _ => true) true Try.f4.params.toList args.toList ds p := hA0
  rw [Try.params4] at hA hval
  obtain ⟨v0, vs0, d0, ds0, p0, q0, hargs, rfl, rfl, h0, r0⟩ := trodAll_cons hA
  obtain ⟨v1, vs1, d1, ds1, p1, q1, rfl, rfl, rfl, h1, r1⟩ := trodAll_cons r0
  obtain ⟨v2, vs2, d2, ds2, p2, q2, rfl, rfl, rfl, h2, r2⟩ := trodAll_cons r1
  obtain ⟨v3, vs3, d3, ds3, p3, q3, rfl, rfl, rfl, h3, r3⟩ := trodAll_cons r2
  obtain ⟨rfl, rfl, rfl⟩ := trodAll_nil r3
  obtain rfl : args = #[v0, v1, v2, v3] := by cases args; simp_all
  obtain ⟨rfl, rfl⟩ := trodVars_none hV
  obtain ⟨a0, len0, cap0, rfl⟩ := okWide_slice Try.underlying22 (hval 0 22 v0 rfl rfl)
  have k0 := h0
  have lt0 : ∀ x ∈ p0, x.block < W.heap.size := by obtain ⟨m, hm⟩ := k0; exact DataW.trod_lt m _ _ _ hm
  obtain ⟨z0, w0, n0, m0, o0, f0⟩ : ∃ zs, Ints .u64 W a0 zs ∧ zs.length = len0 ∧ len0 ≤ cap0 ∧ cap0 ≤ maxLen ∧ (∀ x ∈ zs, (Lit.int .u64 x).wf = true) := by
    obtain ⟨fuel, hf⟩ := h0
    rcases open_ints Try.underlying22 Try.underlying29 (by kernel_rfl) hf with ⟨hcs, hx⟩ | ⟨x, l, c, zs, hcs, _, hl, hm, hz, hx, hcell, hwz⟩
    · simp [Value.cells] at hcs
      obtain ⟨rfl, rfl, rfl⟩ := hcs
      exact ⟨[], Row.nil _ _, rfl, Nat.le_refl _, Nat.zero_le _, (fun _ h => by cases h)⟩
    · simp [Value.cells] at hcs
      obtain ⟨rfl, rfl, rfl⟩ := hcs
      exact ⟨zs.take len0, ints_of hl (by simpa using hz) hcell, take_len hl (by simpa using hz), hl, hm, (fun x hx => hwz x (List.mem_of_mem_take hx))⟩
  obtain ⟨a1, len1, cap1, rfl⟩ := okWide_slice Try.underlying23 (hval 1 23 v1 rfl rfl)
  have k1 := h1
  have lt1 : ∀ x ∈ p1, x.block < W.heap.size := by obtain ⟨m, hm⟩ := k1; exact DataW.trod_lt m _ _ _ hm
  obtain ⟨z1, w1, n1, m1, o1⟩ : ∃ zs, Bools W a1 zs ∧ zs.length = len1 ∧ len1 ≤ cap1 ∧ cap1 ≤ maxLen := by
    obtain ⟨fuel, hf⟩ := h1
    rcases open_bools Try.underlying23 Try.underlying4 (by kernel_rfl) hf with ⟨hcs, hx⟩ | ⟨x, l, c, zs, E, S, hcs, hl, hm, hz, hx, hE, hS, hsp⟩
    · simp [Value.cells] at hcs
      obtain ⟨rfl, rfl, rfl⟩ := hcs
      exact ⟨[], Bools.nil _ _, rfl, Nat.le_refl _, Nat.zero_le _⟩
    · simp [Value.cells] at hcs
      obtain ⟨rfl, rfl, rfl⟩ := hcs
      exact ⟨zs, hsp, hz, hl, hm⟩
  obtain ⟨a2, rfl, rfl, rfl, w2⟩ := open_int Try.underlying3 (hval 2 3 v2 rfl rfl) h2
  obtain ⟨a3, rfl, rfl, rfl, w3⟩ := open_int Try.underlying3 (hval 3 3 v3 rfl rfl) h3
  clear hA0 hval0
  refine (walk a0 len0 cap0 z0 a1 len1 cap1 z1 a2 a3 W w0 n0 m0 o0 f0 w1 n1 m1 o1 w2 w3).mono fun e W' ⟨he, bel⟩ => ?_
  subst he
  exact ⟨_, rfl, _, _, _, [], _, [], hW', trodAll_mk1 (shut_bool Try.underlying4 _), (trodAll_cons_mk (Below.trod laidOut (by kernel_rfl) (of_decide_eq_true (by kernel_rfl)) k0 bel lt0) (trodAll_cons_mk (Below.trod laidOut (by kernel_rfl) (of_decide_eq_true (by kernel_rfl)) k1 bel lt1) (trodAll_cons_mk (shut_int Try.underlying3 w2) (trodAll_cons_mk (shut_int Try.underlying3 w3) trodAll_mk0)))), rfl, bel.frame _, fun h => by cases h⟩

theorem over : Rows.foldPlacesRow.holds Try.pinned (OpenSpec.ofChange Rows.foldPlacesSpec) :=
  OpenClaim.holds_of_wide 4 Try.f4 rfl rfl rfl rfl rfl rfl rfl ⟨rfl, rfl, rfl, rfl, rfl⟩ rfl rfl rfl rfl rfl (by kernel_rfl) Try.func4 (by kernel_rfl)
    (of_decide_eq_true (by kernel_rfl)) (by unfold Func.isWrapper; first | (rw [if_pos (by decide +kernel)]; kernel_rfl) | (rw [if_neg (by decide +kernel)]; exact ⟨rfl, rfl⟩))
    (fun os started H enc _ => lifted os started H enc)

/-- The given statement. -/
theorem proved : Rows.FoldPlacesSaid :=
  over
#print axioms proved
end Go.Proofs.Ytakdacjdjhlnkaa.foldPlaces
