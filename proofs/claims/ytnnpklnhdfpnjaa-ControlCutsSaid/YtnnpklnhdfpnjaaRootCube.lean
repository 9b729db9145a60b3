/-
  The contracts of root.Cube and of the reference's Cube: the greatest number whose cube is at most n. The document's examples, as the laws of chapter 3 ask for them.
-/
import Derived.Test.YtnnpklnhdfpnjaaRoot
set_option linter.unusedSimpArgs false
set_option linter.unusedVariables false
namespace Go.Proofs.Ytnnpklnhdfpnjaa.Root
open Go.ChangeShapes Go.WideShapes Go.ChangeAt Go.RowKit Go.Proofs.Ytnnpklnhdfpnjaa.Wide Go.Proofs.Ytnnpklnhdfpnjaa.Base
set_option linter.unusedVariables false
set_option maxRecDepth 20000

theorem two_words {hi lo : Int} (h0 : 0 ≤ hi) (h1 : hi ≤ 18446744073709551615) (l0 : 0 ≤ lo) (l1 : lo ≤ 18446744073709551615) :
    0 ≤ hi * 18446744073709551616 + lo ∧ hi * 18446744073709551616 + lo < 340282366920938463463374607431768211456 := by omega
theorem cube_root (hi lo : Int) (h0 : 0 ≤ hi) (h1 : hi ≤ 18446744073709551615) (l0 : 0 ≤ lo) (l1 : lo ≤ 18446744073709551615) (w : World) :
    Calls Try.prog 75 #[.int .u64 hi, .int .u64 lo] w fun e w' => ∃ r, e = .returned (.int .u64 r) ∧ IsRoot (hi * 18446744073709551616 + lo) r ∧ w = w' := by
  obtain ⟨n0, n1⟩ := two_words h0 h1 l0 l1
  have S := root_start43 n0 n1
  go_enter Try.func75, Try.ntmps75
  go_wp2
  go_loop [5, 6] (fun r i => ∃ k q : Int, -1 ≤ k ∧ k ≤ 42 ∧ i = .int .i64 k ∧ r = .int .u64 q ∧ RootAt (hi * 18446744073709551616 + lo) q k) (fun _ i => (intOf i + 1).toNat)
  case atStart => exact ⟨42, 0, by omega, by omega, rfl, rfl, S⟩
  case round =>
    obtain ⟨k, q, k0, k1, rfl, rfl, L⟩ := hrel
    clear S
    by_cases hk : 0 ≤ k
    · obtain ⟨e, b0, b1⟩ := root_bit hk L
      by_cases hb : cub (q + 2 ^ k.toNat) ≤ hi * 18446744073709551616 + lo
      · have L' := root_take hk L hb
        have hd : decide (cub (q + 2 ^ k.toNat) ≤ hi * 18446744073709551616 + lo) = true := by simp [hb]
        go_wp2_with (go_at_call 80; refine (below_any _ hi lo b0 (by omega) h0 h1 l0 l1 _).mono ?_; rw [hd]; rintro e w' ⟨rfl, rfl⟩)
        go_round
        case rel => exact ⟨k - 1, _, by omega, by omega, rfl, rfl, L'⟩
        case measure => simp [intOf]; omega
      · have L' := root_leave hk L hb
        have hd : decide (cub (q + 2 ^ k.toNat) ≤ hi * 18446744073709551616 + lo) = false := by simp [hb]
        go_wp2_with (go_at_call 80; refine (below_any _ hi lo b0 (by omega) h0 h1 l0 l1 _).mono ?_; rw [hd]; rintro e w' ⟨rfl, rfl⟩)
        go_round
        case rel => exact ⟨k - 1, _, by omega, by omega, rfl, rfl, L'⟩
        case measure => simp [intOf]; omega
    · have R := root_end (by omega) k0 n1 L
      go_wp2
      go_ret
      exact ⟨q, rfl, R, rfl⟩
theorem ref_cube (hi lo : Int) (h0 : 0 ≤ hi) (h1 : hi ≤ 18446744073709551615) (l0 : 0 ≤ lo) (l1 : lo ≤ 18446744073709551615) (w : World) :
    Calls Try.prog 66 #[.int .u64 hi, .int .u64 lo] w fun e w' => ∃ r, e = .returned (.int .u64 r) ∧ IsRoot (hi * 18446744073709551616 + lo) r ∧ Below w.heap.size w w' := by
  obtain ⟨n0, n1⟩ := two_words h0 h1 l0 l1
  have S := root_start44 n0 n1
  go_enter Try.func66, Try.ntmps66
  go_wp2
  go_loopw [5, 6] (fun r i wr => ∃ k q : Int, -1 ≤ k ∧ k ≤ 43 ∧ i = .int .i64 k ∧ r = .int .u64 q ∧ RootAt (hi * 18446744073709551616 + lo) q k ∧ Below w.heap.size w wr) (fun _ i _ => (intOf i + 1).toNat)
  case atStart => exact ⟨43, 0, by omega, by omega, rfl, rfl, S, Below.refl _ _⟩
  case round =>
    obtain ⟨k, q, k0, k1, rfl, rfl, L, B⟩ := hrel
    clear S
    by_cases hk : 0 ≤ k
    · obtain ⟨e, b0, b1⟩ := root_bit hk L
      by_cases hb : cub (q + 2 ^ k.toNat) ≤ hi * 18446744073709551616 + lo
      · have L' := root_take hk L hb
        have hd : decide (cub (q + 2 ^ k.toNat) ≤ hi * 18446744073709551616 + lo) = true := by simp [hb]
        go_wp2_with (go_at_call 78; refine (ref_under _ hi lo b0 (by omega) h0 h1 l0 l1 _).mono ?_; rw [hd]; rintro e w' ⟨rfl, hw⟩)
        go_roundw
        case rel => exact ⟨k - 1, _, by omega, by omega, rfl, rfl, L', next B hw⟩
        case measure => simp [intOf]; omega
      · have L' := root_leave hk L hb
        have hd : decide (cub (q + 2 ^ k.toNat) ≤ hi * 18446744073709551616 + lo) = false := by simp [hb]
        go_wp2_with (go_at_call 78; refine (ref_under _ hi lo b0 (by omega) h0 h1 l0 l1 _).mono ?_; rw [hd]; rintro e w' ⟨rfl, hw⟩)
        go_roundw
        case rel => exact ⟨k - 1, _, by omega, by omega, rfl, rfl, L', next B hw⟩
        case measure => simp [intOf]; omega
    · have R := root_end (by omega) k0 n1 L
      go_wp2
      go_ret
      exact ⟨q, rfl, R, B⟩
/-- The root of a number that is told. -/
theorem cube_of {n r : Int} (hi lo : Int) (h0 : 0 ≤ hi) (h1 : hi ≤ 18446744073709551615) (l0 : 0 ≤ lo) (l1 : lo ≤ 18446744073709551615) (hn : hi * 18446744073709551616 + lo = n) (hr : IsRoot n r) (w : World) :
    Calls Try.prog 75 #[.int .u64 hi, .int .u64 lo] w fun e w' => e = .returned (.int .u64 r) ∧ w = w' := by
  refine (cube_root hi lo h0 h1 l0 l1 w).mono ?_
  rintro e w' ⟨q, rfl, hq, rfl⟩
  rw [hn] at hq
  rw [root_one hq hr]
  exact ⟨rfl, rfl⟩
theorem isRoot_of {n r : Int} (h0 : 0 ≤ r) (h1 : r < 8796093022208) (h2 : cub r ≤ n) (h3 : n < cub (r + 1)) : IsRoot n r := ⟨h0, h1, h2, h3⟩
end Go.Proofs.Ytnnpklnhdfpnjaa.Root
