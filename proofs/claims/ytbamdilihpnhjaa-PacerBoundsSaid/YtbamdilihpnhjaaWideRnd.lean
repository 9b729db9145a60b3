/-
  The contracts of wide.Down, wide.Up and of the reference's; the document's examples, as the laws of chapter 2 ask for them. Below the heap's size the world is as it was.
-/
import Derived.Test.YtbamdilihpnhjaaWide
import Derived.Test.YtbamdilihpnhjaaSat
set_option linter.unusedSimpArgs false
set_option linter.unusedVariables false
namespace Go.Proofs.Ytbamdilihpnhjaa.Wide
open Go.ChangeShapes Go.WideShapes Go.ChangeAt Go.RowKit
set_option linter.unusedVariables false
set_option maxRecDepth 20000

def down (a b d : Int) : Int := if d ≤ a * b / 18446744073709551616 then 18446744073709551615 else a * b / d
def up (a b d : Int) : Int :=
  if d ≤ a * b / 18446744073709551616 then 18446744073709551615 else if 0 < a * b % d ∧ a * b / d < 18446744073709551615 then a * b / d + 1 else a * b / d

theorem whole (x : Int) : x / 18446744073709551616 * 18446744073709551616 + x % 18446744073709551616 = x := by omega
theorem high_lt {a b : Int} (a0 : 0 ≤ a) (a1 : a ≤ 18446744073709551615) (b0 : 0 ≤ b) (b1 : b ≤ 18446744073709551615) :
    0 ≤ a * b ∧ a * b / 18446744073709551616 ≤ 18446744073709551614 := by
  have h := times_le a0 a1 b0 (Int.le_refl b) b1
  have := Int.mul_nonneg a0 b0
  exact ⟨this, by omega⟩
theorem quo_bd {x d : Int} (x0 : 0 ≤ x) (h : x / 18446744073709551616 < d) : 0 ≤ x / d ∧ x / d ≤ 18446744073709551615 ∧ 0 ≤ x % d ∧ x % d < d := by
  have hd : 0 < d := by omega
  refine ⟨Int.ediv_nonneg x0 (by omega), ?_, Int.emod_nonneg x (by omega), Int.emod_lt_of_pos x hd⟩
  have := Int.ediv_lt_of_lt_mul hd (show x < 18446744073709551616 * d by omega)
  omega

theorem parts_no (a b d : Int) (a0 : 0 ≤ a) (a1 : a ≤ 18446744073709551615) (b0 : 0 ≤ b) (b1 : b ≤ 18446744073709551615) (h : d ≤ a * b / 18446744073709551616) (w : World) :
    Calls Try.prog 36 #[.int .u64 a, .int .u64 b, .int .u64 d] w fun e w' => e = .returned (.tuple #[.int .u64 18446744073709551615, .int .u64 0]) ∧ Below w.heap.size w w' := by
  go_enter Try.func36, Try.ntmps36
  go_wp2_with (first
    | (go_at_call 37; refine (mul_any a b a0 a1 b0 b1 _).mono ?_; rintro e w' ⟨rfl, rfl⟩)
    | (go_at_call 38; refine (div_no _ _ d h _).mono ?_; rintro e w' ⟨rfl, rfl⟩))
  go_ret2
  exact ⟨rfl, Below.refl _ _⟩
theorem parts_yes (a b d : Int) (a0 : 0 ≤ a) (a1 : a ≤ 18446744073709551615) (b0 : 0 ≤ b) (b1 : b ≤ 18446744073709551615) (h : a * b / 18446744073709551616 < d) (d1 : d ≤ 18446744073709551615) (w : World) :
    Calls Try.prog 36 #[.int .u64 a, .int .u64 b, .int .u64 d] w fun e w' => e = .returned (.tuple #[.int .u64 (a * b / d), .int .u64 (a * b % d)]) ∧ Below w.heap.size w w' := by
  obtain ⟨p0, p1⟩ := high_lt a0 a1 b0 b1
  have m0 : 0 ≤ a * b / 18446744073709551616 := by omega
  have m1 : 0 ≤ a * b % 18446744073709551616 := by omega
  have m2 : a * b % 18446744073709551616 ≤ 18446744073709551615 := by omega
  have E := Lib.hid (whole (a * b))
  go_enter Try.func36, Try.ntmps36
  go_wp2_with (first
    | (go_at_call 37; refine (mul_any a b a0 a1 b0 b1 _).mono ?_; rintro e w' ⟨rfl, rfl⟩)
    | (go_at_call 38; refine (div_yes _ _ d m0 h m1 m2 d1 _).mono ?_; rw [E.out]; rintro e w' ⟨rfl, hb⟩))
  go_ret2
  exact ⟨rfl, hb⟩
theorem down_any (a b d : Int) (a0 : 0 ≤ a) (a1 : a ≤ 18446744073709551615) (b0 : 0 ≤ b) (b1 : b ≤ 18446744073709551615) (d0 : 0 ≤ d) (d1 : d ≤ 18446744073709551615) (w : World) :
    Calls Try.prog 29 #[.int .u64 a, .int .u64 b, .int .u64 d] w fun e w' => e = .returned (.int .u64 (down a b d)) ∧ Below w.heap.size w w' := by
  by_cases h : d ≤ a * b / 18446744073709551616
  · have F := Lib.hid (show down a b d = 18446744073709551615 by unfold down; rw [if_pos h])
    go_enter Try.func29, Try.ntmps29
    go_wp2_with (go_at_call 36; refine (parts_no a b d a0 a1 b0 b1 h _).mono ?_; rintro e w' ⟨rfl, hb⟩)
    go_ret
    exact ⟨by rw [F.out]; rfl, hb⟩
  · have F := Lib.hid (show down a b d = a * b / d by unfold down; rw [if_neg h])
    go_enter Try.func29, Try.ntmps29
    go_wp2_with (go_at_call 36; refine (parts_yes a b d a0 a1 b0 b1 (by omega) d1 _).mono ?_; rintro e w' ⟨rfl, hb⟩)
    go_ret
    exact ⟨by rw [F.out]; rfl, hb⟩
theorem up_any (a b d : Int) (a0 : 0 ≤ a) (a1 : a ≤ 18446744073709551615) (b0 : 0 ≤ b) (b1 : b ≤ 18446744073709551615) (d0 : 0 ≤ d) (d1 : d ≤ 18446744073709551615) (w : World) :
    Calls Try.prog 31 #[.int .u64 a, .int .u64 b, .int .u64 d] w fun e w' => e = .returned (.int .u64 (up a b d)) ∧ Below w.heap.size w w' := by
  by_cases h : d ≤ a * b / 18446744073709551616
  · have F := Lib.hid (show up a b d = 18446744073709551615 by unfold up; rw [if_pos h])
    go_enter Try.func31, Try.ntmps31
    go_wp2_with (go_at_call 36; refine (parts_no a b d a0 a1 b0 b1 h _).mono ?_; rintro e w' ⟨rfl, hb⟩)
    go_ret
    exact ⟨by rw [F.out]; rfl, hb⟩
  · obtain ⟨p0, p1⟩ := high_lt a0 a1 b0 b1
    obtain ⟨k0, k1, k2, k3⟩ := quo_bd (d := d) p0 (by omega)
    by_cases g : 0 < a * b % d
    · by_cases g2 : a * b / d < 18446744073709551615
      · have F := Lib.hid (show up a b d = a * b / d + 1 by unfold up; rw [if_neg h, if_pos ⟨g, g2⟩])
        go_enter Try.func31, Try.ntmps31
        go_wp2_with (go_at_call 36; refine (parts_yes a b d a0 a1 b0 b1 (by omega) d1 _).mono ?_; rintro e w' ⟨rfl, hb⟩)
        go_ret
        exact ⟨by rw [F.out]; rfl, hb⟩
      · have F := Lib.hid (show up a b d = a * b / d by unfold up; rw [if_neg h, if_neg (by omega)])
        go_enter Try.func31, Try.ntmps31
        go_wp2_with (go_at_call 36; refine (parts_yes a b d a0 a1 b0 b1 (by omega) d1 _).mono ?_; rintro e w' ⟨rfl, hb⟩)
        go_ret
        exact ⟨by rw [F.out]; rfl, hb⟩
    · have F := Lib.hid (show up a b d = a * b / d by unfold up; rw [if_neg h, if_neg (by omega)])
      go_enter Try.func31, Try.ntmps31
      go_wp2_with (go_at_call 36; refine (parts_yes a b d a0 a1 b0 b1 (by omega) d1 _).mono ?_; rintro e w' ⟨rfl, hb⟩)
      go_ret
      exact ⟨by rw [F.out]; rfl, hb⟩
theorem ref_up (a b d : Int) (a0 : 0 ≤ a) (a1 : a ≤ 18446744073709551615) (b0 : 0 ≤ b) (b1 : b ≤ 18446744073709551615) (d0 : 0 ≤ d) (d1 : d ≤ 18446744073709551615) (w : World) :
    Calls Try.prog 24 #[.int .u64 a, .int .u64 b, .int .u64 d] w fun e w' => e = .returned (.int .u64 (up a b d)) ∧ Below w.heap.size w w' := by
  obtain ⟨p0, p1⟩ := high_lt a0 a1 b0 b1
  have m0 : 0 ≤ a * b / 18446744073709551616 := by omega
  have m1 : 0 ≤ a * b % 18446744073709551616 := by omega
  have m2 : a * b % 18446744073709551616 ≤ 18446744073709551615 := by omega
  have E := Lib.hid (whole (a * b))
  by_cases h : d ≤ a * b / 18446744073709551616
  · have F := Lib.hid (show up a b d = 18446744073709551615 by unfold up; rw [if_pos h])
    go_enter Try.func24, Try.ntmps24
    go_wp2_with (first
      | (go_at_call 32; refine (ref_times a b a0 a1 b0 b1 _).mono ?_; rintro e w' ⟨rfl, hb⟩)
      | (go_at_call 33; refine (ref_div_no _ _ d h _).mono ?_; rintro e w' ⟨rfl, rfl⟩))
    go_ret
    exact ⟨by rw [F.out]; rfl, hb.alloc hb.size _⟩
  · obtain ⟨k0, k1, k2, k3⟩ := quo_bd (d := d) p0 (by omega)
    by_cases g : 0 < a * b % d
    · have F := Lib.hid (show up a b d = Sat.add (a * b / d) 1 by unfold up Sat.add; rw [if_neg h]; split <;> split <;> omega)
      go_enter Try.func24, Try.ntmps24
      go_wp2_with (first
        | (go_at_call 32; refine (ref_times a b a0 a1 b0 b1 _).mono ?_; rintro e w' ⟨rfl, hb⟩)
        | (go_at_call 33; refine (ref_div_yes _ _ d m0 (by omega) m1 m2 d1 _).mono ?_; rw [E.out]; rintro e w' ⟨rfl, rfl⟩)
        | (go_at_call 23; refine (Sat.ref_add (a * b / d) 1 k0 k1 (by decide) (by decide) _).mono ?_; rintro e w' ⟨rfl, rfl⟩))
      go_ret
      exact ⟨by rw [F.out]; rfl, hb.alloc hb.size _⟩
    · have F := Lib.hid (show up a b d = a * b / d by unfold up; rw [if_neg h, if_neg (by omega)])
      go_enter Try.func24, Try.ntmps24
      go_wp2_with (first
        | (go_at_call 32; refine (ref_times a b a0 a1 b0 b1 _).mono ?_; rintro e w' ⟨rfl, hb⟩)
        | (go_at_call 33; refine (ref_div_yes _ _ d m0 (by omega) m1 m2 d1 _).mono ?_; rw [E.out]; rintro e w' ⟨rfl, rfl⟩))
      go_ret
      exact ⟨by rw [F.out]; rfl, hb.alloc hb.size _⟩

theorem ex_down1 : down 7 3 2 = 10 := by decide +kernel
theorem ex_down2 : down 18446744073709551615 18446744073709551615 18446744073709551615 = 18446744073709551615 := by decide +kernel
theorem ex_up : up 7 3 2 = 11 := by decide +kernel
end Go.Proofs.Ytbamdilihpnhjaa.Wide
