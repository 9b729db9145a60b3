/-
  The examples of the document hold (alive); what the laws show of any rows, as contracts of the laws' own functions, which other laws call.
-/
import Derived.Test.YtipcabdodjkmoaaSpanRef
import Derived.Test.YtipcabdodjkmoaaSpanRef2
import Derived.Test.YtipcabdodjkmoaaSpanRef3
import Derived.Test.YtipcabdodjkmoaaSpanRef4
import Derived.Test.YtipcabdodjkmoaaSpan2
import Derived.Test.YtipcabdodjkmoaaSpan3
import Derived.Test.YtipcabdodjkmoaaSpan4
import Derived.Test.YtipcabdodjkmoaaSpan5
namespace Go.Proofs.Ytipcabdodjkmoaa.Span
set_option linter.unusedVariables false
open Go.ChangeShapes Go.WideShapes Go.ChangeAt Go.RowKit
open Go.Proofs.Ytipcabdodjkmoaa.Base Go.Proofs.Ytipcabdodjkmoaa.SpanPlain Go.Proofs.Ytipcabdodjkmoaa.Sat Go.Proofs.Ytipcabdodjkmoaa.SpanRef

theorem ex_good : good [(1, 3), (6, 9)] = true := by decide +kernel
theorem ex_bad : good [(1, 3), (4, 5)] = false := by decide +kernel
theorem ex_nil : good [] = true := by decide +kernel
theorem ex_add1 : addS [(1, 3), (6, 9)] (4, 4) = [(1, 4), (6, 9)] := by decide +kernel
theorem ex_add2 : addS [(1, 3), (6, 9)] (4, 5) = [(1, 9)] := by decide +kernel
theorem ex_count : (if good [(1, 3), (6, 9)] then count [(1, 3), (6, 9)] else 0) = 7 := by decide +kernel
theorem fits_small {l : List Sp} (h : good l = true) : Fits l := Fits.of_good h
theorem fits_bad : Fits [(1, 3), (4, 5)] := Fits.cons (by decide) (Fits.cons (by decide) Fits.nil)
set_option maxHeartbeats 2000000 in
theorem alive_span (w : World) :
    Calls Try.prog 8 #[] w fun e w' => e = .returned (.bool true) ∧ Below w.heap.size w w' := by
  have hz0 : Spans (w.alloc (.cells #[.int .u64 1, .int .u64 3, .int .u64 6, .int .u64 9] 25)) (some ⟨w.heap.size, 0, none⟩) [(1, 3), (6, 9)] := Row.lit w _ [.int .u64 1, .int .u64 3, .int .u64 6, .int .u64 9]
  have L0 : Below w.heap.size w (w.alloc (.cells #[.int .u64 1, .int .u64 3, .int .u64 6, .int .u64 9] 25)) := (Below.refl _ _).alloc (Nat.le_refl _) _
  have c1 := add_good_any (some ⟨w.heap.size, 0, none⟩) 2 2 [(1, 3), (6, 9)] (4, 4) _ rfl (by decide) ex_good (by decide) (by decide +kernel) hz0
  have c2 := fun W hz => add_good_any (some ⟨w.heap.size, 0, none⟩) 2 2 [(1, 3), (6, 9)] (4, 5) W rfl (by decide) ex_good (by decide) (by decide +kernel) hz
  have c3 := fun W hz => count_any (some ⟨w.heap.size, 0, none⟩) 2 2 [(1, 3), (6, 9)] W rfl (by decide) (fits_small ex_good) hz
  have c4 := fun W => good_any none 0 0 [] W rfl (by decide) Fits.nil (Spans.nil _ _)
  have c5 := fun b W hz => good_any (some ⟨b, 0, none⟩) 2 2 [(1, 3), (4, 5)] W rfl (by decide) fits_bad hz
  rw [ex_add1] at c1
  rw [ex_add2] at c2
  rw [ex_count] at c3
  rw [ex_nil] at c4
  rw [ex_bad] at c5
  simp only at c1 c2
  go_enter Try.func8, Try.ntmps8
  go_wp2_with (first
    | ((with_reducible refine c1.mono ?_); rintro e w1 ⟨v1, rfl, o1, L1⟩; obtain ⟨a1, cap1, rfl, hc1, hm1, hn1, R1⟩ := o1.read; have hz1 := hz0.below L1; have M1 := Base.next L0 L1)
    | ((with_reducible refine (c2 _ hz1).mono ?_); rintro e w2 ⟨v2, rfl, o2, L2⟩; obtain ⟨a2, cap2, rfl, hc2, hm2, hn2, R2⟩ := o2.read; have hz2 := hz1.below L2; have M2 := Base.next M1 L2))
  have hy1 : Spans (w2.alloc (.cells #[.int .u64 1, .int .u64 4, .int .u64 6, .int .u64 9] 25)) (some ⟨w2.heap.size, 0, none⟩) [(1, 4), (6, 9)] := Row.lit w2 _ [.int .u64 1, .int .u64 4, .int .u64 6, .int .u64 9]
  refine (same_any a1 (some ⟨w2.heap.size, 0, none⟩) 2 2 cap1 2 [(1, 4), (6, 9)] [(1, 4), (6, 9)] _ rfl rfl (by decide) (by decide) (Row.alloc (R1.row.below L2) _) hy1).mono ?_
  rintro e w3 ⟨rfl, L3⟩
  have M3 := Base.below_step M2 L3
  go_wp2_with fail
  have hy2 : Spans (w3.alloc (.cells #[.int .u64 1, .int .u64 9] 25)) (some ⟨w3.heap.size, 0, none⟩) [(1, 9)] := Row.lit w3 _ [.int .u64 1, .int .u64 9]
  have L23 : Below w2.heap.size w2 w3 := Base.below_step (Below.refl _ _) L3
  refine (same_any a2 (some ⟨w3.heap.size, 0, none⟩) 1 1 cap2 1 [(1, 9)] [(1, 9)] _ rfl rfl (by decide) (by decide) (Row.alloc (R2.row.below L23) _) hy2).mono ?_
  rintro e w4 ⟨rfl, L4⟩
  have M4 := Base.below_step M3 L4
  go_wp2_with fail
  refine (c4 _).mono ?_
  rintro e w5 ⟨rfl, L5⟩
  have M5 := Base.next M4 L5
  go_wp2_with fail
  have hy5 : Spans (w5.alloc (.cells #[.int .u64 1, .int .u64 3, .int .u64 4, .int .u64 5] 25)) (some ⟨w5.heap.size, 0, none⟩) [(1, 3), (4, 5)] := Row.lit w5 _ [.int .u64 1, .int .u64 3, .int .u64 4, .int .u64 5]
  refine (c5 _ _ hy5).mono ?_
  rintro e w6 ⟨rfl, L6⟩
  have M6 := Base.below_step M5 L6
  go_wp2_with fail
  refine (c3 _ (hz0.below ((Base.below_step (Base.next (Base.below_step (Base.below_step (Base.next L1 L2) L3) L4) L5) L6)))).mono ?_
  rintro e w7 ⟨rfl, L7⟩
  go_wp2
  go_ret
  exact ⟨rfl, Base.next M6 L7⟩
set_option maxHeartbeats 4000000 in
set_option maxRecDepth 100000 in
theorem changes_any (a : Option Addr) (n cap : Nat) (l : List Sp) (s : Sp) (w : World) (hn : l.length = n) (hc : n ≤ cap) (hm : n ≤ 8796093021952) (hnil : a = none → n = 0 ∧ cap = 0) (hf : Fits l) (h0 : 0 ≤ s.1) (hz : Spans w a l) :
    Calls Try.prog 3 #[.slice a n cap, .agg #[.int .u64 s.1, .int .u64 s.2]] w fun e w' => e = .returned (.bool true) ∧ Below w.heap.size w w' := by
  have cg := fun W hz => ref_good a n cap l W hn (by omega) hf hz
  have cv := fun W => ref_valid s W
  obtain ⟨d0, d1, hsz, L0, hkeep⟩ := boxed (Below.refl _ w) (Nat.le_refl _) (.int .u64 s.1) (.int .u64 s.2) 25
  have hz0 : Spans (w.alloc (.cells #[.int .u64 s.1, .int .u64 s.2] 25)) a l := Row.alloc hz _
  clear hkeep hsz
  cases hgs : (good l && ok s) with
  | false =>
    have ca := fun W hz => add_bad a n cap l s W hn hm hf hgs hz
    have cc := fun W hz => cut_bad a n cap l s W hn hm hf hgs hz
    cases hg : good l with
    | false =>
      rw [hg] at cg
      go_enter Try.func3, Try.ntmps3
      go_wp2_with (first
        | (go_at_call 8; (with_reducible refine (alive_span _).mono ?_); rintro e w1 ⟨rfl, L1⟩; have z1 := hz0.below L1; have k0 := keep_cell L1 d0; have k1 := keep_cell L1 d1)
        | (go_at_call 9; (with_reducible refine (ca _ z1).mono ?_); rintro e w2 ⟨rfl, L2⟩; have z2 := z1.below L2; have k2 := keep_cell L2 k0; have k3 := keep_cell L2 k1)
        | (go_at_call 10; (with_reducible refine (cc _ z2).mono ?_); rintro e w3 ⟨rfl, L3⟩; have z3 := z2.below L3)
        | (go_at_call 11; (with_reducible refine (cg _ z3).mono ?_); rintro e w4 ⟨rfl, L4⟩))
      go_ret
      exact ⟨rfl, Base.below_step (Below.refl _ _) (Base.next (Base.next (Base.next L1 L2) L3) L4)⟩
    | true =>
      rw [hg] at cg
      rw [hg, Bool.true_and] at hgs
      rw [hgs] at cv
      go_enter Try.func3, Try.ntmps3
      go_wp2_with (first
        | (go_at_call 8; (with_reducible refine (alive_span _).mono ?_); rintro e w1 ⟨rfl, L1⟩; have z1 := hz0.below L1; have k0 := keep_cell L1 d0; have k1 := keep_cell L1 d1)
        | (go_at_call 9; (with_reducible refine (ca _ z1).mono ?_); rintro e w2 ⟨rfl, L2⟩; have z2 := z1.below L2; have k2 := keep_cell L2 k0; have k3 := keep_cell L2 k1)
        | (go_at_call 10; (with_reducible refine (cc _ z2).mono ?_); rintro e w3 ⟨rfl, L3⟩; have z3 := z2.below L3; have k4 := keep_cell L3 k2; have k5 := keep_cell L3 k3)
        | (go_at_call 11; (with_reducible refine (cg _ z3).mono ?_); rintro e w4 ⟨rfl, L4⟩; have k6 := keep_cell L4 k4; have k7 := keep_cell L4 k5)
        | (go_at_call 12; (with_reducible refine (cv _).mono ?_); rintro e w5 ⟨rfl, L5⟩))
      go_ret
      exact ⟨rfl, Base.below_step (Below.refl _ _) (Base.next (Base.next (Base.next (Base.next L1 L2) L3) L4) L5)⟩
  | true =>
    rw [Bool.and_eq_true] at hgs
    obtain ⟨hg, hs⟩ := hgs
    rw [hg] at cg
    rw [hs] at cv
    have ca := fun W hz => add_good_any a n cap l s W hn hm hg h0 hs hz
    have cc := fun W hz => cut_good_any a n cap l s W hn hm hg h0 hs hz
    have hs1 := (ok_iff.1 hs).1
    have hs2 := (ok_iff.1 hs).2
    have ra := fun W hz => ref_add a n cap l s W hn hc hm hnil hg h0 hs1 hs2 hz
    have rc := fun W hz => ref_cut a n cap l s W hn hm hg h0 hs1 hs2 hz
    have hla : (addS l s).length ≤ 8796093022000 := by have := add_len l s; omega
    have hlc : (cutS l s).length ≤ 8796093022000 := by have := cut_len (s := s) hg; omega
    generalize addS l s = A at *
    generalize cutS l s = C at *
    clear hs1 hs2 hg hs hf h0 hm hc hn hnil
    go_enter Try.func3, Try.ntmps3
    go_wp2_with (first
      | (go_at_call 8; (with_reducible refine (alive_span _).mono ?_); rintro e w1 ⟨rfl, L1⟩; have z1 := hz0.below L1; have k0 := keep_cell L1 d0; have k1 := keep_cell L1 d1; have M1 := Base.next L0 L1; clear hz0 d0 d1)
      | (go_at_call 9; (with_reducible refine (ca _ z1).mono ?_); rintro e w2 ⟨v2, rfl, o2, L2⟩; obtain ⟨a2, cap2, rfl, hc2, hm2, hn2, R2⟩ := o2.read; have z2 := z1.below L2; have k2 := keep_cell L2 k0; have k3 := keep_cell L2 k1; have M2 := Base.next M1 L2; have S2 := R2.row; clear z1 k0 k1 hc2 hm2 hn2 o2 R2)
      | (go_at_call 10; (with_reducible refine (cc _ z2).mono ?_); rintro e w3 ⟨v3, rfl, o3, L3⟩; obtain ⟨a3, cap3, rfl, hc3, hm3, hn3, R3⟩ := o3.read; have z3 := z2.below L3; have k4 := keep_cell L3 k2; have k5 := keep_cell L3 k3; have M3 := Base.next M2 L3; have S3 := R3.row; have S23 := S2.below L3; clear z2 k2 k3 hc3 hm3 hn3 o3 R3 S2)
      | (go_at_call 11; (with_reducible refine (cg _ z3).mono ?_); rintro e w4 ⟨rfl, L4⟩; have z4 := z3.below L4; have k6 := keep_cell L4 k4; have k7 := keep_cell L4 k5; have M4 := Base.next M3 L4; have S24 := S23.below L4; have S34 := S3.below L4; clear z3 k4 k5 S23 S3)
      | (go_at_call 12; (with_reducible refine (cv _).mono ?_); rintro e w5 ⟨rfl, L5⟩; have z5 := z4.below L5; have k8 := keep_cell L5 k6; have k9 := keep_cell L5 k7; have M5 := Base.next M4 L5; have S25 := S24.below L5; have S35 := S34.below L5; clear z4 k6 k7 S24 S34)
      | (go_at_call 14; (with_reducible refine (ra _ z5).mono ?_); rintro e w6 ⟨v6, rfl, o6, L6⟩; obtain ⟨a6, cap6, rfl, hc6, hm6, hn6, R6⟩ := o6.read; have z6 := z5.below L6; have k10 := keep_cell L6 k8; have k11 := keep_cell L6 k9; have M6 := Base.next M5 L6; have S26 := S25.below L6; have S36 := S35.below L6; have S6 := R6.row; clear z5 k8 k9 S25 S35 hc6 hm6 hn6 o6 R6)
      | (go_at_call 15; (with_reducible refine (rc _ z7).mono ?_); rintro e w8 ⟨v8, rfl, o8, L8⟩; obtain ⟨a8, cap8, rfl, hc8, hm8, hn8, R8⟩ := o8.read; have M8 := Base.next M7 L8; have S38 := S37.below L8; have S8 := R8.row)
      | (go_at_call 13; have tok := S6; refine (same_any a2 a6 A.length A.length cap2 cap6 A A _ rfl rfl (by omega) (by omega) S26 S6).mono ?_; rintro e w7 ⟨rfl, L7⟩; have z7 := z6.below L7; have k12 := keep_cell L7 k10; have k13 := keep_cell L7 k11; have M7 := Base.next M6 L7; have S37 := S36.below L7; clear tok z6 k10 k11 S26 S36 S6)
      | (go_at_call 13; refine (same_any a3 a8 C.length C.length cap3 cap8 C C _ rfl rfl (by omega) (by omega) S38 S8).mono ?_; rintro e w9 ⟨rfl, L9⟩))
    all_goals go_ret
    all_goals exact ⟨by simp, Base.next M8 L9⟩
end Go.Proofs.Ytipcabdodjkmoaa.Span
