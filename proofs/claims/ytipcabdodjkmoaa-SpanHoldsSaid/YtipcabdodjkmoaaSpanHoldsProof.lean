/-
  Behind Add a row has each number of the row and of the span, behind Cut just those of the row that the span has not; what is within what; how many. No conditions.
-/
import Derived.SizedLaws
import Derived.Test.YtipcabdodjkmoaaRows
import Derived.Test.YtipcabdodjkmoaaRow
import Derived.WalkKit
import Derived.ProofKit
import Derived.OpenShut
import Derived.ShutString
import Derived.ChangeOld
import Derived.Below
import Derived.Test.YtipcabdodjkmoaaSpanLaw2
import Derived.Test.YtipcabdodjkmoaaLaw0
namespace Go.Proofs.Ytipcabdodjkmoaa.spanHolds
open Go.ChangeShapes Go.WideShapes Go.ChangeAt Go.RowKit
open Go.ChangeMaps (open_string shut_string)
open Go.Proofs.Ytipcabdodjkmoaa.Base
set_option linter.unusedVariables false

theorem own : ownKnob Try.prog.godebug = none := by kernel_rfl
theorem laidOut : laidOutB Try.prog = true := by kernel_rfl

open Go.Proofs.Ytipcabdodjkmoaa.Span Go.Proofs.Ytipcabdodjkmoaa.Law0 Go.Proofs.Ytipcabdodjkmoaa.SpanPlain
theorem holds_facts {l : List Sp} (hg : good l = true) {a b : Int} (h0 : 0 ≤ a) (h1 : a ≤ b) (h2 : b ≤ 4611686018427387903) :
    good (addS l (a, b)) = true ∧ good (cutS l (a, b)) = true ∧ inside l (addS l (a, b)) = true ∧ inside (cutS l (a, b)) l = true ∧ count (addS l (a, b)) = count (cutS l (a, b)) + (b - a + 1) ∧
    (∀ n, has (addS l (a, b)) n = (has l n || (decide (a ≤ n) && decide (n ≤ b)))) ∧ (∀ n, has (cutS l (a, b)) n = (has l n && !(decide (a ≤ n) && decide (n ≤ b)))) ∧
    0 ≤ count (cutS l (a, b)) ∧ count (cutS l (a, b)) ≤ 4611686018427387904 := by
  obtain ⟨g1, g2⟩ := add_good (s := (a, b)) hg h0 h1 h2
  have g3 := cut_good (s := (a, b)) hg h1
  have g4 := fun n => cut_has l (s := (a, b)) h1 n
  refine ⟨g1, g3, inside_of hg g1 fun n hn => by rw [g2, hn]; rfl, inside_of g3 hg fun n hn => ?_, count_add (s := (a, b)) hg h0 h1 h2, g2, g4, count_max g3⟩
  rw [g4, Bool.and_eq_true] at hn
  exact hn.1
set_option maxHeartbeats 8000000 in
set_option maxRecDepth 100000 in
theorem walk (a0 : Option Addr) (len0 cap0 : Nat) (z0 : List Int) (a1 : Int) (a2 : Int) (a3 : Int) (w : World) (w0 : Ints .u16 w a0 z0) (n0 : z0.length = len0) (m0 : len0 ≤ cap0) (o0 : cap0 ≤ maxLen) (f0 : ∀ x ∈ z0, (Lit.int .u16 x).wf = true) (b0 : cap0 * 2 ≤ 140737488351232) (e0 : a0 = none → len0 = 0 ∧ cap0 = 0) (w1 : (Lit.int .u8 a1).wf = true) (w2 : (Lit.int .u8 a2).wf = true) (w3 : (Lit.int .u8 a3).wf = true) :
    Calls Try.prog 6 #[.slice a0 len0 cap0, .int .u8 a1, .int .u8 a2, .int .u8 a3] w fun e w' => e = .returned (.bool true) ∧ Below w.heap.size w w' := by
  obtain ⟨p0, p1⟩ := Base.u8_of w1
  obtain ⟨q0, q1⟩ := Base.u8_of w2
  obtain ⟨k0, k1⟩ := Base.u8_of w3
  have hl0 : len0 ≤ 140737488355328 := by omega
  clear w1 w2 w3 m0 o0 b0 e0
  by_cases h0 : 200 < len0
  · go_enter Try.func6, Try.ntmps6
    go_wp2_with fail
    refine (alive_span _).mono ?_
    rintro e w2 ⟨rfl, L2⟩
    go_wp2_with (go_at_call 8; (with_reducible refine (alive_span _).mono ?_); rintro e w3 ⟨rfl, L3⟩)
    go_ret
    exact ⟨rfl, Base.next L2 L3⟩
  · have r0 := fun W hz => row_any a0 len0 cap0 z0 W n0 hl0 f0 hz
    clear f0
    go_enter Try.func6, Try.ntmps6
    go_wp2_with (first
      | (go_at_call 8; (with_reducible refine (alive_span _).mono ?_); rintro e w1 ⟨rfl, M1⟩)
      | (go_at_call 27; (with_reducible refine (r0 _ (w0.below M1)).mono ?_); rintro e w2 ⟨v2, l, rfl, g2, n2, t2, o2, L2⟩; obtain ⟨a2', cap2, rfl, hc2, hm2, hn2, R2⟩ := o2.read; have M2 := Base.next M1 L2; clear t2 r0)
      | (go_at_call 9; fail))
    have S2 : Spans w2 a2' l := R2.row
    have hok : ok (a1, a1 + a2 % 20) = true := ok_iff.2 (by simp only; omega)
    have pa := fun W hz => add_good_any a2' l.length cap2 l (a1, a1 + a2 % 20) W rfl (by omega) g2 p0 hok hz
    have pc := fun W hz => cut_good_any a2' l.length cap2 l (a1, a1 + a2 % 20) W rfl (by omega) g2 p0 hok hz
    simp only at pa pc
    obtain ⟨gA, gC, iA, iC, cAC, hA, hC, cn0, cn1⟩ := holds_facts g2 p0 (show a1 ≤ a1 + a2 % 20 by omega) (by omega)
    have lA : (addS l (a1, a1 + a2 % 20)).length ≤ 1000 := by have := add_len l (a1, a1 + a2 % 20); omega
    have lC : (cutS l (a1, a1 + a2 % 20)).length ≤ 1000 := by have := cut_len (s := (a1, a1 + a2 % 20)) g2; omega
    generalize addS l (a1, a1 + a2 % 20) = A at *
    generalize cutS l (a1, a1 + a2 % 20) = C at *
    have vA := hA a3
    have vC := hC a3
    clear hA hC hok
    have ph1 := fun W hz => has_any a2' l.length cap2 l a3 W rfl (by omega) (Fits.of_good g2) k0 (by omega) hz
    have pg1 := fun a c W hz => good_any a A.length c A W rfl (by omega) (Fits.of_good gA) hz
    have pg2 := fun a c W hz => good_any a C.length c C W rfl (by omega) (Fits.of_good gC) hz
    have ph2 := fun a c W hz => has_any a A.length c A a3 W rfl (by omega) (Fits.of_good gA) k0 (by omega) hz
    have ph3 := fun a c W hz => has_any a C.length c C a3 W rfl (by omega) (Fits.of_good gC) k0 (by omega) hz
    have pw1 := fun a c W hz hy => within_any a2' a l.length A.length cap2 c l A W rfl rfl (by omega) (by omega) (Fits.of_good g2) (Fits.of_good gA) hz hy
    have pw2 := fun a c W hz hy => within_any a a2' C.length l.length c cap2 C l W rfl rfl (by omega) (by omega) (Fits.of_good gC) (Fits.of_good g2) hz hy
    have pn1 := fun a c W hz => count_any a A.length c A W rfl (by omega) (Fits.of_good gA) hz
    have pn2 := fun a c W hz => count_any a C.length c C W rfl (by omega) (Fits.of_good gC) hz
    simp only [g2, gA, gC, iA, iC, vA, vC, cAC, Bool.true_and, Bool.and_true, if_true] at ph1 pg1 pg2 ph2 ph3 pw1 pw2 pn1 pn2
    have hcount : count C + (a1 + a2 % 20 - a1 + 1) = count C + a2 % 20 + 1 := by omega
    simp only [hcount] at pn1
    clear hcount vA vC cAC gA gC iA iC
    generalize count C = N at *
    generalize has l a3 = J at *
    have S2' : Spans (w2.alloc (.cells #[.int .u64 a1, .int .u64 (a1 + a2 % 20)] 25)) a2' l := Row.alloc S2 _
    have M2' : Below w.heap.size w (w2.alloc (.cells #[.int .u64 a1, .int .u64 (a1 + a2 % 20)] 25)) := M2.alloc M2.size _
    obtain ⟨d0, d1, -, -, -⟩ := boxed M2 M2.size (.int .u64 a1) (.int .u64 (a1 + a2 % 20)) 25
    cases J <;> cases b1 : decide (a1 ≤ a3) <;> cases b2 : decide (a3 ≤ a1 + a2 % 20)
    all_goals
      simp only [b1, b2, Bool.and_true, Bool.and_false, Bool.true_and, Bool.false_and, Bool.or_true, Bool.or_false, Bool.true_or, Bool.false_or, Bool.not_true, Bool.not_false] at ph1 ph2 ph3
      go_wp2_with (first
        | (go_at_call 9; (with_reducible refine (pa _ S2').mono ?_); rintro e w3 ⟨v3, rfl, o3, L3⟩; obtain ⟨a3', cap3, rfl, hc3, hm3, hn3, R3⟩ := o3.read; have M3 := Base.next M2' L3; have S3 := S2'.below L3; have X3 := R3.row; have d2 := keep_cell L3 d0; have d3 := keep_cell L3 d1; clear o3 R3)
        | (go_at_call 10; (with_reducible refine (pc _ S3).mono ?_); rintro e w4 ⟨v4, rfl, o4, L4⟩; obtain ⟨a4', cap4, rfl, hc4, hm4, hn4, R4⟩ := o4.read; have M4 := Base.next M3 L4; have S4 := S3.below L4; have X4 : Spans w4 a3' A := Row.below X3 L4; have Y4 := R4.row; have d4 := keep_cell L4 d2; have d5 := keep_cell L4 d3; clear o4 R4 S3 X3 d2 d3)
        | (go_at_call 19; (with_reducible refine (ph1 _ S4).mono ?_); rintro e w5 ⟨rfl, L5⟩; have M5 := Base.next M4 L5; have S5 := S4.below L5; have X5 : Spans w5 a3' A := Row.below X4 L5; have Y5 : Spans w5 a4' C := Row.below Y4 L5; clear S4 X4 Y4)
        | (go_at_call 16; (with_reducible refine (pg1 _ _ _ X5).mono ?_); rintro e w6 ⟨rfl, L6⟩; have M6 := Base.next M5 L6; have S6 := S5.below L6; have X6 := X5.below L6; have Y6 := Y5.below L6; clear S5 X5 Y5)
        | (go_at_call 16; (with_reducible refine (pg2 _ _ _ Y6).mono ?_); rintro e w7 ⟨rfl, L7⟩; have M7 := Base.next M6 L7; have S7 := S6.below L7; have X7 := X6.below L7; have Y7 := Y6.below L7; clear S6 X6 Y6)
        | (go_at_call 19; (with_reducible refine (ph2 _ _ _ X7).mono ?_); rintro e w8 ⟨rfl, L8⟩; have M8 := Base.next M7 L8; have S8 := S7.below L8; have X8 := X7.below L8; have Y8 := Y7.below L8; clear S7 X7 Y7)
        | (go_at_call 19; (with_reducible refine (ph3 _ _ _ Y8).mono ?_); rintro e w9 ⟨rfl, L9⟩; have M9 := Base.next M8 L9; have S9 := S8.below L9; have X9 := X8.below L9; have Y9 := Y8.below L9; clear S8 X8 Y8)
        | (go_at_call 17; (with_reducible refine (pw1 _ _ _ S9 X9).mono ?_); rintro e w10 ⟨rfl, L10⟩; have M10 := Base.next M9 L10; have S10 := S9.below L10; have X10 := X9.below L10; have Y10 := Y9.below L10; clear S9 X9 Y9)
        | (go_at_call 17; (with_reducible refine (pw2 _ _ _ Y10 S10).mono ?_); rintro e w11 ⟨rfl, L11⟩; have M11 := Base.next M10 L11; have X11 := X10.below L11; have Y11 := Y10.below L11; clear S10 X10 Y10)
        | (go_at_call 20; (with_reducible refine (pn1 _ _ _ X11).mono ?_); rintro e w12 ⟨rfl, L12⟩; have M12 := Base.next M11 L12; have Y12 := Y11.below L12; clear X11 Y11)
        | (go_at_call 20; (with_reducible refine (pn2 _ _ _ Y12).mono ?_); rintro e w13 ⟨rfl, L13⟩))
      all_goals go_ret
      all_goals exact ⟨by first | (simp; done) | (simp at *; omega), Base.next M12 L13⟩

set_option maxRecDepth 100000 in
theorem lifted (os : Os) (started : os.Started) (H : Type) (enc : TypeId × Value → H) :
    ReturnsInHanded {} Try.checked os 6 .any (Rows.spanHoldsSpec.pre6 enc Try.prog Try.f6 Rows.spanHoldsRow.domain false) (Rows.spanHoldsSpec.post enc Try.prog Try.f6 false true false false) := by
  refine returnsInHanded_of_change_sized (C := Try.checked) own started (by kernel_rfl) Try.func6
    (ChangeSpec.witness6 (enc := enc) (C := Try.checked) false ⟨#[], #[.slice none 0 0, .int .u8 0, .int .u8 0, .int .u8 0], []⟩ 8 (by kernel_rfl) (by kernel_rfl) (by kernel_rfl) (by kernel_rfl)) ?_
  intro W base args ds gs before hval0 hW hcnd hsz0 _
  have hval : ∀ (j : Nat) t v, Try.f6.params[j]? = some t → args[j]? = some v → Value.okWide Try.prog W .any base t v := hval0
  have hW' := hW
  obtain ⟨p, q, hA0, hV, rfl, hfz, hnd⟩ := hW
  have hA : DataW.TrodAll enc Try.prog W 0 (fun _ => true) true Try.f6.params.toList args.toList ds p := hA0
  rw [Try.params6] at hA hval
  obtain ⟨v0, vs0, d0, ds0, p0, q0, hargs, rfl, rfl, h0, r0⟩ := trodAll_cons hA
  obtain ⟨v1, vs1, d1, ds1, p1, q1, rfl, rfl, rfl, h1, r1⟩ := trodAll_cons r0
  obtain ⟨v2, vs2, d2, ds2, p2, q2, rfl, rfl, rfl, h2, r2⟩ := trodAll_cons r1
  obtain ⟨v3, vs3, d3, ds3, p3, q3, rfl, rfl, rfl, h3, r3⟩ := trodAll_cons r2
  obtain ⟨rfl, rfl, rfl⟩ := trodAll_nil r3
  obtain rfl : args = #[v0, v1, v2, v3] := by cases args; simp_all
  obtain ⟨rfl, rfl⟩ := trodVars_none hV
  have hsz : (DataW.weightsEach Try.prog [39, 5, 5, 5] [d0, d1, d2, d3]).all (· ≤ reachBytes) = true := hsz0
  obtain ⟨a0, len0, cap0, rfl⟩ := okWide_slice Try.underlying39 (hval 0 39 v0 rfl rfl)
  have k0 := h0
  have lt0 : ∀ x ∈ p0, x.block < W.heap.size := by obtain ⟨m, hm⟩ := k0; exact DataW.trod_lt m _ _ _ hm
  obtain ⟨z0, w0, n0, m0, o0, f0, b0, e0⟩ : ∃ zs, Ints .u16 W a0 zs ∧ zs.length = len0 ∧ len0 ≤ cap0 ∧ cap0 ≤ maxLen ∧ (∀ x ∈ zs, (Lit.int .u16 x).wf = true) ∧ cap0 * 2 ≤ 140737488351232 ∧ (a0 = none → len0 = 0 ∧ cap0 = 0) := by
    obtain ⟨fuel, hf⟩ := h0
    rcases open_ints Try.underlying39 Try.underlying45 (by kernel_rfl) hf with ⟨hcs, hx⟩ | ⟨x, l, c, zs, hcs, _, hl, hm, hz, hx, hcell, hwz⟩
    · simp [Value.cells] at hcs
      obtain ⟨rfl, rfl, rfl⟩ := hcs
      exact ⟨[], Row.nil _ _, rfl, Nat.le_refl _, Nat.zero_le _, (fun _ h => by cases h), by decide, fun _ => ⟨rfl, rfl⟩⟩
    · simp [Value.cells] at hcs
      obtain ⟨rfl, rfl, rfl⟩ := hcs
      exact ⟨zs.take len0, ints_of hl (by simpa using hz) hcell, take_len hl (by simpa using hz), hl, hm, (fun x hx => hwz x (List.mem_of_mem_take hx)), by
          have hd := congrArg Prod.fst hx
          dsimp only at hd
          have := sized_slice hsz (j := 0) (t := 39) (e := 45) (elems := lits .u16 (zs.take len0)) (spare := lits .u16 (zs.drop len0)) rfl (by rw [← hd]; rfl) Try.underlying39
          rw [show Try.prog.bytesOf 45 = 2 by kernel_rfl] at this
          simp only [lits, List.length_map, List.length_take, List.length_drop, reachBytes] at this
          have hz2 : zs.length = cap0 := (by simpa using hz)
          omega, fun e => by cases e⟩
  obtain ⟨a1, rfl, rfl, rfl, w1⟩ := open_int Try.underlying5 (hval 1 5 v1 rfl rfl) h1
  obtain ⟨a2, rfl, rfl, rfl, w2⟩ := open_int Try.underlying5 (hval 2 5 v2 rfl rfl) h2
  obtain ⟨a3, rfl, rfl, rfl, w3⟩ := open_int Try.underlying5 (hval 3 5 v3 rfl rfl) h3
  clear hA0 hval0
  refine (walk a0 len0 cap0 z0 a1 a2 a3 W w0 n0 m0 o0 f0 b0 e0 w1 w2 w3).mono fun e W' ⟨he, bel⟩ => ?_
  subst he
  exact ⟨_, rfl, _, _, _, [], _, [], hW', trodAll_mk1 (shut_bool Try.underlying4 _), (trodAll_cons_mk (Below.trod laidOut (by kernel_rfl) (of_decide_eq_true (by kernel_rfl)) k0 bel lt0) (trodAll_cons_mk (shut_int Try.underlying5 w1) (trodAll_cons_mk (shut_int Try.underlying5 w2) (trodAll_cons_mk (shut_int Try.underlying5 w3) trodAll_mk0)))), rfl, bel.frame _, fun h => by cases h⟩

theorem over : Rows.spanHoldsRow.holds Try.pinned (OpenSpec.ofChange Rows.spanHoldsSpec) :=
  OpenClaim.holds_of_wide 6 Try.f6 rfl rfl rfl rfl rfl rfl rfl ⟨rfl, rfl, rfl, rfl, rfl⟩ rfl rfl rfl rfl rfl (by kernel_rfl) Try.func6 (by kernel_rfl)
    (of_decide_eq_true (by kernel_rfl)) (by unfold Func.isWrapper; first | (rw [if_pos (by decide +kernel)]; kernel_rfl) | (rw [if_neg (by decide +kernel)]; exact ⟨rfl, rfl⟩))
    (fun os started H enc _ => lifted os started H enc)

/-- The given statement. -/
theorem proved : Rows.SpanHoldsSaid :=
  over
#print axioms proved
end Go.Proofs.Ytipcabdodjkmoaa.spanHolds
