/-
  The same of rows of small numbers. No conditions.
-/
import Derived.SizedLaws
import Derived.Test.YtipcabdodjkmoaaRows
import Derived.Test.YtipcabdodjkmoaaRow
import Derived.WalkKit
import Derived.ProofKit
import Derived.OpenShut
import Derived.ShutString
import Derived.ChangeOld
import Derived.Below
import Derived.Test.YtipcabdodjkmoaaSpanLaw2
import Derived.Test.YtipcabdodjkmoaaLaw0
namespace Go.Proofs.Ytipcabdodjkmoaa.spanMade
open Go.ChangeShapes Go.WideShapes Go.ChangeAt Go.RowKit
open Go.ChangeMaps (open_string shut_string)
open Go.Proofs.Ytipcabdodjkmoaa.Base
set_option linter.unusedVariables false

theorem own : ownKnob Try.prog.godebug = none := by kernel_rfl
theorem laidOut : laidOutB Try.prog = true := by kernel_rfl

open Go.Proofs.Ytipcabdodjkmoaa.Span Go.Proofs.Ytipcabdodjkmoaa.Law0 Go.Proofs.Ytipcabdodjkmoaa.SpanPlain
theorem walk (a0 : Option Addr) (len0 cap0 : Nat) (z0 : List Int) (a1 : Option Addr) (len1 cap1 : Nat) (z1 : List Int) (a2 : Int) (a3 : Int) (a4 : Int) (w : World) (w0 : Ints .u16 w a0 z0) (n0 : z0.length = len0) (m0 : len0 ≤ cap0) (o0 : cap0 ≤ maxLen) (f0 : ∀ x ∈ z0, (Lit.int .u16 x).wf = true) (b0 : cap0 * 2 ≤ 140737488351232) (e0 : a0 = none → len0 = 0 ∧ cap0 = 0) (w1 : Ints .u16 w a1 z1) (n1 : z1.length = len1) (m1 : len1 ≤ cap1) (o1 : cap1 ≤ maxLen) (f1 : ∀ x ∈ z1, (Lit.int .u16 x).wf = true) (b1 : cap1 * 2 ≤ 140737488351232) (e1 : a1 = none → len1 = 0 ∧ cap1 = 0) (w2 : (Lit.int .u8 a2).wf = true) (w3 : (Lit.int .u8 a3).wf = true) (w4 : (Lit.int .i8 a4).wf = true) :
    Calls Try.prog 5 #[.slice a0 len0 cap0, .slice a1 len1 cap1, .int .u8 a2, .int .u8 a3, .int .i8 a4] w fun e w' => e = .returned (.bool true) ∧ Below w.heap.size w w' := by
  obtain ⟨p0, p1⟩ := Base.u8_of w2
  obtain ⟨q0, q1⟩ := Base.u8_of w3
  obtain ⟨k0, k1⟩ := Base.i8_of w4
  have hl0 : len0 ≤ 140737488355328 := by omega
  have hl1 : len1 ≤ 140737488355328 := by omega
  clear w2 w3 w4 m0 m1 o0 o1 b0 b1 e0 e1
  by_cases h0 : 200 < len0
  · have t0 : decide ((200 : Int) < (len0 : Int)) = true := by simp; omega
    go_enter Try.func5, Try.ntmps5
    go_wp2_with fail
    refine (alive_span _).mono ?_
    rintro e w2 ⟨rfl, L2⟩
    go_wp2_with (go_at_call 8; (with_reducible refine (alive_span _).mono ?_); rintro e w3 ⟨rfl, L3⟩)
    go_ret
    exact ⟨rfl, Base.next L2 L3⟩
  · by_cases h1 : 200 < len1
    · go_enter Try.func5, Try.ntmps5
      go_wp2_with fail
      refine (alive_span _).mono ?_
      rintro e w2 ⟨rfl, L2⟩
      go_wp2_with (go_at_call 8; (with_reducible refine (alive_span _).mono ?_); rintro e w3 ⟨rfl, L3⟩)
      go_ret
      exact ⟨rfl, Base.next L2 L3⟩
    · have r0 := fun W hz => row_any a0 len0 cap0 z0 W n0 hl0 f0 hz
      have r1 := fun W hz => row_any a1 len1 cap1 z1 W n1 hl1 f1 hz
      clear f0 f1
      go_enter Try.func5, Try.ntmps5
      go_wp2_with (first
        | (go_at_call 8; (with_reducible refine (alive_span _).mono ?_); rintro e w2 ⟨rfl, M2⟩)
        | (go_at_call 27; (with_reducible refine (r0 _ (w0.below M2)).mono ?_); rintro e w3 ⟨v3, l3, rfl, g3, n3, t3, o3, L3⟩; obtain ⟨a3', cap3, rfl, hc3, hm3, hn3, R3⟩ := o3.read; have M3 := Base.next M2 L3; clear t3)
        | (go_at_call 27; (with_reducible refine (r1 _ (w1.below M3)).mono ?_); rintro e w4 ⟨v4, l4, rfl, g4, n4, t4, o4, L4⟩; obtain ⟨a4', cap4, rfl, hc4, hm4, hn4, R4⟩ := o4.read; have M4 := Base.next M3 L4; have S3 := R3.row.below L4; have S4 := R4.row; clear t4 R3 R4 o3 o4 r0 r1)
        | (go_at_call 3; refine (changes_any a3' l3.length cap3 l3 (a2, a2 + a3 % 20) _ rfl hc3 (by omega) hn3 (Fits.of_good g3) p0 (Row.alloc S3 _)).mono ?_; rintro e w5 ⟨rfl, L5⟩; have M5 := Base.below_step M4 L5; have S35 : Spans w5 a3' l3 := (Row.alloc S3 _).below L5; have S45 : Spans w5 a4' l4 := (Row.alloc S4 _).below L5)
        | (go_at_call 4; have tok := S45; refine (tells_any a3' a4' l3.length l4.length cap3 cap4 l3 l4 a3 a4 _ rfl rfl hc3 (by omega) (by omega) hn3 (Fits.of_good g3) (Fits.of_good g4) q0 (by omega) (by omega) (by omega) S35 S45).mono ?_; rintro e w6 ⟨rfl, L6⟩; have M6 := Base.next M5 L6; have S36 : Spans w6 a3' l3 := S35.below L6; have S46 : Spans w6 a4' l4 := S45.below L6; clear tok S45 S35)
        | (go_at_call 28; refine (part_any a3' a4' l3.length l4.length cap3 cap4 l3 l4 _ rfl rfl n3 n4 g3 g4 S36 S46).mono ?_; rintro e w7 ⟨v7, l7, rfl, g7, n7, t7, o7, L7⟩; obtain ⟨a7', cap7, rfl, hc7, hm7, hn7, R7⟩ := o7.read; have M7 := Base.next M6 L7; have S37 : Spans w7 a3' l3 := S36.below L7; have S7 := R7.row; clear t7)
        | (go_at_call 4; refine (tells_any a7' a3' l7.length l3.length cap7 cap3 l7 l3 a2 a4 _ rfl rfl hc7 (by omega) (by omega) hn7 (Fits.of_good g7) (Fits.of_good g3) p0 (by omega) (by omega) (by omega) S7 S37).mono ?_; rintro e w8 ⟨rfl, L8⟩))
      all_goals go_ret
      all_goals exact ⟨by simp, Base.next M7 L8⟩

set_option maxRecDepth 100000 in
theorem lifted (os : Os) (started : os.Started) (H : Type) (enc : TypeId × Value → H) :
    ReturnsInHanded {} Try.checked os 5 .any (Rows.spanMadeSpec.pre6 enc Try.prog Try.f5 Rows.spanMadeRow.domain false) (Rows.spanMadeSpec.post enc Try.prog Try.f5 false true false false) := by
  refine returnsInHanded_of_change_sized (C := Try.checked) own started (by kernel_rfl) Try.func5
    (ChangeSpec.witness6 (enc := enc) (C := Try.checked) false ⟨#[], #[.slice none 0 0, .slice none 0 0, .int .u8 0, .int .u8 0, .int .i8 0], []⟩ 8 (by kernel_rfl) (by kernel_rfl) (by kernel_rfl) (by kernel_rfl)) ?_
  intro W base args ds gs before hval0 hW hcnd hsz0 _
  have hval : ∀ (j : Nat) t v, Try.f5.params[j]? = some t → args[j]? = some v → Value.okWide Try.prog W .any base t v := hval0
  have hW' := hW
  obtain ⟨p, q, hA0, hV, rfl, hfz, hnd⟩ := hW
  have hA : DataW.TrodAll enc Try.prog W 0 (fun _ => true) true Try.f5.params.toList args.toList ds p := hA0
  rw [Try.params5] at hA hval
  obtain ⟨v0, vs0, d0, ds0, p0, q0, hargs, rfl, rfl, h0, r0⟩ := trodAll_cons hA
  obtain ⟨v1, vs1, d1, ds1, p1, q1, rfl, rfl, rfl, h1, r1⟩ := trodAll_cons r0
  obtain ⟨v2, vs2, d2, ds2, p2, q2, rfl, rfl, rfl, h2, r2⟩ := trodAll_cons r1
  obtain ⟨v3, vs3, d3, ds3, p3, q3, rfl, rfl, rfl, h3, r3⟩ := trodAll_cons r2
  obtain ⟨v4, vs4, d4, ds4, p4, q4, rfl, rfl, rfl, h4, r4⟩ := trodAll_cons r3
  obtain ⟨rfl, rfl, rfl⟩ := trodAll_nil r4
  obtain rfl : args = #[v0, v1, v2, v3, v4] := by cases args; simp_all
  obtain ⟨rfl, rfl⟩ := trodVars_none hV
  have hsz : (DataW.weightsEach Try.prog [39, 39, 5, 5, 40] [d0, d1, d2, d3, d4]).all (· ≤ reachBytes) = true := hsz0
  obtain ⟨a0, len0, cap0, rfl⟩ := okWide_slice Try.underlying39 (hval 0 39 v0 rfl rfl)
  have k0 := h0
  have lt0 : ∀ x ∈ p0, x.block < W.heap.size := by obtain ⟨m, hm⟩ := k0; exact DataW.trod_lt m _ _ _ hm
  obtain ⟨z0, w0, n0, m0, o0, f0, b0, e0⟩ : ∃ zs, Ints .u16 W a0 zs ∧ zs.length = len0 ∧ len0 ≤ cap0 ∧ cap0 ≤ maxLen ∧ (∀ x ∈ zs, (Lit.int .u16 x).wf = true) ∧ cap0 * 2 ≤ 140737488351232 ∧ (a0 = none → len0 = 0 ∧ cap0 = 0) := by
    obtain ⟨fuel, hf⟩ := h0
    rcases open_ints Try.underlying39 Try.underlying45 (by kernel_rfl) hf with ⟨hcs, hx⟩ | ⟨x, l, c, zs, hcs, _, hl, hm, hz, hx, hcell, hwz⟩
    · simp [Value.cells] at hcs
      obtain ⟨rfl, rfl, rfl⟩ := hcs
      exact ⟨[], Row.nil _ _, rfl, Nat.le_refl _, Nat.zero_le _, (fun _ h => by cases h), by decide, fun _ => ⟨rfl, rfl⟩⟩
    · simp [Value.cells] at hcs
      obtain ⟨rfl, rfl, rfl⟩ := hcs
      exact ⟨zs.take len0, ints_of hl (by simpa using hz) hcell, take_len hl (by simpa using hz), hl, hm, (fun x hx => hwz x (List.mem_of_mem_take hx)), by
          have hd := congrArg Prod.fst hx
          dsimp only at hd
          have := sized_slice hsz (j := 0) (t := 39) (e := 45) (elems := lits .u16 (zs.take len0)) (spare := lits .u16 (zs.drop len0)) rfl (by rw [← hd]; rfl) Try.underlying39
          rw [show Try.prog.bytesOf 45 = 2 by kernel_rfl] at this
          simp only [lits, List.length_map, List.length_take, List.length_drop, reachBytes] at this
          have hz2 : zs.length = cap0 := (by simpa using hz)
          omega, fun e => by cases e⟩
  obtain ⟨a1, len1, cap1, rfl⟩ := okWide_slice Try.underlying39 (hval 1 39 v1 rfl rfl)
  have k1 := h1
  have lt1 : ∀ x ∈ p1, x.block < W.heap.size := by obtain ⟨m, hm⟩ := k1; exact DataW.trod_lt m _ _ _ hm
  obtain ⟨z1, w1, n1, m1, o1, f1, b1, e1⟩ : ∃ zs, Ints .u16 W a1 zs ∧ zs.length = len1 ∧ len1 ≤ cap1 ∧ cap1 ≤ maxLen ∧ (∀ x ∈ zs, (Lit.int .u16 x).wf = true) ∧ cap1 * 2 ≤ 140737488351232 ∧ (a1 = none → len1 = 0 ∧ cap1 = 0) := by
    obtain ⟨fuel, hf⟩ := h1
    rcases open_ints Try.underlying39 Try.underlying45 (by kernel_rfl) hf with ⟨hcs, hx⟩ | ⟨x, l, c, zs, hcs, _, hl, hm, hz, hx, hcell, hwz⟩
    · simp [Value.cells] at hcs
      obtain ⟨rfl, rfl, rfl⟩ := hcs
      exact ⟨[], Row.nil _ _, rfl, Nat.le_refl _, Nat.zero_le _, (fun _ h => by cases h), by decide, fun _ => ⟨rfl, rfl⟩⟩
    · simp [Value.cells] at hcs
      obtain ⟨rfl, rfl, rfl⟩ := hcs
      exact ⟨zs.take len1, ints_of hl (by simpa using hz) hcell, take_len hl (by simpa using hz), hl, hm, (fun x hx => hwz x (List.mem_of_mem_take hx)), by
          have hd := congrArg Prod.fst hx
          dsimp only at hd
          have := sized_slice hsz (j := 1) (t := 39) (e := 45) (elems := lits .u16 (zs.take len1)) (spare := lits .u16 (zs.drop len1)) rfl (by rw [← hd]; rfl) Try.underlying39
          rw [show Try.prog.bytesOf 45 = 2 by kernel_rfl] at this
          simp only [lits, List.length_map, List.length_take, List.length_drop, reachBytes] at this
          have hz2 : zs.length = cap1 := (by simpa using hz)
          omega, fun e => by cases e⟩
  obtain ⟨a2, rfl, rfl, rfl, w2⟩ := open_int Try.underlying5 (hval 2 5 v2 rfl rfl) h2
  obtain ⟨a3, rfl, rfl, rfl, w3⟩ := open_int Try.underlying5 (hval 3 5 v3 rfl rfl) h3
  obtain ⟨a4, rfl, rfl, rfl, w4⟩ := open_int Try.underlying40 (hval 4 40 v4 rfl rfl) h4
  clear hA0 hval0
  refine (walk a0 len0 cap0 z0 a1 len1 cap1 z1 a2 a3 a4 W w0 n0 m0 o0 f0 b0 e0 w1 n1 m1 o1 f1 b1 e1 w2 w3 w4).mono fun e W' ⟨he, bel⟩ => ?_
  subst he
  exact ⟨_, rfl, _, _, _, [], _, [], hW', trodAll_mk1 (shut_bool Try.underlying4 _), (trodAll_cons_mk (Below.trod laidOut (by kernel_rfl) (of_decide_eq_true (by kernel_rfl)) k0 bel lt0) (trodAll_cons_mk (Below.trod laidOut (by kernel_rfl) (of_decide_eq_true (by kernel_rfl)) k1 bel lt1) (trodAll_cons_mk (shut_int Try.underlying5 w2) (trodAll_cons_mk (shut_int Try.underlying5 w3) (trodAll_cons_mk (shut_int Try.underlying40 w4) trodAll_mk0))))), rfl, bel.frame _, fun h => by cases h⟩

theorem over : Rows.spanMadeRow.holds Try.pinned (OpenSpec.ofChange Rows.spanMadeSpec) :=
  OpenClaim.holds_of_wide 5 Try.f5 rfl rfl rfl rfl rfl rfl rfl ⟨rfl, rfl, rfl, rfl, rfl⟩ rfl rfl rfl rfl rfl (by kernel_rfl) Try.func5 (by kernel_rfl)
    (of_decide_eq_true (by kernel_rfl)) (by unfold Func.isWrapper; first | (rw [if_pos (by decide +kernel)]; kernel_rfl) | (rw [if_neg (by decide +kernel)]; exact ⟨rfl, rfl⟩))
    (fun os started H enc _ => lifted os started H enc)

/-- The given statement. -/
theorem proved : Rows.SpanMadeSaid :=
  over
#print axioms proved
end Go.Proofs.Ytipcabdodjkmoaa.spanMade
