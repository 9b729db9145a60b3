/-
  A row does not hang on the order in which its spans come. No conditions.
-/
import Derived.SizedLaws
import Derived.Test.YtipcabdodjkmoaaRows
import Derived.Test.YtipcabdodjkmoaaRow
import Derived.WalkKit
import Derived.ProofKit
import Derived.OpenShut
import Derived.ShutString
import Derived.ChangeOld
import Derived.Below
import Derived.Test.YtipcabdodjkmoaaSpanLaw2
import Derived.Test.YtipcabdodjkmoaaLaw0
import Derived.IntWalk
namespace Go.Proofs.Ytipcabdodjkmoaa.spanOrder
open Go.ChangeShapes Go.WideShapes Go.ChangeAt Go.RowKit
open Go.ChangeMaps (open_string shut_string)
open Go.Proofs.Ytipcabdodjkmoaa.Base
set_option linter.unusedVariables false

theorem own : ownKnob Try.prog.godebug = none := by kernel_rfl
theorem laidOut : laidOutB Try.prog = true := by kernel_rfl

open Go.Proofs.Ytipcabdodjkmoaa.Span Go.Proofs.Ytipcabdodjkmoaa.Law0 Go.Proofs.Ytipcabdodjkmoaa.SpanPlain Go.Proofs.Ytipcabdodjkmoaa.SpanRef
/-- The span that the numbers from i on tell. -/
def pr (zs : List Int) (i : Nat) : Sp := (zs.getD i 0, zs.getD i 0 + zs.getD (i + 1) 0 % 9)
/-- Is n in one of the spans at even places between a and b? -/
def At (zs : List Int) (a b : Nat) (n : Int) : Prop := ∃ q, q % 2 = 0 ∧ a ≤ q ∧ q < b ∧ (pr zs q).1 ≤ n ∧ n ≤ (pr zs q).2
def St (zs : List Int) (A : List Sp) (a b : Nat) : Prop := good A = true ∧ ∀ n, has A n = true ↔ At zs a b n
theorem St.nil (zs : List Int) (a : Nat) : St zs [] a a := ⟨rfl, fun n => ⟨(fun h => by cases h), fun ⟨q, _, h1, h2, _⟩ => by omega⟩⟩
theorem St.up {zs : List Int} {A : List Sp} {a b : Nat} (h : St zs A a b) (hb : b % 2 = 0) (hab : a ≤ b) (h0 : 0 ≤ (pr zs b).1) (h1 : (pr zs b).1 ≤ (pr zs b).2) (h2 : (pr zs b).2 ≤ M) : St zs (addS A (pr zs b)) a (b + 2) := by
  obtain ⟨g1, g2⟩ := add_good (s := pr zs b) h.1 h0 h1 h2
  refine ⟨g1, fun n => ?_⟩
  rw [g2, Bool.or_eq_true, h.2, Bool.and_eq_true, decide_eq_true_eq, decide_eq_true_eq]
  constructor
  · rintro (⟨q, hq, q1, q2, q3⟩ | hn)
    · exact ⟨q, hq, q1, by omega, q3⟩
    · exact ⟨b, hb, hab, by omega, hn⟩
  · rintro ⟨q, hq, q1, q2, q3⟩
    by_cases hqb : q < b
    · exact .inl ⟨q, hq, q1, hqb, q3⟩
    · obtain rfl : q = b := by omega
      exact .inr q3
theorem St.down {zs : List Int} {A : List Sp} {a b : Nat} (h : St zs A (a + 2) b) (ha : a % 2 = 0) (hab : a < b) (h0 : 0 ≤ (pr zs a).1) (h1 : (pr zs a).1 ≤ (pr zs a).2) (h2 : (pr zs a).2 ≤ M) : St zs (addS A (pr zs a)) a b := by
  obtain ⟨g1, g2⟩ := add_good (s := pr zs a) h.1 h0 h1 h2
  refine ⟨g1, fun n => ?_⟩
  rw [g2, Bool.or_eq_true, h.2, Bool.and_eq_true, decide_eq_true_eq, decide_eq_true_eq]
  constructor
  · rintro (⟨q, hq, q1, q2, q3⟩ | hn)
    · exact ⟨q, hq, by omega, q2, q3⟩
    · exact ⟨a, ha, Nat.le_refl _, hab, hn⟩
  · rintro ⟨q, hq, q1, q2, q3⟩
    by_cases hqb : q = a
    · subst hqb
      exact .inr q3
    · exact .inl ⟨q, hq, by omega, q2, q3⟩
theorem St.same {zs : List Int} {A B : List Sp} {a b : Nat} (h : St zs A a b) (k : St zs B a b) : A = B := good_ext h.1 k.1 fun n => by
  rw [Bool.eq_iff_iff, h.2, k.2]
theorem pr_ok {zs : List Int} (hw : ∀ z ∈ zs, (Lit.int .u16 z).wf = true) {i : Nat} (h : i + 1 < zs.length) :
    (0 ≤ zs.getD i 0 ∧ zs.getD i 0 ≤ 65535) ∧ (0 ≤ zs.getD (i + 1) 0 ∧ zs.getD (i + 1) 0 ≤ 65535) ∧ 0 ≤ (pr zs i).1 ∧ (pr zs i).1 ≤ (pr zs i).2 ∧ (pr zs i).2 ≤ 4611686018427387903 := by
  have w0 := u16_of (hw (zs.getD i 0) (by simp [List.getD, show i < zs.length by omega]))
  have w1 := u16_of (hw (zs.getD (i + 1) 0) (by simp [List.getD, h]))
  unfold pr
  refine ⟨w0, w1, ?_, ?_, ?_⟩ <;> simp only <;> omega
set_option maxHeartbeats 8000000 in
set_option maxRecDepth 100000 in
theorem walk (a0 : Option Addr) (len0 cap0 : Nat) (z0 : List Int) (w : World) (w0 : Ints .u16 w a0 z0) (n0 : z0.length = len0) (m0 : len0 ≤ cap0) (o0 : cap0 ≤ maxLen) (f0 : ∀ x ∈ z0, (Lit.int .u16 x).wf = true) (b0 : cap0 * 2 ≤ 140737488351232) (e0 : a0 = none → len0 = 0 ∧ cap0 = 0) :
    Calls Try.prog 7 #[.slice a0 len0 cap0] w fun e w' => e = .returned (.bool true) ∧ Below w.heap.size w w' := by
  have hl0 : len0 ≤ 140737488355328 := by omega
  subst n0
  clear m0 o0 b0 e0
  by_cases h0 : 100 < z0.length
  · go_enter Try.func7, Try.ntmps7
    go_wp2_with fail
    refine (alive_span _).mono ?_
    rintro e w2 ⟨rfl, L2⟩
    go_wp2_with (go_at_call 8; (with_reducible refine (alive_span _).mono ?_); rintro e w3 ⟨rfl, L3⟩)
    go_ret
    exact ⟨rfl, Base.next L2 L3⟩
  · go_enter Try.func7, Try.ntmps7
    go_wp2_with (go_at_call 8; (with_reducible refine (alive_span _).mono ?_); rintro e w1 ⟨rfl, M1⟩)
    have z1 := w0.below M1
    obtain ⟨T, hT⟩ : ∃ T, T = z0.length / 2 * 2 := ⟨_, rfl⟩
    have hTe : T % 2 = 0 := by omega
    have hTl : T ≤ z0.length := by omega
    have hTg : z0.length ≤ T + 1 := by omega
    have HT := Lib.hid hT
    clear hT
    go_loopw [3, 4, 5] (fun x y i wr => ∃ (j : Nat) (A B : List Sp), j ≤ T ∧ j % 2 = 0 ∧ i = .int .i64 j ∧ St z0 A 0 j ∧ St z0 B (T - j) T ∧ 2 * A.length ≤ j ∧ 2 * B.length ≤ j ∧ Own w1.heap.size wr x A ∧ Own w1.heap.size wr y B ∧ Below w1.heap.size w1 wr) (fun _ _ i _ => z0.length - (intOf i).toNat)
    case atStart => exact ⟨0, [], [], Nat.zero_le _, rfl, rfl, St.nil _ _, by simpa using St.nil z0 T, Nat.zero_le _, Nat.zero_le _, Own.nil _ _, Own.nil _ _, Below.refl _ _⟩
    case round =>
      obtain ⟨j, A, B, hj, hev, rfl, hA, hB, lA, lB, oA, oB, hL⟩ := hrel
      obtain ⟨aA, capA, rfl, hcA, hmA, hnA, RA⟩ := oA.read
      obtain ⟨aB, capB, rfl, hcB, hmB, hnB, RB⟩ := oB.read
      have HEV := Lib.hid hev
      clear hev
      by_cases hlt : j + 1 < z0.length
      · obtain ⟨b, off, rfl, hb, c0⟩ := (z1.below hL).at_ (i := j) (by omega)
        obtain ⟨_, _, e, _, c1⟩ := (z1.below hL).at_ (i := j + 1) hlt
        cases e
        obtain ⟨k, hk⟩ : ∃ k, k = T - 2 - j := ⟨_, rfl⟩
        have hkj : k + 2 + j = T := by have := HEV.out; omega
        have hke : k % 2 = 0 := by have := HEV.out; omega
        clear hk
        obtain ⟨_, _, e, _, c2⟩ := (z1.below hL).at_ (i := k) (by omega)
        cases e
        obtain ⟨_, _, e, _, c3⟩ := (z1.below hL).at_ (i := k + 1) (by omega)
        cases e
        obtain ⟨⟨x0, x1⟩, ⟨y0, y1⟩, s0, s1, s2⟩ := pr_ok f0 hlt
        obtain ⟨⟨u0, u1⟩, ⟨v0, v1⟩, r0, r1, r2⟩ := pr_ok f0 (i := k) (by omega)
        have NA := Lib.hid (hA.up HEV.out (Nat.zero_le _) s0 s1 s2)
        have NB := Lib.hid (St.down (a := k) (b := T) (by rw [show k + 2 = T - j by omega]; exact hB) hke (by omega) r0 r1 r2)
        have pA := fun W hz => add_good_any aA A.length capA A (pr z0 j) W rfl (by omega) hA.1 s0 (ok_iff.2 ⟨s1, s2⟩) hz
        have pB := fun W hz => add_good_any aB B.length capB B (pr z0 k) W rfl (by omega) hB.1 r0 (ok_iff.2 ⟨r1, r2⟩) hz
        have nA := add_len A (pr z0 j)
        have nB := add_len B (pr z0 k)
        generalize addS A (pr z0 j) = A2 at *
        generalize addS B (pr z0 k) = B2 at *
        unfold pr at pA pB s0 s1 s2 r0 r1 r2
        simp only at pA pB s0 s1 s2 r0 r1 r2
        generalize z0.getD j 0 = x at *
        generalize z0.getD (j + 1) 0 = y at *
        generalize z0.getD k 0 = u at *
        generalize z0.getD (k + 1) 0 = v at *
        have hT2 : (z0.length : Int) / 2 * 2 = (T : Int) := by have := HT.out; omega
        have hk2 : (T : Int) - 2 - (j : Int) = (k : Int) := by omega
        have hkl : k + 1 < z0.length := by omega
        have i1 : (j : Int) + 1 < (z0.length : Int) := by omega
        have i2 : (k : Int) + 1 < (z0.length : Int) := by omega
        have i3 : (j : Int) < (z0.length : Int) := by omega
        have i4 : (k : Int) < (z0.length : Int) := by omega
        have i5 : (0 : Int) ≤ (j : Int) := by omega
        have i6 : (0 : Int) ≤ (k : Int) := by omega
        have i7 : (0 : Int) ≤ (j : Int) + 1 := by omega
        have i8 : (0 : Int) ≤ (k : Int) + 1 := by omega
        have HJ := Lib.hid hj
        have HL1 := Lib.hid hlt
        have HL2 := Lib.hid hkl
        have HK := Lib.hid hkj
        have HA1 := Lib.hid lA
        have HB1 := Lib.hid lB
        have m1 : y.tmod 9 = y % 9 := Int.tmod_eq_emod_of_nonneg y0
        have m2 : v.tmod 9 = v % 9 := Int.tmod_eq_emod_of_nonneg v0
        have m3 : IntKind.u16.wrap (y % 9) = y % 9 := by rw [IntKind.wrap_u16]; omega
        have m4 : IntKind.u16.wrap (v % 9) = v % 9 := by rw [IntKind.wrap_u16]; omega
        have m5 : IntKind.u64.wrap (y % 9) = y % 9 := by rw [IntKind.wrap_u64]; omega
        have m6 : IntKind.u64.wrap (v % 9) = v % 9 := by rw [IntKind.wrap_u64]; omega
        have m7 : IntKind.u64.wrap x = x := by rw [IntKind.wrap_u64]; omega
        have m8 : IntKind.u64.wrap u = u := by rw [IntKind.wrap_u64]; omega
        have m9 : IntKind.u64.wrap (x + y % 9) = x + y % 9 := by rw [IntKind.wrap_u64]; omega
        have m10 : IntKind.u64.wrap (u + v % 9) = u + v % 9 := by rw [IntKind.wrap_u64]; omega
        have m11 : IntKind.i64.wrap ((j : Int) + 1) = (j : Int) + 1 := by rw [IntKind.wrap_i64]; omega
        have m12 : IntKind.i64.wrap ((k : Int) + 1) = (k : Int) + 1 := by rw [IntKind.wrap_i64]; omega
        have m13 : ((j : Int) + 1).toNat = j + 1 := by omega
        have m14 : ((k : Int) + 1).toNat = k + 1 := by omega
        have SA : Spans wr.drew aA A := RA.row
        clear hkj hke hj hlt hkl lA lB hA hB
        go_wp2
        go_region_held3 (fun w' => w'.cell? ⟨b, off + j, none⟩ = some (.int .u16 x) ∧ w'.cell? ⟨b, off + (j + 1), none⟩ = some (.int .u16 y)) (first | go_keep | (go_split_ands; exact ⟨keep_cell LA (by assumption), keep_cell LA (by assumption)⟩)) (first | (go_at_call 9; refine (pA _ SA).mono ?_; rintro e wA ⟨vA, rfl, oA, LA⟩))
        have LA' : Below wr.heap.size wr wA := Base.undrew LA
        have d2 := keep_cell LA' c2
        have d3 := keep_cell LA' c3
        have SB : Spans wA.drew aB B := Spans.drew (Spans.below RB.row LA')
        clear c0 c1 c2 c3 LA
        go_wp2
        go_region_held3 (fun w' => w'.cell? ⟨b, off + k, none⟩ = some (.int .u16 u) ∧ w'.cell? ⟨b, off + (k + 1), none⟩ = some (.int .u16 v)) (first | exact ⟨d2, d3⟩ | go_keep | (go_split_ands; exact ⟨keep_cell LB (by assumption), keep_cell LB (by assumption)⟩)) (first | (go_at_call 9; refine (pB _ SB).mono ?_; rintro e wB ⟨vB, rfl, oB, LB⟩))
        have LB' : Below wA.heap.size wA wB := Base.undrew LB
        clear LB
        go_wp2
        all_goals go_roundw
        all_goals first
          | (simp [intOf]; have := HL1.out; omega)
          | exact ⟨j + 2, A2, B2, by have := HK.out; omega, by have := HEV.out; omega, by go_num, NA.out, by rw [show T - (j + 2) = k by have := HK.out; omega]; exact NB.out, by have := HA1.out; omega, by have := HB1.out; omega, (oA.below LB').mono (by have := hL.size; simp; omega), oB.mono (by have := hL.size; have := LA'.size; simp; omega), Base.next (Base.next hL LA') LB'⟩
      · have hjT : j = T := by have := HEV.out; omega
        subst hjT
        have hAB : A = B := hA.same (by simpa using hB)
        subst hAB
        have cs := fun W h1 h2 => same_any aA aB A.length A.length capA capB A A W rfl rfl (by omega) (by omega) h1 h2
        have cg := fun W hz => good_any aA A.length capA A W rfl (by omega) (Fits.of_good hA.1) hz
        rw [hA.1] at cg
        have SA : Spans wr aA A := RA.row
        have SB : Spans wr aB A := RB.row
        have i1 : ¬ (j : Int) + 1 < (z0.length : Int) := by omega
        clear hlt hA hB
        go_wp2_with (first
          | (go_at_call 13; (with_reducible refine (cs _ SA SB).mono ?_); rintro e w3 ⟨rfl, L3⟩)
          | (go_at_call 16; (with_reducible refine (cg _ (SA.below L3)).mono ?_); rintro e w4 ⟨rfl, L4⟩))
        all_goals go_ret
        all_goals exact ⟨by simp, Base.next M1 (Base.next (Base.next hL L3) L4)⟩

set_option maxRecDepth 100000 in
theorem lifted (os : Os) (started : os.Started) (H : Type) (enc : TypeId × Value → H) :
    ReturnsInHanded {} Try.checked os 7 .any (Rows.spanOrderSpec.pre6 enc Try.prog Try.f7 Rows.spanOrderRow.domain false) (Rows.spanOrderSpec.post enc Try.prog Try.f7 false true false false) := by
  refine returnsInHanded_of_change_sized (C := Try.checked) own started (by kernel_rfl) Try.func7
    (ChangeSpec.witness6 (enc := enc) (C := Try.checked) false ⟨#[], #[.slice none 0 0], []⟩ 8 (by kernel_rfl) (by kernel_rfl) (by kernel_rfl) (by kernel_rfl)) ?_
  intro W base args ds gs before hval0 hW hcnd hsz0 _
  have hval : ∀ (j : Nat) t v, Try.f7.params[j]? = some t → args[j]? = some v → Value.okWide Try.prog W .any base t v := hval0
  have hW' := hW
  obtain ⟨p, q, hA0, hV, rfl, hfz, hnd⟩ := hW
  have hA : DataW.TrodAll enc Try.prog W 0 (fun _ => true) true Try.f7.params.toList args.toList ds p := hA0
  rw [Try.params7] at hA hval
  obtain ⟨v0, vs0, d0, ds0, p0, q0, hargs, rfl, rfl, h0, r0⟩ := trodAll_cons hA
  obtain ⟨rfl, rfl, rfl⟩ := trodAll_nil r0
  obtain rfl : args = #[v0] := by cases args; simp_all
  obtain ⟨rfl, rfl⟩ := trodVars_none hV
  have hsz : (DataW.weightsEach Try.prog [39] [d0]).all (· ≤ reachBytes) = true := hsz0
  obtain ⟨a0, len0, cap0, rfl⟩ := okWide_slice Try.underlying39 (hval 0 39 v0 rfl rfl)
  have k0 := h0
  have lt0 : ∀ x ∈ p0, x.block < W.heap.size := by obtain ⟨m, hm⟩ := k0; exact DataW.trod_lt m _ _ _ hm
  obtain ⟨z0, w0, n0, m0, o0, f0, b0, e0⟩ : ∃ zs, Ints .u16 W a0 zs ∧ zs.length = len0 ∧ len0 ≤ cap0 ∧ cap0 ≤ maxLen ∧ (∀ x ∈ zs, (Lit.int .u16 x).wf = true) ∧ cap0 * 2 ≤ 140737488351232 ∧ (a0 = none → len0 = 0 ∧ cap0 = 0) := by
    obtain ⟨fuel, hf⟩ := h0
    rcases open_ints Try.underlying39 Try.underlying45 (by kernel_rfl) hf with ⟨hcs, hx⟩ | ⟨x, l, c, zs, hcs, _, hl, hm, hz, hx, hcell, hwz⟩
    · simp [Value.cells] at hcs
      obtain ⟨rfl, rfl, rfl⟩ := hcs
      exact ⟨[], Row.nil _ _, rfl, Nat.le_refl _, Nat.zero_le _, (fun _ h => by cases h), by decide, fun _ => ⟨rfl, rfl⟩⟩
    · simp [Value.cells] at hcs
      obtain ⟨rfl, rfl, rfl⟩ := hcs
      exact ⟨zs.take len0, ints_of hl (by simpa using hz) hcell, take_len hl (by simpa using hz), hl, hm, (fun x hx => hwz x (List.mem_of_mem_take hx)), by
          have hd := congrArg Prod.fst hx
          dsimp only at hd
          have := sized_slice hsz (j := 0) (t := 39) (e := 45) (elems := lits .u16 (zs.take len0)) (spare := lits .u16 (zs.drop len0)) rfl (by rw [← hd]; rfl) Try.underlying39
          rw [show Try.prog.bytesOf 45 = 2 by kernel_rfl] at this
          simp only [lits, List.length_map, List.length_take, List.length_drop, reachBytes] at this
          have hz2 : zs.length = cap0 := (by simpa using hz)
          omega, fun e => by cases e⟩
  clear hA0 hval0
  refine (walk a0 len0 cap0 z0 W w0 n0 m0 o0 f0 b0 e0).mono fun e W' ⟨he, bel⟩ => ?_
  subst he
  exact ⟨_, rfl, _, _, _, [], _, [], hW', trodAll_mk1 (shut_bool Try.underlying4 _), (trodAll_cons_mk (Below.trod laidOut (by kernel_rfl) (of_decide_eq_true (by kernel_rfl)) k0 bel lt0) trodAll_mk0), rfl, bel.frame _, fun h => by cases h⟩

theorem over : Rows.spanOrderRow.holds Try.pinned (OpenSpec.ofChange Rows.spanOrderSpec) :=
  OpenClaim.holds_of_wide 7 Try.f7 rfl rfl rfl rfl rfl rfl rfl ⟨rfl, rfl, rfl, rfl, rfl⟩ rfl rfl rfl rfl rfl (by kernel_rfl) Try.func7 (by kernel_rfl)
    (of_decide_eq_true (by kernel_rfl)) (by unfold Func.isWrapper; first | (rw [if_pos (by decide +kernel)]; kernel_rfl) | (rw [if_neg (by decide +kernel)]; exact ⟨rfl, rfl⟩))
    (fun os started H enc _ => lifted os started H enc)

/-- The given statement. -/
theorem proved : Rows.SpanOrderSaid :=
  over
#print axioms proved
end Go.Proofs.Ytipcabdodjkmoaa.spanOrder
