/-
  A part's sum is the exclusive or of what is in it, and that of two parts side by side that of both. No conditions.
-/
import Derived.Test.YtakdacjdjhlnkaaRows
import Derived.Test.YtakdacjdjhlnkaaRow
import Derived.WalkKit
import Derived.ProofKit
import Derived.OpenShut
import Derived.ShutString
import Derived.ChangeOld
import Derived.Below
import Derived.Test.YtakdacjdjhlnkaaFoldAlive
import Derived.Test.YtakdacjdjhlnkaaMin3
import Derived.Deep.Cut
namespace Go.Proofs.Ytakdacjdjhlnkaa.foldParts
open Go.ChangeShapes Go.WideShapes Go.ChangeAt Go.RowKit
open Go.ChangeMaps (open_string shut_string)
open Go.Proofs.Ytakdacjdjhlnkaa.Base
set_option linter.unusedVariables false

theorem own : ownKnob Try.prog.godebug = none := by kernel_rfl
theorem laidOut : laidOutB Try.prog = true := by kernel_rfl

open Go.Proofs.Ytakdacjdjhlnkaa.Fold Go.Proofs.Ytakdacjdjhlnkaa.FoldPlain
theorem mod_facts {a : Int} {k : Nat} (h0 : 0 ≤ a) (hk : 1 ≤ k) : ∃ t : Nat, a.tmod (k : Int) = t ∧ t < k := by
  have h1 := Int.emod_nonneg a (show (k : Int) ≠ 0 by omega)
  have h2 := Int.emod_lt_of_pos a (show (0 : Int) < k by omega)
  exact ⟨(a % (k : Int)).toNat, by rw [Int.tmod_eq_emod_of_nonneg h0]; omega, by omega⟩
set_option maxHeartbeats 2000000 in
theorem walk (a0 : Option Addr) (len0 cap0 : Nat) (z0 : List Int) (a1 : Int) (a2 : Int) (a3 : Int) (w : World) (w0 : Ints .u64 w a0 z0) (n0 : z0.length = len0) (m0 : len0 ≤ cap0) (o0 : cap0 ≤ maxLen) (f0 : ∀ x ∈ z0, (Lit.int .u64 x).wf = true) (w1 : (Lit.int .u16 a1).wf = true) (w2 : (Lit.int .u16 a2).wf = true) (w3 : (Lit.int .u16 a3).wf = true) :
    Calls Try.prog 5 #[.slice a0 len0 cap0, .int .u16 a1, .int .u16 a2, .int .u16 a3] w fun e w' => e = .returned (.bool true) ∧ Below w.heap.size w w' := by
  subst n0
  unfold maxLen at o0
  have hw : W64 z0 := fun x hx => Base.u64_of (f0 x hx)
  obtain ⟨p0, p1⟩ := Base.u16_of w1
  obtain ⟨q0, q1⟩ := Base.u16_of w2
  obtain ⟨r0, r1⟩ := Base.u16_of w3
  by_cases hlen : (500 : Int) < (z0.length : Int)
  · go_enter Try.func5, Try.ntmps5
    go_wp2_with (first
      | (go_at_call 7; (with_reducible refine (alive_fold w).mono ?_); rintro e wa ⟨rfl, ha⟩)
      | (go_at_call 7; refine (alive_fold wa).mono ?_; rintro e wb ⟨rfl, hb⟩))
    all_goals go_ret
    all_goals exact ⟨rfl, Base.next ha hb⟩
  · obtain ⟨A, eA, hA⟩ := mod_facts (k := z0.length + 1) p0 (by omega)
    obtain ⟨B, eB, hB⟩ := mod_facts (k := z0.length + 1) q0 (by omega)
    obtain ⟨C, eC, hC⟩ := mod_facts (k := z0.length + 1) r0 (by omega)
    have hlen' : (z0.length : Int) ≤ 500 := by omega
    have hN : ((z0.length : Int) + 1 == 0) = false := by simp; omega
    push_cast at eA eB eC
    obtain ⟨lo, l1, l2, l3, l4, hmin⟩ := min3 (A : Int) (B : Int) (C : Int)
    obtain ⟨hi, g1, g2, g3, g4, hmax⟩ := max3 (A : Int) (B : Int) (C : Int)
    obtain ⟨L, rfl⟩ := Int.eq_ofNat_of_zero_le (show 0 ≤ lo by omega)
    obtain ⟨H, rfl⟩ := Int.eq_ofNat_of_zero_le (show 0 ≤ hi by omega)
    obtain ⟨M, eM⟩ := Int.eq_ofNat_of_zero_le (show 0 ≤ (A : Int) + B + C - L - H by omega)
    have hLM : (L : Int) ≤ M := by omega
    have hMH : (M : Int) ≤ H := by omega
    have hHn : (H : Int) ≤ (z0.length : Int) := by omega
    have b1 : (A : Int) ≤ 500 := by omega
    have b2 : (B : Int) ≤ 500 := by omega
    have b3 : (C : Int) ≤ 500 := by omega
    have b4 : (L : Int) ≤ 500 := by omega
    have b5 : (H : Int) ≤ 500 := by omega
    clear l1 l2 l3 l4 g1 g2 g3 g4 hA hB hC w1 w2 w3 hlen
    have hls : (sums z0).length = z0.length + 1 := pre_len _ _
    have C1 := fun W hz => xors_any a0 z0.length cap0 z0 W rfl m0 (by omega) hw hz
    have hwS : W64 (sums z0) := pre_w hw _
    have C2 : ∀ a c W (F T : Nat), (F : Int) ≤ (T : Int) → (T : Int) ≤ (z0.length : Int) → Ints .u64 W a (sums z0) →
        Calls Try.prog 13 #[.slice a (z0.length + 1) c, .int .i64 F, .int .i64 T] W fun e w' => e = .returned (.tuple #[.int .u64 (xr (xs z0 F) (xs z0 T)), .bool true]) ∧ Below W.heap.size W w' := fun a c W F T h1 h2 hz => by
      have h := over_any a (z0.length + 1) c (sums z0) F T W hls (by omega) hwS (by omega) (by omega) (by omega) (by omega) hz
      rw [overB_true (by omega) h1 (by omega), overV_at (by omega) (by omega)] at h
      unfold sums at h
      rw [pre_get (show F ≤ z0.length by omega), pre_get (show T ≤ z0.length by omega)] at h
      exact h
    obtain ⟨X0, X1⟩ := xs_bd hw L
    obtain ⟨Y0, Y1⟩ := xs_bd hw M
    obtain ⟨Z0, Z1⟩ := xs_bd hw H
    have HC : bits .xor .u64 (xr (xs z0 L) (xs z0 M)) (xr (xs z0 M) (xs z0 H)) = xr (xs z0 L) (xs z0 H) := xr_cancel X0 X1 Y0 Y1 Z0 Z1
    have HS := Lib.hid (xr_self X0 X1)
    have HK := Lib.hid fun k (hk : k < z0.length) => (xr_assoc X0 X1 (xs_bd hw k).1 (xs_bd hw k).2 (hw.get k).1 (hw.get k).2).trans (by rw [← xs_succ hk])
    have HB := Lib.hid fun k => xr_bd X0 X1 (xs_bd hw k).1 (xs_bd hw k).2
    have HY := Lib.hid hw.get
    have hHn' : H ≤ z0.length := by omega
    clear hls hwS hw Y0 Y1 Z0 Z1 f0
    go_enter Try.func5, Try.ntmps5
    go_wp2_with (first
      | (go_at_call 7; (with_reducible refine (alive_fold w).mono ?_); rintro e wa ⟨rfl, ha⟩))
    go_quiet (fail)
    have hq := Base.drawn ha nq
    generalize wa.drewN nq = wb at *
    go_wp2_with (first
      | ((with_reducible refine wpl_value (v := .int .i64 L) ?_ ?_ ?_); rfl; exact hmin (.tmp 48) (.tmp 49) (.tmp 50) _ rfl rfl rfl rfl _)
      | ((with_reducible refine wpl_value (v := .int .i64 H) ?_ ?_ ?_); rfl; exact hmax (.tmp 52) (.tmp 53) (.tmp 54) _ rfl rfl rfl rfl _)
      | (go_at_call 11; refine (C1 _ (w0.below hq)).mono ?_; rintro e x1 ⟨a2', c2, rfl, h1, h2, h3, R1, L1⟩; have M1 := Base.next hq L1; clear C1)
      | (go_at_call 13; refine (C2 a2' c2 x1 L H (by omega) hHn R1.row).mono ?_; rintro e x2 ⟨rfl, L2⟩; have M2 := Base.next M1 L2; have R2 := R1.row.below L2; clear R1)
      | (go_at_call 13; refine (C2 a2' c2 x2 L M hLM (by omega) R2).mono ?_; rintro e x3 ⟨rfl, L3⟩; have M3 := Base.next M2 L3; have R3 := R2.below L3; clear R2)
      | (go_at_call 13; refine (C2 a2' c2 x3 M H hMH hHn R3).mono ?_; rintro e x4 ⟨rfl, L4⟩; have M4 := Base.next M3 L4; clear R3))
    go_loopw [23, 24] (fun s i wr => ∃ k : Nat, L ≤ k ∧ k ≤ H ∧ i = .int .i64 k ∧ s = .int .u64 (xr (xs z0 L) (xs z0 k)) ∧ wr = x4) (fun _ i _ => H - (intOf i).toNat)
    case atStart => exact ⟨L, Nat.le_refl _, by omega, rfl, by rw [HS.out], rfl⟩
    case round =>
      obtain ⟨k, hk1, hk2, rfl, rfl, rfl⟩ := hrel
      by_cases hlt : k < H
      · have HN := Lib.hid (HK.out k (by omega))
        obtain ⟨b, off, rfl, hb, hcell⟩ := (w0.below M4).at_ (i := k) (by omega)
        obtain ⟨v0, v1⟩ := HB.out k
        obtain ⟨y0, y1⟩ := HY.out k
        have hkI : (k : Int) < (H : Int) := by omega
        have hkn : (k : Int) < (z0.length : Int) := by omega
        generalize hE : xr (xs z0 L) (xs z0 (k + 1)) = V at *
        have HE := Lib.hid hE
        clear hE
        generalize z0.getD k 0 = y at *
        generalize xr (xs z0 L) (xs z0 k) = v at *
        have hV : bits .xor .u64 v y = V := HN.out
        clear HN
        go_wp2
        all_goals go_roundw
        case rel => exact ⟨k + 1, by omega, by omega, by go_num, by rw [HE.out], trivial⟩
        case measure => simp [intOf]; omega
      · obtain rfl : k = H := by omega
        generalize xr (xs z0 L) (xs z0 k) = P at *
        generalize xr (xs z0 L) (xs z0 M) = Q at *
        generalize xr (xs z0 M) (xs z0 k) = R at *
        go_wp2
        all_goals go_ret
        all_goals exact ⟨rfl, M4⟩

set_option maxRecDepth 100000 in
theorem lifted (os : Os) (started : os.Started) (H : Type) (enc : TypeId × Value → H) :
    ReturnsInHanded {} Try.checked os 5 .any (Rows.foldPartsSpec.pre6 enc Try.prog Try.f5 Rows.foldPartsRow.domain false) (Rows.foldPartsSpec.post enc Try.prog Try.f5 false true false false) := by
  refine returnsInHanded_of_change (C := Try.checked) own started (by kernel_rfl) Try.func5
    (ChangeSpec.witness6 (enc := enc) (C := Try.checked) false ⟨#[], #[.slice none 0 0, .int .u16 0, .int .u16 0, .int .u16 0], []⟩ 8 (by kernel_rfl) (by kernel_rfl) (by kernel_rfl) (by kernel_rfl)) ?_
  intro W base args ds gs before hval0 hW hcnd _
  have hval : ∀ (j : Nat) t v, Try.f5.params[j]? = some t → args[j]? = some v → Value.okWide Try.prog W .any base t v := hval0
  have hW' := hW
  obtain ⟨p, q, hA0, hV, rfl, hfz, hnd⟩ := hW
  have hA : DataW.TrodAll enc Try.prog W 0 (fun _ => true) true Try.f5.params.toList args.toList ds p := hA0
  rw [Try.params5] at hA hval
  obtain ⟨v0, vs0, d0, ds0, p0, q0, hargs, rfl, rfl, h0, r0⟩ := trodAll_cons hA
  obtain ⟨v1, vs1, d1, ds1, p1, q1, rfl, rfl, rfl, h1, r1⟩ := trodAll_cons r0
  obtain ⟨v2, vs2, d2, ds2, p2, q2, rfl, rfl, rfl, h2, r2⟩ := trodAll_cons r1
  obtain ⟨v3, vs3, d3, ds3, p3, q3, rfl, rfl, rfl, h3, r3⟩ := trodAll_cons r2
  obtain ⟨rfl, rfl, rfl⟩ := trodAll_nil r3
  obtain rfl : args = #[v0, v1, v2, v3] := by cases args; simp_all
  obtain ⟨rfl, rfl⟩ := trodVars_none hV
  obtain ⟨a0, len0, cap0, rfl⟩ := okWide_slice Try.underlying22 (hval 0 22 v0 rfl rfl)
  have k0 := h0
  have lt0 : ∀ x ∈ p0, x.block < W.heap.size := by obtain ⟨m, hm⟩ := k0; exact DataW.trod_lt m _ _ _ hm
  obtain ⟨z0, w0, n0, m0, o0, f0⟩ : ∃ zs, Ints .u64 W a0 zs ∧ zs.length = len0 ∧ len0 ≤ cap0 ∧ cap0 ≤ maxLen ∧ (∀ x ∈ zs, (Lit.int .u64 x).wf = true) := by
    obtain ⟨fuel, hf⟩ := h0
    rcases open_ints Try.underlying22 Try.underlying29 (by kernel_rfl) hf with ⟨hcs, hx⟩ | ⟨x, l, c, zs, hcs, _, hl, hm, hz, hx, hcell, hwz⟩
    · simp [Value.cells] at hcs
      obtain ⟨rfl, rfl, rfl⟩ := hcs
      exact ⟨[], Row.nil _ _, rfl, Nat.le_refl _, Nat.zero_le _, (fun _ h => by cases h)⟩
    · simp [Value.cells] at hcs
      obtain ⟨rfl, rfl, rfl⟩ := hcs
      exact ⟨zs.take len0, ints_of hl (by simpa using hz) hcell, take_len hl (by simpa using hz), hl, hm, (fun x hx => hwz x (List.mem_of_mem_take hx))⟩
  obtain ⟨a1, rfl, rfl, rfl, w1⟩ := open_int Try.underlying35 (hval 1 35 v1 rfl rfl) h1
  obtain ⟨a2, rfl, rfl, rfl, w2⟩ := open_int Try.underlying35 (hval 2 35 v2 rfl rfl) h2
  obtain ⟨a3, rfl, rfl, rfl, w3⟩ := open_int Try.underlying35 (hval 3 35 v3 rfl rfl) h3
  clear hA0 hval0
  refine (walk a0 len0 cap0 z0 a1 a2 a3 W w0 n0 m0 o0 f0 w1 w2 w3).mono fun e W' ⟨he, bel⟩ => ?_
  subst he
  exact ⟨_, rfl, _, _, _, [], _, [], hW', trodAll_mk1 (shut_bool Try.underlying4 _), (trodAll_cons_mk (Below.trod laidOut (by kernel_rfl) (of_decide_eq_true (by kernel_rfl)) k0 bel lt0) (trodAll_cons_mk (shut_int Try.underlying35 w1) (trodAll_cons_mk (shut_int Try.underlying35 w2) (trodAll_cons_mk (shut_int Try.underlying35 w3) trodAll_mk0)))), rfl, bel.frame _, fun h => by cases h⟩

theorem over : Rows.foldPartsRow.holds Try.pinned (OpenSpec.ofChange Rows.foldPartsSpec) :=
  OpenClaim.holds_of_wide 5 Try.f5 rfl rfl rfl rfl rfl rfl rfl ⟨rfl, rfl, rfl, rfl, rfl⟩ rfl rfl rfl rfl rfl (by kernel_rfl) Try.func5 (by kernel_rfl)
    (of_decide_eq_true (by kernel_rfl)) (by unfold Func.isWrapper; first | (rw [if_pos (by decide +kernel)]; kernel_rfl) | (rw [if_neg (by decide +kernel)]; exact ⟨rfl, rfl⟩))
    (fun os started H enc _ => lifted os started H enc)

/-- The given statement. -/
theorem proved : Rows.FoldPartsSaid :=
  over
#print axioms proved
end Go.Proofs.Ytakdacjdjhlnkaa.foldParts
