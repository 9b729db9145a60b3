/-
  Of two cuts the packet of the second one was given behind the first one, and as many are counted as there were. No conditions.
-/
import Derived.Test.YtmgkigjjmghmhaaFlat
import Derived.Test.YtmgkigjjmghmhaaRows
import Derived.Test.YtmgkigjjmghmhaaRow
import Derived.WalkKit
import Derived.ProofKit
import Derived.OpenShut
import Derived.ShutString
import Derived.ChangeOld
import Derived.Below
import Derived.Test.YtmgkigjjmghmhaaRoundAlive
import Derived.Test.YtmgkigjjmghmhaaRoundRow
namespace Go.Proofs.Ytmgkigjjmghmhaa.roundOne
open Go.ChangeShapes Go.WideShapes Go.ChangeAt Go.RowKit
open Go.ChangeMaps (open_string shut_string)
open Go.Proofs.Ytmgkigjjmghmhaa.Base
set_option linter.unusedVariables false
set_option linter.unusedSimpArgs false

theorem own : ownKnob Try.prog.godebug = none := by kernel_rfl
theorem laidOut : laidOutB Try.prog = true := by kernel_rfl

open Go.Proofs.Ytmgkigjjmghmhaa.Round Go.Proofs.Ytmgkigjjmghmhaa.RoundPlain Go.Proofs.Ytmgkigjjmghmhaa.Hop
theorem ne_rd {ρ : Operand → Value} {o : Oper} {u : World} (x y : Operand) (ho : o.op = .binOp .neq 24 x y 24) {a b : Int} (hx : ρ x = .agg #[.int .u64 a, .int .u64 b]) (hy : ρ y = .agg #[.int .u64 a, .int .u64 b]) : (execOp ρ o).run Try.prog u = .ok (.value (.bool false)) u := by
  unfold execOp
  rw [ho]
  simp [hx, hy, go_sem]
set_option maxHeartbeats 4000000 in
set_option maxRecDepth 20000 in
theorem walk (a0 : Option Addr) (len0 cap0 : Nat) (z0 : List (List Value)) (w : World) (w0 : Recs w a0 [.int .u16, .int .u16] z0) (n0 : z0.length = len0) (m0 : len0 ≤ cap0) (o0 : cap0 ≤ maxLen) :
    Calls Try.prog 4 #[.slice a0 len0 cap0] w fun e w' => e = .returned (.bool true) ∧ Below w.heap.size w w' := by
  subst n0
  have CA := fun V => alive_round V
  by_cases hb : (500 : Int) < (z0.length : Int)
  · go_enter Try.func4, Try.ntmps4
    go_wp2_with (first
      | (go_at_call 6; (with_reducible refine (CA w).mono ?_); rintro e X ⟨rfl, L1⟩)
      | (go_at_call 6; (with_reducible refine (CA X).mono ?_); rintro e X2 ⟨rfl, L2⟩))
    all_goals go_ret
    all_goals exact ⟨rfl, Base.next L1 L2⟩
  · go_enter Try.func4, Try.ntmps4
    go_upto_region 4 with (go_at_call 6; (with_reducible refine (CA w).mono ?_); rintro e X ⟨rfl, L1⟩)
    refine at_any ?_
    intro W hW
    obtain ⟨rB, hL, hrb⟩ : Blk W X.heap.size #[.int .u64 0, .int .u64 0] 24 ∧ Below w.heap.size w W ∧ w.heap.size ≤ X.heap.size := by
      subst hW
      exact ⟨Blk.new _ _ _, L1.alloc L1.size _, L1.size⟩
    clear hW L1 CA
    generalize X.heap.size = rb at *
    clear X
    have hlr := rB.lt
    go_wp2
    go_loopw [4, 5, 6, 7, 8, 9, 10, 21] (fun nx la n _ _ _ _ i wr => ∃ (k : Nat) (N E C : Int), k ≤ z0.length ∧ i = .int .i64 k ∧ nx = .int .u64 N ∧ la = .int .u64 E ∧ n = .int .u64 C ∧ 0 ≤ E ∧ E ≤ N ∧ N ≤ 30 * k ∧ 0 ≤ C ∧ C ≤ k ∧ Blk wr rb #[.int .u64 E, .int .u64 C] 24 ∧ Below w.heap.size w wr) (fun _ _ _ _ _ _ _ i _ => z0.length - (intOf i).toNat)
    case atStart => exact ⟨0, 0, 0, 0, Nat.zero_le _, rfl, rfl, rfl, rfl, by decide, by decide, by decide, by decide, by decide, rB, hL⟩
    case round =>
      obtain ⟨k, N, E, C, hk, rfl, rfl, rfl, rfl, hE0, hEN, hN, hC0, hCk, rW, hM⟩ := hrel
      clear rB hL hlr
      have hlr := rW.lt
      have c0 : wr.cell? ⟨rb, 0, none⟩ = some (.int .u64 E) := rW.cell 0
      have c1 : wr.cell? ⟨rb, 1, none⟩ = some (.int .u64 C) := rW.cell 1
      by_cases hlt : k < z0.length
      · have hkI : (k : Int) < (z0.length : Int) := by omega
        obtain ⟨hf, b', off', rfl, hb', hc⟩ := (w0.below hM).at_ (m := 2) rfl (by decide) hlt
        generalize z0.getD k [] = z at *
        obtain ⟨p, us, rfl, wp, hf⟩ := hf.int_
        obtain ⟨q, us, rfl, wq, hf⟩ := hf.int_
        obtain rfl := hf.nil_
        have x0 : wr.cell? ⟨b', off' + k * 2, none⟩ = some (.int .u16 p) := hc 0 _ rfl
        have x1 : wr.cell? ⟨b', off' + k * 2 + 1, none⟩ = some (.int .u16 q) := hc 1 _ rfl
        clear hc hf
        obtain ⟨p0, p1⟩ := Base.u16_of wp
        obtain ⟨q0, q1⟩ := Base.u16_of wq
        clear wp wq
        clear w0
        have hM0 : 0 ≤ N + p % 30 ∧ N ≤ N + p % 30 ∧ N + p % 30 ≤ 30 * ((k + 1 : Nat) : Int) := by omega
        by_cases hq : q < N + p % 30
        · have B1 : ∀ M : Int, q < M → M ≤ 18446744073709551615 → ∀ V, Calls Try.prog 7 #[.agg #[.int .u64 E, .int .u64 C], .int .u64 q, .int .u64 M] V fun x w' => x = .returned (.tuple #[.agg #[.int .u64 (if E ≤ q then M else E), .int .u64 (if E ≤ q then C + 1 else C)], .bool (decide (E ≤ q))]) ∧ Below V.heap.size V w' := fun M h1 h2 V => by
            have h := begin_any ⟨E, C⟩ ⟨hE0, by show E ≤ _; omega, hC0, by show C ≤ _; omega⟩ q M (by omega) (by omega) (by omega) h2 V
            by_cases he : E ≤ q
            · rw [begin_yes (r := ⟨E, C⟩) he, endP, if_neg (by omega), show Sat.add C 1 = C + 1 by unfold Sat.add; rw [if_pos (by omega)]] at h
              rw [if_pos he, if_pos he]
              exact h
            · rw [begin_no (r := ⟨E, C⟩) he] at h
              rw [if_neg he, if_neg he]
              exact h
          by_cases he : E ≤ q
          · have he2 : ¬ q < E := by omega
            simp only [if_pos he, decide_eq_true he] at B1
            go_upto_region 11 with fail
            generalize N + p % 30 = M at *
            have C1 := B1 M (by omega) (by omega) wr
            clear B1
            go_upto_region 12 with (go_at_call 7; refine C1.mono ?_; rintro e y ⟨rfl, L2⟩)
            refine at_any ?_
            intro Y hY
            obtain ⟨sB, rY, hL, hrs⟩ : Blk Y y.heap.size #[.int .u64 M, .int .u64 (C + 1)] 24 ∧ Blk Y rb #[.int .u64 E, .int .u64 C] 24 ∧ Below w.heap.size w Y ∧ rb < y.heap.size := by
              subst hY
              exact ⟨Blk.new _ _ _, (rW.below L2 rW.lt).alloc _, (Base.next hM L2).alloc (Base.next hM L2).size _, (rW.below L2 rW.lt).lt⟩
            clear hY L2 C1 x0 x1 c0 c1 hM rW
            generalize y.heap.size = sb at *
            clear y
            have k2 : Y.cell? ⟨sb, 0, none⟩ = some (.int .u64 M) := sB.cell 0
            have k3 : Y.cell? ⟨sb, 1, none⟩ = some (.int .u64 (C + 1)) := sB.cell 1
            have lsb := sB.lt
            go_wp2_with (first
              | (refine wpl_store_row rfl 24 (.tmp 3) (.tmp 68) rfl rY #[.int .u64 M, .int .u64 (C + 1)] rfl rfl (by kernel_rfl) rfl (by simp [Value.oneCell']) ?_))
            all_goals go_roundw
            all_goals first
              | exact ⟨k + 1, M, M, C + 1, by omega, by go_num, rfl, rfl, rfl, by omega, by omega, by omega, by omega, by omega, rY.setRow _, below_setRow' hL hrb⟩
              | (simp [intOf]; omega)
          · have he2 : q < E := by omega
            simp only [if_neg he, decide_eq_false he] at B1
            go_upto_region 11 with fail
            generalize N + p % 30 = M at *
            have C1 := B1 M (by omega) (by omega) wr
            clear B1
            go_upto_region 12 with (go_at_call 7; refine C1.mono ?_; rintro e y ⟨rfl, L2⟩)
            refine at_any ?_
            intro Y hY
            obtain ⟨sB, rY, hL, hrs⟩ : Blk Y y.heap.size #[.int .u64 E, .int .u64 C] 24 ∧ Blk Y rb #[.int .u64 E, .int .u64 C] 24 ∧ Below w.heap.size w Y ∧ rb < y.heap.size := by
              subst hY
              exact ⟨Blk.new _ _ _, (rW.below L2 rW.lt).alloc _, (Base.next hM L2).alloc (Base.next hM L2).size _, (rW.below L2 rW.lt).lt⟩
            clear hY L2 C1 x0 x1 c0 c1 hM rW
            generalize y.heap.size = sb at *
            clear y
            have k0 : Y.cell? ⟨rb, 0, none⟩ = some (.int .u64 E) := rY.cell 0
            have k1 : Y.cell? ⟨rb, 1, none⟩ = some (.int .u64 C) := rY.cell 1
            have k2 : Y.cell? ⟨sb, 0, none⟩ = some (.int .u64 E) := sB.cell 0
            have k3 : Y.cell? ⟨sb, 1, none⟩ = some (.int .u64 C) := sB.cell 1
            have lsb := sB.lt
            go_wp2_with (first
              | (refine wpl_value (v := .bool false) rfl (ne_rd (.tmp 60) (.tmp 61) rfl (a := E) (b := C) rfl rfl) ?_)
              | (refine wpl_store_row rfl 24 (.tmp 3) (.tmp 68) rfl rY #[.int .u64 E, .int .u64 C] rfl rfl (by kernel_rfl) rfl (by simp [Value.oneCell']) ?_))
            all_goals go_roundw
            case rel => exact ⟨k + 1, M, E, C, by omega, by go_num, rfl, rfl, rfl, by omega, by omega, by omega, by omega, by omega, rY.setRow _, below_setRow' hL hrb⟩
            case measure => simp [intOf]; omega
        · go_wp2
          all_goals go_roundw
          case rel => exact ⟨k + 1, N + p % 30, E, C, by omega, by go_num, rfl, rfl, rfl, by omega, by omega, by omega, by omega, by omega, rW, hM⟩
          case measure => simp [intOf]; omega
      · obtain rfl : k = z0.length := by omega
        go_wp2
        all_goals go_ret
        all_goals exact ⟨rfl, hM⟩

set_option maxRecDepth 100000 in
theorem lifted (os : Os) (started : os.Started) (H : Type) (enc : TypeId × Value → H) :
    ReturnsInHanded {} Try.checked os 4 .any (Rows.roundOneSpec.pre6 enc Try.prog Try.f4 Rows.roundOneRow.domain false) (Rows.roundOneSpec.post enc Try.prog Try.f4 false true false false) := by
  refine returnsInHanded_of_change (C := Try.checked) own started (by kernel_rfl) Try.func4
    (ChangeSpec.witness6 (enc := enc) (C := Try.checked) false ⟨#[], #[.slice none 0 0], []⟩ 8 (by kernel_rfl) (by kernel_rfl) (by kernel_rfl) (by kernel_rfl)) ?_
  intro W base args ds gs before hval0 hW hcnd _
  have hval : ∀ (j : Nat) t v, Try.f4.params[j]? = some t → args[j]? = some v → Value.okWide Try.prog W .any base t v := hval0
  have hW' := hW
  obtain ⟨p, q, hA0, hV, rfl, hfz, hnd⟩ := hW
  have hA : DataW.TrodAll enc Try.prog W 0 (fun _ => true) true Try.f4.params.toList args.toList ds p := hA0
  rw [Try.params4] at hA hval
  obtain ⟨v0, vs0, d0, ds0, p0, q0, hargs, rfl, rfl, h0, r0⟩ := trodAll_cons hA
  obtain ⟨rfl, rfl, rfl⟩ := trodAll_nil r0
  obtain rfl : args = #[v0] := by cases args; simp_all
  obtain ⟨rfl, rfl⟩ := trodVars_none hV
  obtain ⟨a0, len0, cap0, rfl⟩ := okWide_slice Try.underlying30 (hval 0 30 v0 rfl rfl)
  have k0 := h0
  have lt0 : ∀ x ∈ p0, x.block < W.heap.size := by obtain ⟨m, hm⟩ := k0; exact DataW.trod_lt m _ _ _ hm
  obtain ⟨z0, w0, n0, m0, o0⟩ : ∃ zs, Recs W a0 [.int .u16, .int .u16] zs ∧ zs.length = len0 ∧ len0 ≤ cap0 ∧ cap0 ≤ maxLen := by
    obtain ⟨fuel, hf⟩ := h0
    rcases open_recs Try.underlying30 (show leaf Try.prog 6 32 = some [.int .u16, .int .u16] by kernel_rfl) (by kernel_rfl) (by decide) hf with ⟨hcs, hx⟩ | ⟨x, l, c, zs, hcs, hl, hm, hz, hsp⟩
    · simp [Value.cells] at hcs
      obtain ⟨rfl, rfl, rfl⟩ := hcs
      exact ⟨[], Recs.nil _ _ _, rfl, Nat.le_refl _, Nat.zero_le _⟩
    · simp [Value.cells] at hcs
      obtain ⟨rfl, rfl, rfl⟩ := hcs
      exact ⟨zs, hsp, hz, hl, hm⟩
  clear hA0 hval0
  refine (walk a0 len0 cap0 z0 W w0 n0 m0 o0).mono fun e W' ⟨he, bel⟩ => ?_
  subst he
  exact ⟨_, rfl, _, _, _, [], _, [], hW', trodAll_mk1 (shut_bool Try.underlying4 _), (trodAll_cons_mk (Below.trod laidOut (by kernel_rfl) (of_decide_eq_true (by kernel_rfl)) k0 bel lt0) trodAll_mk0), rfl, bel.frame _, fun h => by cases h⟩

theorem over : Rows.roundOneRow.holds Try.pinned (OpenSpec.ofChange Rows.roundOneSpec) :=
  OpenClaim.holds_of_wide 4 Try.f4 rfl rfl rfl rfl rfl rfl rfl ⟨rfl, rfl, rfl, rfl, rfl⟩ rfl rfl rfl rfl rfl (by kernel_rfl) Try.func4 (by kernel_rfl)
    (of_decide_eq_true (by kernel_rfl)) (by unfold Func.isWrapper; first | (rw [if_pos (by decide +kernel)]; kernel_rfl) | (rw [if_neg (by decide +kernel)]; exact ⟨rfl, rfl⟩))
    (fun os started H enc _ => lifted os started H enc)

/-- The given statement. -/
theorem proved : Rows.RoundOneSaid :=
  over
#print axioms proved
end Go.Proofs.Ytmgkigjjmghmhaa.roundOne
