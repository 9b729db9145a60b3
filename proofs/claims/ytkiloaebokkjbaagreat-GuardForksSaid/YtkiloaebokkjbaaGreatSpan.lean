/-
  Contracts of span's functions.
-/
import Derived.Test.YtkiloaebokkjbaaGreatRows
import Derived.Test.YtkiloaebokkjbaaGreatM12
import Derived.Test.YtkiloaebokkjbaaGreatM10
import Derived.WalkKit
import Derived.ProofKit
import Derived.OpenShut
import Derived.WalkSpells
import Derived.LoopTactic
import Derived.Lib.Hide
import Derived.OwnWalk
import Derived.BigQuiet
import Derived.Deep.QuietTactic
import Derived.Deep.RegionHeld3
import Derived.Deep.RegionWith
import Derived.Deep.DeepCutAuto
import Derived.Outline
set_option linter.unusedSimpArgs false
set_option linter.unusedVariables false
namespace Go.Proofs.YtkiloaebokkjbaaGreat.Span
set_option linter.unusedVariables false
set_option maxRecDepth 20000
open Go.ChangeShapes Go.WideShapes Go.ChangeAt Go.RowKit
open Go.Proofs.YtkiloaebokkjbaaGreat.Base Go.Proofs.YtkiloaebokkjbaaGreat.SpanPlain Go.Proofs.YtkiloaebokkjbaaGreat.Sat

theorem info : (Tryz.prog.info? 119).map (fun i => (i.zero, i.size, i.bytes)) = some (some (.agg #[.int .u64 0, .int .u64 0]), 2, 16) := by kernel_rfl
theorem valid_any (s : Sp) (w : World) :
    Calls Tryz.prog 131 #[.agg #[.int .u64 s.1, .int .u64 s.2]] w fun e w' => e = .returned (.bool (ok s)) ∧ Below w.heap.size w w' := by
  obtain ⟨x, y⟩ := s
  simp only
  by_cases h : x ≤ y
  · have H := Lib.hid (show ok (x, y) = decide (y ≤ 4611686018427387903) by unfold ok M; simp [h])
    go_enter Tryz.func131, Tryz.ntmps131
    go_wp2
    all_goals go_ret
    all_goals exact ⟨ret_bool H.out.symm, (Below.refl _ _).alloc (Nat.le_refl _) _⟩
  · have H := Lib.hid (show ok (x, y) = false by unfold ok; simp [h])
    go_enter Tryz.func131, Tryz.ntmps131
    go_wp2
    all_goals go_ret
    all_goals exact ⟨ret_bool H.out.symm, (Below.refl _ _).alloc (Nat.le_refl _) _⟩
theorem add_one {x : Int} (h0 : 0 ≤ x) (h1 : x ≤ 4611686018427387903) (w : World) :
    Calls Tryz.prog 104 #[.int .u64 x, .int .u64 1] w fun e w' => e = .returned (.int .u64 (x + 1)) ∧ w = w' :=
  (add_any x 1 h0 (by omega) (by decide) (by decide) w).mono fun e w' ⟨he, hw⟩ => ⟨by rw [he]; exact Base.ret_u64 (by unfold add; split <;> omega), hw⟩
theorem apart_any (a b : Sp) (h0 : 0 ≤ a.2) (h1 : a.2 ≤ 4611686018427387903) (w : World) :
    Calls Tryz.prog 132 #[.agg #[.int .u64 a.1, .int .u64 a.2], .agg #[.int .u64 b.1, .int .u64 b.2]] w fun e w' => e = .returned (.bool (ap a b)) ∧ Below w.heap.size w w' := by
  obtain ⟨x, y⟩ := a
  obtain ⟨u, v⟩ := b
  simp only at *
  have H := Lib.hid (show ap (x, y) (u, v) = decide (y + 1 < u) from rfl)
  go_enter Tryz.func132, Tryz.ntmps132
  go_wp2
  go_region_with (go_at_call 104; refine (add_one h0 h1 _).mono ?_; rintro e w' ⟨rfl, rfl⟩)
  all_goals go_wp2
  all_goals go_ret
  all_goals exact ⟨ret_bool H.out.symm, Base.drew1 (((Below.refl _ _).alloc (Nat.le_refl _) _).alloc (by simp) _)⟩
set_option maxHeartbeats 2000000 in
theorem good_any (a : Option Addr) (n cap : Nat) (l : List Sp) (w : World) (hn : l.length = n) (hm : n ≤ 140737488355328) (hf : Fits l) (hz : Spans w a l) :
    Calls Tryz.prog 115 #[.slice a n cap] w fun e w' => e = .returned (.bool (good l)) ∧ Below w.heap.size w w' := by
  subst hn
  go_enter Tryz.func115, Tryz.ntmps115
  go_wp2
  go_loopw [7] (fun i wr => ∃ k : Nat, k ≤ l.length ∧ i = .int .i64 k ∧ good (l.take k) = true ∧ Below w.heap.size w wr) (fun i _ => l.length - (intOf i).toNat)
  case atStart => exact ⟨0, Nat.zero_le _, rfl, rfl, Below.refl _ _⟩
  case round =>
    obtain ⟨k, hk, rfl, hg, hL⟩ := hrel
    by_cases hlt : k < l.length
    · obtain ⟨b, off, rfl, hb, c0, c1⟩ := (hz.below hL).at_ hlt
      have hG := Lib.hid (good_take hf hlt)
      have hS := Lib.hid (good_stop hf hlt)
      have hN := Lib.hid (show nextOk l k = (ok (l.getD k (0, 0)) && (decide (k = 0) || ap (l.getD (k - 1) (0, 0)) (l.getD k (0, 0)))) from rfl)
      have hG1 := Lib.hid hg
      clear hg
      by_cases hk0 : k = 0
      · subst hk0
        generalize l.getD 0 (0, 0) = s at *
        simp only [Nat.zero_mul, Nat.add_zero, Nat.zero_add] at c0 c1
        obtain ⟨d0, d1, hsz, hL1, hkeep⟩ := boxed hL hL.size (.int .u64 s.1) (.int .u64 s.2) 119
        cases ho : ok s with
        | false =>
          go_wp2
          generalize hW : wr.alloc (Obj.cells #[Value.int IntKind.u64 s.1, Value.int IntKind.u64 s.2] 119) = W at *
          refine wp_region_in (Lt W) (Lt.drew W) (by kernel_rfl) (by kernel_rfl) ?_
          have e0 := fun p : In (Lt W) => p.cell d0
          have e1 := fun p : In (Lt W) => p.cell d1
          repeat (go_big_quiet_step (((go_at_call 131; refine in_below (v := .bool false) ?_; rw [← ho]; exact valid_any _ _))))
          refine wpQuiet_nil ?_
          rintro _ ⟨⟨w1, hw1⟩, rfl⟩
          go_wp2
          go_ret
          exact ⟨ret_bool (hS.out (by rw [hN.out, ho]; rfl)).symm, hL1.trans (hw1.mono (by have := hL1.size; omega))⟩
        | true =>
          go_wp2
          generalize hW : wr.alloc (Obj.cells #[Value.int IntKind.u64 s.1, Value.int IntKind.u64 s.2] 119) = W at *
          refine wp_region_in (Lt W) (Lt.drew W) (by kernel_rfl) (by kernel_rfl) ?_
          have e0 := fun p : In (Lt W) => p.cell d0
          have e1 := fun p : In (Lt W) => p.cell d1
          repeat (go_big_quiet_step (((go_at_call 131; refine in_below (v := .bool true) ?_; rw [← ho]; exact valid_any _ _))))
          refine wpQuiet_nil ?_
          rintro _ ⟨⟨w1, hw1⟩, rfl⟩
          go_wp2
          go_roundw
          case rel => exact ⟨0 + 1, by omega, by go_num, by rw [hG.out, hG1.out, hN.out, ho]; rfl, hL1.trans (hw1.mono (by have := hL1.size; omega))⟩
          case measure => simp [intOf]; omega
      · obtain ⟨j, rfl⟩ : ∃ j, k = j + 1 := ⟨k - 1, by omega⟩
        obtain ⟨b', off', e, hb', c2, c3⟩ := (hz.below hL).at_ (i := j) (by omega)
        cases e
        have hq : ok (l.getD j (0, 0)) = true := by
          have h1 := hG1.out
          rw [good_take hf (by omega : j < l.length)] at h1
          unfold nextOk at h1
          simp only [Bool.and_eq_true] at h1
          exact h1.2.1
        rw [Nat.add_sub_cancel] at hN
        have q0 := (hf.get (show j < l.length by omega)).2.1
        have q1 := (ok_iff.1 hq).2
        clear hq
        generalize l.getD (j + 1) (0, 0) = s at *
        generalize l.getD j (0, 0) = q at *
        obtain ⟨d0, d1, hsz, hL1, hkeep⟩ := boxed hL hL.size (.int .u64 s.1) (.int .u64 s.2) 119
        have d2 := (hkeep _ _ _ c2).1
        have d3 := (hkeep _ _ _ c3).1
        clear hkeep hsz
        cases ho : ok s with
        | false =>
          go_wp2
          generalize hW : wr.alloc (Obj.cells #[Value.int IntKind.u64 s.1, Value.int IntKind.u64 s.2] 119) = W at *
          refine wp_region_in (Lt W) (Lt.drew W) (by kernel_rfl) (by kernel_rfl) ?_
          have e0 := fun p : In (Lt W) => p.cell d0
          have e1 := fun p : In (Lt W) => p.cell d1
          repeat (go_big_quiet_step (((go_at_call 131; refine in_below (v := .bool false) ?_; rw [← ho]; exact valid_any _ _))))
          refine wpQuiet_nil ?_
          rintro _ ⟨⟨w1, hw1⟩, rfl⟩
          go_wp2
          go_ret
          exact ⟨ret_bool (hS.out (by rw [hN.out, ho]; rfl)).symm, hL1.trans (hw1.mono (by have := hL1.size; omega))⟩
        | true =>
          cases hap : ap q s with
          | false =>
            go_wp2
            generalize hW : wr.alloc (Obj.cells #[Value.int IntKind.u64 s.1, Value.int IntKind.u64 s.2] 119) = W at *
            refine wp_region_in (Lt W) (Lt.drew W) (by kernel_rfl) (by kernel_rfl) ?_
            have e0 := fun p : In (Lt W) => p.cell d0
            have e1 := fun p : In (Lt W) => p.cell d1
            have e2 := fun p : In (Lt W) => p.cell d2
            have e3 := fun p : In (Lt W) => p.cell d3
            repeat (go_big_quiet_step ((first | (go_at_call 131; refine in_below (v := .bool true) ?_; rw [← ho]; exact valid_any _ _) | (go_at_call 132; refine in_below (v := .bool false) ?_; rw [← hap]; exact apart_any q s q0 q1 _))))
            refine wpQuiet_nil ?_
            rintro _ ⟨⟨w1, hw1⟩, rfl⟩
            go_wp2
            go_ret
            exact ⟨ret_bool (hS.out (by rw [hN.out, ho, hap]; simp)).symm, hL1.trans (hw1.mono (by have := hL1.size; omega))⟩
          | true =>
            go_wp2
            generalize hW : wr.alloc (Obj.cells #[Value.int IntKind.u64 s.1, Value.int IntKind.u64 s.2] 119) = W at *
            refine wp_region_in (Lt W) (Lt.drew W) (by kernel_rfl) (by kernel_rfl) ?_
            have e0 := fun p : In (Lt W) => p.cell d0
            have e1 := fun p : In (Lt W) => p.cell d1
            have e2 := fun p : In (Lt W) => p.cell d2
            have e3 := fun p : In (Lt W) => p.cell d3
            repeat (go_big_quiet_step ((first | (go_at_call 131; refine in_below (v := .bool true) ?_; rw [← ho]; exact valid_any _ _) | (go_at_call 132; refine in_below (v := .bool true) ?_; rw [← hap]; exact apart_any q s q0 q1 _))))
            refine wpQuiet_nil ?_
            rintro _ ⟨⟨w1, hw1⟩, rfl⟩
            go_wp2
            go_roundw
            case rel => exact ⟨j + 1 + 1, by omega, by go_num, by rw [hG.out, hG1.out, hN.out, ho, hap]; simp, hL1.trans (hw1.mono (by have := hL1.size; omega))⟩
            case measure => simp [intOf]; omega
    · obtain rfl : k = l.length := by omega
      rw [List.take_of_length_le (Nat.le_refl _)] at hg
      go_wp2
      go_ret
      exact ⟨ret_bool hg.symm, hL⟩
end Go.Proofs.YtkiloaebokkjbaaGreat.Span
