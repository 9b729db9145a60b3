/-
  The contract of the reference's AddSpan.
-/
import Derived.Test.YtlnncfjfphkkdaaSpanOwn
import Derived.WalkSpells
import Derived.LoopTactic
import Derived.Lib.Hide
import Derived.BigQuiet
import Derived.Deep.QuietTactic
import Derived.Deep.RegionWith
import Derived.Deep.DeepCutAuto
import Derived.Deep.RegionLaw
import Derived.Outline
set_option linter.unusedSimpArgs false
set_option linter.unusedVariables false
namespace Go.Proofs.Ytlnncfjfphkkdaa.SpanRef
set_option linter.unusedVariables false
set_option maxRecDepth 20000
open Go.ChangeShapes Go.WideShapes Go.ChangeAt Go.RowKit
open Go.Proofs.Ytlnncfjfphkkdaa.Base Go.Proofs.Ytlnncfjfphkkdaa.SpanPlain

set_option maxHeartbeats 4000000 in
theorem ref_add (a : Option Addr) (n cap : Nat) (l : List Sp) (s : Sp) (w : World) (hn : l.length = n) (hcap : n ≤ cap) (hm : n ≤ 8796093021952) (hnil : a = none → n = 0 ∧ cap = 0) (hg : good l = true) (h0 : 0 ≤ s.1) (h1 : s.1 ≤ s.2) (h2 : s.2 ≤ 4611686018427387903) (hz : Spans w a l) :
    Calls Try.prog 54 #[.slice a n cap, .agg #[.int .u64 s.1, .int .u64 s.2]] w fun e w' => ∃ v, e = .returned v ∧ Own w.heap.size w' v (addS l s) ∧ Below w.heap.size w w' := by
  subst hn
  obtain ⟨p, q⟩ := s
  simp only at h0 h1 h2 ⊢
  obtain ⟨i0, hi0, hz0, hz1, hz2⟩ := info_parts info
  go_enter Try.func54, Try.ntmps54
  go_wp2
  go_loopw [5, 6] (fun o i wr => ∃ k : Nat, k ≤ l.length ∧ i = .int .i64 k ∧ Own (w.heap.size + 1) wr o (l.take k) ∧ addS l (p, q) = l.take k ++ addS (l.drop k) (p, q) ∧ Below w.heap.size w wr ∧ Blk wr w.heap.size #[.int .u64 p, .int .u64 q] 53) (fun _ i _ => l.length - (intOf i).toNat)
  case atStart => exact ⟨0, Nat.zero_le _, rfl, Own.nil _ _, rfl, (Below.refl _ _).alloc (Nat.le_refl _) _, Blk.new _ _ _⟩
  case round =>
    obtain ⟨k, hk, rfl, hown, hadd, hL, hB⟩ := hrel
    have b0 : wr.cell? ⟨w.heap.size, 0, none⟩ = some (.int .u64 p) := hB.cell 0
    have b1 : wr.cell? ⟨w.heap.size, 1, none⟩ = some (.int .u64 q) := hB.cell 1
    have hgb : w.heap.size < wr.heap.size := hB.lt
    have hne := hown.ne (g := w.heap.size) (.inr (by omega))
    have HA := Lib.hid hadd
    clear hadd
    by_cases hc : k < l.length ∧ (l.getD k (0, 0)).2 + 1 < p
    · obtain ⟨hlt, hc⟩ := hc
      obtain ⟨b, off, rfl, hb, c0, c1⟩ := (hz.below hL).at_ hlt
      have HT := Lib.hid (add_step (s := (p, q)) hlt hc HA.out)
      have HK := Lib.hid (take_snoc hlt)
      have h3 := good_last hg (l.getD k (0, 0)) (by simp [List.getD, hlt])
      unfold M at h3
      generalize l.getD k (0, 0) = c at *
      obtain ⟨x, y⟩ := c
      simp only at c0 c1 h3 hc
      obtain ⟨x0, x1, x2⟩ := h3
      have t1 : decide (y + 1 < p) = true := by simpa using hc
      have hlen : (l.take k).length ≤ k := by rw [List.length_take]; omega
      go_wp2
      go_quiet (fail)
      have hown' := hown.drewN nq
      have hL' := Base.drawn hL nq
      have hB' : Blk (wr.drewN nq) w.heap.size #[.int .u64 p, .int .u64 q] 53 := hB
      have c0' : (wr.drewN nq).cell? ⟨b, off + k * 2, none⟩ = _ := c0
      have c1' : (wr.drewN nq).cell? ⟨b, off + k * 2 + 1, none⟩ = _ := c1
      generalize wr.drewN nq = wq at *
      have hgb' : w.heap.size + 1 ≤ wq.heap.size := hB'.lt
      go_wp2_with (at_builtin; refine wpl_add (x := x) (y := y) rfl (.tmp 22) (.tmp 27) rfl rfl hown' rfl (by simp) (by omega) hgb' ?_; intro v3 w3 A3; have A3h := Lib.hid A3; have gs := A3.size; clear A3)
      go_roundw
      case rel => exact ⟨k + 1, by omega, by go_num, by rw [HK.out]; exact A3h.out.own, HT.out, A3h.out.below hL' (by omega), A3h.out.blk hB' hne⟩
      case measure => simp [intOf]; omega
    · have hstop := Lib.hid (add_stop (l := l) (k := k) (s := (p, q)) (by
        rcases Nat.lt_or_ge k l.length with h | h
        · exact .inr ⟨h, fun h' => hc ⟨h, h'⟩⟩
        · exact .inl (by omega)))
      have hgo : (k < l.length ∧ ∃ b off x y, a = some ⟨b, off, none⟩ ∧ wr.cell? ⟨b, off + k * 2, none⟩ = some (.int .u64 x) ∧ wr.cell? ⟨b, off + k * 2 + 1, none⟩ = some (.int .u64 y) ∧ 0 ≤ y ∧ y ≤ 4611686018427387903 ∧ ¬ y + 1 < p) ∨ k = l.length := by
        rcases Nat.lt_or_ge k l.length with h | h
        · obtain ⟨b, off, e, hb, c0, c1⟩ := (hz.below hL).at_ h
          have h3 := good_last hg (l.getD k (0, 0)) (by simp [List.getD, h])
          unfold M at h3
          exact .inl ⟨h, b, off, _, _, e, c0, c1, by omega, by omega, fun h' => hc ⟨h, h'⟩⟩
        · exact .inr (by omega)
      clear hc
      rcases hgo with ⟨hlt, b, off, x, y, rfl, c0, c1, y0, y1, hc⟩ | hkl
      · have t1 : decide (y + 1 < p) = false := by simpa using hc
        go_wp2
        go_quiet (fail)
        have hown' := hown.drewN nq
        have hL' := Base.drawn hL nq
        have hB' : Blk (wr.drewN nq) w.heap.size #[.int .u64 p, .int .u64 q] 53 := hB
        clear c0 c1 b0 b1
        generalize wr.drewN nq = wq at *
        go_wp2
        go_loopw [6] (fun i wr => ∃ j : Nat, k ≤ j ∧ j ≤ l.length ∧ i = .int .i64 j ∧ ∃ u v : Int, 0 ≤ u ∧ u ≤ v ∧ v ≤ 4611686018427387903 ∧ merge (l.drop k) (p, q) = merge (l.drop j) (u, v) ∧ Own (w.heap.size + 1) wr u5 (l.take k) ∧ Below w.heap.size w wr ∧ Blk wr w.heap.size #[.int .u64 u, .int .u64 v] 53) (fun i _ => l.length - (intOf i).toNat)
        case atStart => exact ⟨k, Nat.le_refl _, hk, rfl, p, q, h0, h1, h2, rfl, hown', hL', hB'⟩
        case round =>
          obtain ⟨j, hkj, hj, rfl, u, v, u0, uv, v1, hmm, hown2, hL2, hF⟩ := hrel
          have MM := Lib.hid hmm
          clear hmm hown hown' hB hB'
          by_cases hc2 : j < l.length ∧ (l.getD j (0, 0)).1 ≤ v + 1
          · obtain ⟨hjl, hc2⟩ := hc2
            obtain ⟨b2, off2, e2, hb2, d0, d1⟩ := hz.at_ hjl
            cases e2
            have HM := Lib.hid (merge_step (s := (u, v)) hjl hc2)
            have h3 := good_last hg (l.getD j (0, 0)) (by simp [List.getD, hjl])
            unfold M at h3
            generalize l.getD j (0, 0) = c at *
            obtain ⟨x2, y2⟩ := c
            simp only at d0 d1 h3 hc2
            obtain ⟨z0, z1, z2⟩ := h3
            have g0 := keep_cell hL2 d0
            have g1 := keep_cell hL2 d1
            have f0 : wr.cell? ⟨w.heap.size, 0, none⟩ = some (.int .u64 u) := hF.cell 0
            have f1 : wr.cell? ⟨w.heap.size, 1, none⟩ = some (.int .u64 v) := hF.cell 1
            have r0 : wr.frozen? ⟨w.heap.size, 0, none⟩ = false := hF.free 0
            have r1 : wr.frozen? ⟨w.heap.size, 1, none⟩ = false := hF.free 1
            have t1 : decide (x2 ≤ v + 1) = true := by simpa using hc2
            have emin : (if x2 < u then x2 else u) = min u x2 := by split <;> omega
            have emax : (if v < y2 then y2 else v) = max v y2 := by split <;> omega
            go_wp2
            go_quiet (fail)
            go_wp2
            go_region
            all_goals go_wp2
            all_goals go_region
            all_goals go_wp2
            all_goals go_roundw
            all_goals first
              | (simp [intOf]; omega)
              | exact ⟨j + 1, by omega, by omega, by go_num, min u x2, max v y2, by omega, by omega, by omega, by rw [MM.out, HM.out], hown2.drewN (nq + 1) |>.setCell (by simp) _ |>.setCell (by simp) _ |>.drew, Base.drew1 (((Base.drawn hL2 (nq + 1)).setCell (by simp) _).setCell (by simp) _), (((show Blk (wr.drewN (nq + 1)) w.heap.size #[.int .u64 u, .int .u64 v] 53 from hF).set 0 _).set 1 _).drew⟩
              | (trace_state; fail)
          · have f0 : wr.cell? ⟨w.heap.size, 0, none⟩ = some (.int .u64 u) := hF.cell 0
            have f1 : wr.cell? ⟨w.heap.size, 1, none⟩ = some (.int .u64 v) := hF.cell 1
            have HEND := Lib.hid (merge_stop (l := l) (j := j) (s := (u, v)) (by
              rcases Nat.lt_or_ge j l.length with h | h
              · exact .inr ⟨h, fun h' => hc2 ⟨h, h'⟩⟩
              · exact .inl (by omega)))
            have HRES := Lib.hid (show addS l (p, q) = l.take k ++ [(u, v)] ++ l.drop j by
              rw [HA.out, hstop.out, MM.out, HEND.out, List.append_assoc]
              rfl)
            have hlk : (l.take k).length ≤ k := by rw [List.length_take]; omega
            have hlk2 : (l.take k ++ [(u, v)]).length ≤ k + 1 := by rw [List.length_append, List.length_singleton]; omega
            by_cases hjl : j < l.length
            · obtain ⟨b2, off2, e2, hb2, d0, d1⟩ := hz.at_ hjl
              cases e2
              have hc3 : ¬ (l.getD j (0, 0)).1 ≤ v + 1 := fun h => hc2 ⟨hjl, h⟩
              clear hc2
              have hzd := hz.drop j
              have hct : ¬ cap = j := by omega
              have hld : (flat (l.drop j)).length = (l.length - j) * 2 := by rw [flat_len, List.length_drop]
              have HLD2 := Lib.hid (show (l.drop j).length = l.length - j from List.length_drop)
              generalize l.getD j (0, 0) = c at *
              obtain ⟨x2, y2⟩ := c
              simp only at d0 d1 hc3
              have g0 := keep_cell hL2 d0
              have g1 := keep_cell hL2 d1
              have t1 : decide (x2 ≤ v + 1) = false := by simpa using hc3
              go_wp2
              go_quiet (fail)
              have hown3 := hown2.drewN nq
              have hL3 := Base.drawn hL2 nq
              have hF3 : Blk (wr.drewN nq) w.heap.size #[.int .u64 u, .int .u64 v] 53 := hF
              have m0 := hF3.cell 0
              have m1 := hF3.cell 1
              generalize wr.drewN nq = wq3 at *
              have hgb3 : w.heap.size + 1 ≤ wq3.heap.size := hF3.lt
              go_wp2_with (first | (at_builtin; refine wpl_add (x := u) (y := v) rfl (.tmp 66) (.tmp 68) rfl rfl hown3 rfl (by simp) (by omega) hgb3 ?_; intro v3 w3 A3; have A3h := Lib.hid A3; have gs := A3.size; clear A3) | (at_builtin; refine wpl_append_row _ rfl (.tmp 70) (.tmp 73) _ rfl (w.heap.size + 1) 53 i0 _ 2 16 Try.underlying23 hi0 hz0 hz1 hz2 rfl (by omega) v3 (l.take k ++ [(u, v)]).length (flat (l.take k ++ [(u, v)])) rfl A3h.out.own _ _ _ (flat (l.drop j)) rfl hld (Row.below hzd (A3h.out.below hL3 (Nat.le_succ _))) (flat_one _) (by unfold maxLen; omega) (by omega) (by omega) ?_; intro v4 w4 hown4 hg4 hat4; have X := Lib.hid (own_all (m := (l.drop j)) HLD2.out hown4); have Y := Lib.hid ((A3h.out.below hL3 (Nat.le_succ _)).grown hg4 (by omega) (fun g hg => Nat.le_of_succ_le (World.ownsRow.lt A3h.out.own g hg).1)); clear hown4))
              go_ret
              exact ⟨_, rfl, by rw [HRES.out]; exact X.out.mono (Nat.le_succ _), Y.out⟩
            · clear hc2
              have hjl2 : decide (j < l.length) = false := by simp; omega
              have HDR := Lib.hid (show l.drop j = [] from List.drop_eq_nil_of_le (by omega))
              have HRES2 := Lib.hid (show addS l (p, q) = l.take k ++ [(u, v)] ++ [] by rw [HRES.out, HDR.out])
              have hmj : l.length - j = 0 := by omega
              by_cases hcj : cap = j
              · go_wp2
                go_quiet (fail)
                have hown3 := hown2.drewN nq
                have hL3 := Base.drawn hL2 nq
                have hF3 : Blk (wr.drewN nq) w.heap.size #[.int .u64 u, .int .u64 v] 53 := hF
                have m0 := hF3.cell 0
                have m1 := hF3.cell 1
                generalize wr.drewN nq = wq3 at *
                have hgb3 : w.heap.size + 1 ≤ wq3.heap.size := hF3.lt
                go_wp2_with (first | (at_builtin; refine wpl_add (x := u) (y := v) rfl (.tmp 66) (.tmp 68) rfl rfl hown3 rfl (by simp) (by omega) hgb3 ?_; intro v3 w3 A3; have A3h := Lib.hid A3; have gs := A3.size; clear A3) | (at_builtin; refine wpl_append_row _ rfl (.tmp 70) (.tmp 73) _ rfl (w.heap.size + 1) 53 i0 _ 2 16 Try.underlying23 hi0 hz0 hz1 hz2 rfl (by omega) v3 (l.take k ++ [(u, v)]).length (flat (l.take k ++ [(u, v)])) rfl A3h.out.own _ _ _ (flat []) rfl (by simp [flat_nil]) (Row.nil _ _) (flat_one _) (by unfold maxLen; omega) (by omega) (by omega) ?_; intro v4 w4 hown4 hg4 hat4; have X := Lib.hid (own_all (m := []) rfl hown4); have Y := Lib.hid ((A3h.out.below hL3 (Nat.le_succ _)).grown hg4 (by omega) (fun g hg => Nat.le_of_succ_le (World.ownsRow.lt A3h.out.own g hg).1)); clear hown4))
                go_ret
                exact ⟨_, rfl, by rw [HRES2.out]; exact X.out.mono (Nat.le_succ _), Y.out⟩
              · go_wp2
                go_quiet (fail)
                have hown3 := hown2.drewN nq
                have hL3 := Base.drawn hL2 nq
                have hF3 : Blk (wr.drewN nq) w.heap.size #[.int .u64 u, .int .u64 v] 53 := hF
                have m0 := hF3.cell 0
                have m1 := hF3.cell 1
                generalize wr.drewN nq = wq3 at *
                have hgb3 : w.heap.size + 1 ≤ wq3.heap.size := hF3.lt
                go_wp2_with (first | (at_builtin; refine wpl_add (x := u) (y := v) rfl (.tmp 66) (.tmp 68) rfl rfl hown3 rfl (by simp) (by omega) hgb3 ?_; intro v3 w3 A3; have A3h := Lib.hid A3; have gs := A3.size; clear A3) | (at_builtin; refine wpl_append_row _ rfl (.tmp 70) (.tmp 73) _ rfl (w.heap.size + 1) 53 i0 _ 2 16 Try.underlying23 hi0 hz0 hz1 hz2 rfl (by omega) v3 (l.take k ++ [(u, v)]).length (flat (l.take k ++ [(u, v)])) rfl A3h.out.own _ _ _ (flat []) rfl (by simp [flat_nil]) (Row.nil _ _) (flat_one _) (by unfold maxLen; omega) (by omega) (by omega) ?_; intro v4 w4 hown4 hg4 hat4; have X := Lib.hid (own_all (m := []) rfl hown4); have Y := Lib.hid ((A3h.out.below hL3 (Nat.le_succ _)).grown hg4 (by omega) (fun g hg => Nat.le_of_succ_le (World.ownsRow.lt A3h.out.own g hg).1)); clear hown4))
                go_ret
                exact ⟨_, rfl, by rw [HRES2.out]; exact X.out.mono (Nat.le_succ _), Y.out⟩
      · clear b0 b1
        have hge : decide (k < l.length) = false := by simp; omega
        have HKL := Lib.hid hkl
        clear hkl
        go_wp2
        go_quiet (fail)
        have hown' := hown.drewN nq
        have hL' := Base.drawn hL nq
        have hB' : Blk (wr.drewN nq) w.heap.size #[.int .u64 p, .int .u64 q] 53 := hB
        generalize wr.drewN nq = wq at *
        go_wp2
        go_loopw [6] (fun i wr => ∃ j : Nat, k ≤ j ∧ j ≤ l.length ∧ i = .int .i64 j ∧ ∃ u v : Int, 0 ≤ u ∧ u ≤ v ∧ v ≤ 4611686018427387903 ∧ merge (l.drop k) (p, q) = merge (l.drop j) (u, v) ∧ Own (w.heap.size + 1) wr u5 (l.take k) ∧ Below w.heap.size w wr ∧ Blk wr w.heap.size #[.int .u64 u, .int .u64 v] 53) (fun i _ => l.length - (intOf i).toNat)
        case atStart => exact ⟨k, Nat.le_refl _, hk, rfl, p, q, h0, h1, h2, rfl, hown', hL', hB'⟩
        case round =>
          obtain ⟨j, hkj, hj, rfl, u, v, u0, uv, v1, hmm, hown2, hL2, hF⟩ := hrel
          have MM := Lib.hid hmm
          clear hmm hown hown' hB hB'
          by_cases hc2 : j < l.length ∧ (l.getD j (0, 0)).1 ≤ v + 1
          · obtain ⟨hjl, hc2⟩ := hc2
            obtain ⟨b2, off2, e2, hb2, d0, d1⟩ := hz.at_ hjl
            cases e2
            have HM := Lib.hid (merge_step (s := (u, v)) hjl hc2)
            have h3 := good_last hg (l.getD j (0, 0)) (by simp [List.getD, hjl])
            unfold M at h3
            generalize l.getD j (0, 0) = c at *
            obtain ⟨x2, y2⟩ := c
            simp only at d0 d1 h3 hc2
            obtain ⟨z0, z1, z2⟩ := h3
            have g0 := keep_cell hL2 d0
            have g1 := keep_cell hL2 d1
            have f0 : wr.cell? ⟨w.heap.size, 0, none⟩ = some (.int .u64 u) := hF.cell 0
            have f1 : wr.cell? ⟨w.heap.size, 1, none⟩ = some (.int .u64 v) := hF.cell 1
            have r0 : wr.frozen? ⟨w.heap.size, 0, none⟩ = false := hF.free 0
            have r1 : wr.frozen? ⟨w.heap.size, 1, none⟩ = false := hF.free 1
            have t1 : decide (x2 ≤ v + 1) = true := by simpa using hc2
            have emin : (if x2 < u then x2 else u) = min u x2 := by split <;> omega
            have emax : (if v < y2 then y2 else v) = max v y2 := by split <;> omega
            go_wp2
            go_quiet (fail)
            go_wp2
            go_region
            all_goals go_wp2
            all_goals go_region
            all_goals go_wp2
            all_goals go_roundw
            all_goals first
              | (simp [intOf]; omega)
              | exact ⟨j + 1, by omega, by omega, by go_num, min u x2, max v y2, by omega, by omega, by omega, by rw [MM.out, HM.out], hown2.drewN (nq + 1) |>.setCell (by simp) _ |>.setCell (by simp) _ |>.drew, Base.drew1 (((Base.drawn hL2 (nq + 1)).setCell (by simp) _).setCell (by simp) _), (((show Blk (wr.drewN (nq + 1)) w.heap.size #[.int .u64 u, .int .u64 v] 53 from hF).set 0 _).set 1 _).drew⟩
              | (trace_state; fail)
          · have f0 : wr.cell? ⟨w.heap.size, 0, none⟩ = some (.int .u64 u) := hF.cell 0
            have f1 : wr.cell? ⟨w.heap.size, 1, none⟩ = some (.int .u64 v) := hF.cell 1
            have HEND := Lib.hid (merge_stop (l := l) (j := j) (s := (u, v)) (by
              rcases Nat.lt_or_ge j l.length with h | h
              · exact .inr ⟨h, fun h' => hc2 ⟨h, h'⟩⟩
              · exact .inl (by omega)))
            have HRES := Lib.hid (show addS l (p, q) = l.take k ++ [(u, v)] ++ l.drop j by
              rw [HA.out, hstop.out, MM.out, HEND.out, List.append_assoc]
              rfl)
            have hlk : (l.take k).length ≤ k := by rw [List.length_take]; omega
            have hlk2 : (l.take k ++ [(u, v)]).length ≤ k + 1 := by rw [List.length_append, List.length_singleton]; omega
            by_cases hjl : j < l.length
            · obtain ⟨b2, off2, e2, hb2, d0, d1⟩ := hz.at_ hjl
              cases e2
              have hc3 : ¬ (l.getD j (0, 0)).1 ≤ v + 1 := fun h => hc2 ⟨hjl, h⟩
              clear hc2
              have hzd := hz.drop j
              have hct : ¬ cap = j := by omega
              have hld : (flat (l.drop j)).length = (l.length - j) * 2 := by rw [flat_len, List.length_drop]
              have HLD2 := Lib.hid (show (l.drop j).length = l.length - j from List.length_drop)
              generalize l.getD j (0, 0) = c at *
              obtain ⟨x2, y2⟩ := c
              simp only at d0 d1 hc3
              have g0 := keep_cell hL2 d0
              have g1 := keep_cell hL2 d1
              have t1 : decide (x2 ≤ v + 1) = false := by simpa using hc3
              go_wp2
              go_quiet (fail)
              have hown3 := hown2.drewN nq
              have hL3 := Base.drawn hL2 nq
              have hF3 : Blk (wr.drewN nq) w.heap.size #[.int .u64 u, .int .u64 v] 53 := hF
              have m0 := hF3.cell 0
              have m1 := hF3.cell 1
              generalize wr.drewN nq = wq3 at *
              have hgb3 : w.heap.size + 1 ≤ wq3.heap.size := hF3.lt
              go_wp2_with (first | (at_builtin; refine wpl_add (x := u) (y := v) rfl (.tmp 66) (.tmp 68) rfl rfl hown3 rfl (by simp) (by omega) hgb3 ?_; intro v3 w3 A3; have A3h := Lib.hid A3; have gs := A3.size; clear A3) | (at_builtin; refine wpl_append_row _ rfl (.tmp 70) (.tmp 73) _ rfl (w.heap.size + 1) 53 i0 _ 2 16 Try.underlying23 hi0 hz0 hz1 hz2 rfl (by omega) v3 (l.take k ++ [(u, v)]).length (flat (l.take k ++ [(u, v)])) rfl A3h.out.own _ _ _ (flat (l.drop j)) rfl hld (Row.below hzd (A3h.out.below hL3 (Nat.le_succ _))) (flat_one _) (by unfold maxLen; omega) (by omega) (by omega) ?_; intro v4 w4 hown4 hg4 hat4; have X := Lib.hid (own_all (m := (l.drop j)) HLD2.out hown4); have Y := Lib.hid ((A3h.out.below hL3 (Nat.le_succ _)).grown hg4 (by omega) (fun g hg => Nat.le_of_succ_le (World.ownsRow.lt A3h.out.own g hg).1)); clear hown4))
              go_ret
              exact ⟨_, rfl, by rw [HRES.out]; exact X.out.mono (Nat.le_succ _), Y.out⟩
            · clear hc2
              have hjl2 : decide (j < l.length) = false := by simp; omega
              have HDR := Lib.hid (show l.drop j = [] from List.drop_eq_nil_of_le (by omega))
              have HRES2 := Lib.hid (show addS l (p, q) = l.take k ++ [(u, v)] ++ [] by rw [HRES.out, HDR.out])
              have hmj : l.length - j = 0 := by omega
              by_cases hcj : cap = j
              · go_wp2
                go_quiet (fail)
                have hown3 := hown2.drewN nq
                have hL3 := Base.drawn hL2 nq
                have hF3 : Blk (wr.drewN nq) w.heap.size #[.int .u64 u, .int .u64 v] 53 := hF
                have m0 := hF3.cell 0
                have m1 := hF3.cell 1
                generalize wr.drewN nq = wq3 at *
                have hgb3 : w.heap.size + 1 ≤ wq3.heap.size := hF3.lt
                go_wp2_with (first | (at_builtin; refine wpl_add (x := u) (y := v) rfl (.tmp 66) (.tmp 68) rfl rfl hown3 rfl (by simp) (by omega) hgb3 ?_; intro v3 w3 A3; have A3h := Lib.hid A3; have gs := A3.size; clear A3) | (at_builtin; refine wpl_append_row _ rfl (.tmp 70) (.tmp 73) _ rfl (w.heap.size + 1) 53 i0 _ 2 16 Try.underlying23 hi0 hz0 hz1 hz2 rfl (by omega) v3 (l.take k ++ [(u, v)]).length (flat (l.take k ++ [(u, v)])) rfl A3h.out.own _ _ _ (flat []) rfl (by simp [flat_nil]) (Row.nil _ _) (flat_one _) (by unfold maxLen; omega) (by omega) (by omega) ?_; intro v4 w4 hown4 hg4 hat4; have X := Lib.hid (own_all (m := []) rfl hown4); have Y := Lib.hid ((A3h.out.below hL3 (Nat.le_succ _)).grown hg4 (by omega) (fun g hg => Nat.le_of_succ_le (World.ownsRow.lt A3h.out.own g hg).1)); clear hown4))
                go_ret
                exact ⟨_, rfl, by rw [HRES2.out]; exact X.out.mono (Nat.le_succ _), Y.out⟩
              · obtain ⟨ad, rfl⟩ : ∃ ad, a = some ad := by
                  cases a with
                  | none => exact absurd (hnil rfl) (by omega)
                  | some ad => exact ⟨ad, rfl⟩
                go_wp2
                go_quiet (fail)
                have hown3 := hown2.drewN nq
                have hL3 := Base.drawn hL2 nq
                have hF3 : Blk (wr.drewN nq) w.heap.size #[.int .u64 u, .int .u64 v] 53 := hF
                have m0 := hF3.cell 0
                have m1 := hF3.cell 1
                generalize wr.drewN nq = wq3 at *
                have hgb3 : w.heap.size + 1 ≤ wq3.heap.size := hF3.lt
                go_wp2_with (first | (at_builtin; refine wpl_add (x := u) (y := v) rfl (.tmp 66) (.tmp 68) rfl rfl hown3 rfl (by simp) (by omega) hgb3 ?_; intro v3 w3 A3; have A3h := Lib.hid A3; have gs := A3.size; clear A3) | (at_builtin; refine wpl_append_row _ rfl (.tmp 70) (.tmp 73) _ rfl (w.heap.size + 1) 53 i0 _ 2 16 Try.underlying23 hi0 hz0 hz1 hz2 rfl (by omega) v3 (l.take k ++ [(u, v)]).length (flat (l.take k ++ [(u, v)])) rfl A3h.out.own _ _ _ (flat []) rfl (by simp [flat_nil]) (Row.nil _ _) (flat_one _) (by unfold maxLen; omega) (by omega) (by omega) ?_; intro v4 w4 hown4 hg4 hat4; have X := Lib.hid (own_all (m := []) rfl hown4); have Y := Lib.hid ((A3h.out.below hL3 (Nat.le_succ _)).grown hg4 (by omega) (fun g hg => Nat.le_of_succ_le (World.ownsRow.lt A3h.out.own g hg).1)); clear hown4))
                go_ret
                exact ⟨_, rfl, by rw [HRES2.out]; exact X.out.mono (Nat.le_succ _), Y.out⟩
end Go.Proofs.Ytlnncfjfphkkdaa.SpanRef
