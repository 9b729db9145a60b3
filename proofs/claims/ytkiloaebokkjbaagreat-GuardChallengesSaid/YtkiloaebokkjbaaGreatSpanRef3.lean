/-
  Contracts of the reference's functions that make rows of spans: the last ones, a span more; and which row is within which.
-/
import Derived.Test.YtkiloaebokkjbaaGreatSpanOwn
import Derived.WalkSpells
import Derived.LoopTactic
import Derived.Lib.Hide
import Derived.BigQuiet
import Derived.Deep.QuietTactic
import Derived.Deep.RegionWith
import Derived.Deep.DeepCutAuto
import Derived.Deep.RegionLaw
import Derived.Outline
set_option linter.unusedSimpArgs false
set_option linter.unusedVariables false
namespace Go.Proofs.YtkiloaebokkjbaaGreat.SpanRef
set_option linter.unusedVariables false
set_option maxRecDepth 20000
open Go.ChangeShapes Go.WideShapes Go.ChangeAt Go.RowKit
open Go.Proofs.YtkiloaebokkjbaaGreat.Base Go.Proofs.YtkiloaebokkjbaaGreat.SpanPlain

set_option maxHeartbeats 2000000 in
theorem ref_inside (a b : Option Addr) (n m capa capb : Nat) (l r : List Sp) (w : World) (hn : l.length = n) (hm : r.length = m) (hnb : n ≤ 140737488355328) (hmb : m ≤ 140737488355328) (hz : Spans w a l) (hy : Spans w b r) :
    Calls Tryz.prog 99 #[.slice a n capa, .slice b m capb] w fun e w' => e = .returned (.bool (inside l r)) ∧ Below w.heap.size w w' := by
  subst hn
  subst hm
  go_enter Tryz.func99, Tryz.ntmps99
  go_wp2
  go_loopw [5] (fun i wr => ∃ k : Nat, k ≤ l.length ∧ i = .int .i64 k ∧ inside (l.take k) r = true ∧ Below w.heap.size w wr) (fun i _ => l.length - (intOf i).toNat)
  case atStart => exact ⟨0, Nat.zero_le _, rfl, rfl, Below.refl _ _⟩
  case round =>
    obtain ⟨k, hk, rfl, hg, hL0⟩ := hrel
    by_cases hlt : k < l.length
    · obtain ⟨b1, off1, rfl, hb1, c0, c1⟩ := hz.at_ hlt
      have HI := Lib.hid (inside_take hlt r)
      have HS := Lib.hid (inside_stop (b := r) hlt)
      have hG1 := Lib.hid hg
      clear hg
      generalize l.getD k (0, 0) = s at *
      obtain ⟨x, y⟩ := s
      simp only at c0 c1
      go_wp2
      go_loopw [6, 7] (fun f i wr => ∃ j : Nat, j ≤ r.length ∧ i = .int .i64 j ∧ f = .bool (covers (r.take j) (x, y)) ∧ Below w.heap.size w wr) (fun _ i _ => r.length - (intOf i).toNat)
      case atStart => exact ⟨0, Nat.zero_le _, rfl, rfl, hL0⟩
      case round =>
        obtain ⟨j, hj, rfl, rfl, hL⟩ := hrel
        by_cases hjl : j < r.length
        · obtain ⟨b2, off2, rfl, hb2, c2, c3⟩ := (hy.below hL).at_ hjl
          have d0 := keep_cell hL c0
          have d1 := keep_cell hL c1
          have HC := Lib.hid (covers_take hjl (x, y))
          generalize r.getD j (0, 0) = t at *
          obtain ⟨u, v⟩ := t
          simp only at c2 c3
          generalize hF : covers (r.take j) (x, y) = F at *
          clear hF
          by_cases h1 : u ≤ x
          · have t1 : decide (u ≤ x) = true := by simpa using h1
            by_cases h2 : y ≤ v
            · have t2 : decide (y ≤ v) = true := by simpa using h2
              have HD := Lib.hid (show covers (r.take (j + 1)) (x, y) = true by rw [HC.out]; simp [h1, h2])
              go_wp2
              go_quiet (fail)
              go_wp2
              go_roundw
              case rel => exact ⟨j + 1, by omega, by go_num, by rw [HD.out], Base.drawn hL _⟩
              case measure => simp [intOf]; omega
            · have t2 : decide (y ≤ v) = false := by simpa using h2
              have HD := Lib.hid (show covers (r.take (j + 1)) (x, y) = F by rw [HC.out]; simp [h2])
              go_wp2
              go_quiet (fail)
              go_wp2
              go_roundw
              case rel => exact ⟨j + 1, by omega, by go_num, by rw [HD.out], Base.drawn hL _⟩
              case measure => simp [intOf]; omega
          · have t1 : decide (u ≤ x) = false := by simpa using h1
            have HD := Lib.hid (show covers (r.take (j + 1)) (x, y) = F by rw [HC.out]; simp [h1])
            go_wp2
            go_quiet (fail)
            go_wp2
            go_roundw
            case rel => exact ⟨j + 1, by omega, by go_num, by rw [HD.out], Base.drawn hL _⟩
            case measure => simp [intOf]; omega
        · obtain rfl : j = r.length := by omega
          rw [List.take_of_length_le (Nat.le_refl _)]
          cases hF : covers r (x, y) with
          | true =>
            have HD := Lib.hid (show inside (l.take (k + 1)) r = true by rw [HI.out, hG1.out, hF]; rfl)
            go_wp2
            go_roundw
            case rel => exact ⟨k + 1, by omega, by go_num, HD.out, hL⟩
            case measure => simp [intOf]; omega
          | false =>
            have HD := Lib.hid (HS.out hF)
            go_wp2
            go_ret
            exact ⟨ret_bool HD.out.symm, hL⟩
    · obtain rfl : k = l.length := by omega
      rw [List.take_of_length_le (Nat.le_refl _)] at hg
      have hG1 := Lib.hid hg
      clear hg
      go_wp2
      go_ret
      exact ⟨ret_bool hG1.out.symm, hL0⟩
end Go.Proofs.YtkiloaebokkjbaaGreat.SpanRef
