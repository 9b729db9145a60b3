/-
  Contracts of the reference's functions on rows of spans.
-/
import Derived.Test.YtkiloaebokkjbaaGreatRows
import Derived.Test.YtkiloaebokkjbaaGreatM12
import Derived.WalkKit
import Derived.ProofKit
import Derived.OpenShut
import Derived.WalkSpells
import Derived.LoopTactic
import Derived.Lib.Hide
import Derived.OwnWalk
import Derived.BigQuiet
import Derived.Deep.QuietTactic
import Derived.Deep.RegionWith
import Derived.Deep.DeepCutAuto
import Derived.StillTailTactics
import Derived.Outline
set_option linter.unusedSimpArgs false
set_option linter.unusedVariables false
namespace Go.Proofs.YtkiloaebokkjbaaGreat.SpanRef
set_option linter.unusedVariables false
set_option maxRecDepth 20000
open Go.ChangeShapes Go.WideShapes Go.ChangeAt Go.RowKit
open Go.Proofs.YtkiloaebokkjbaaGreat.Base Go.Proofs.YtkiloaebokkjbaaGreat.SpanPlain

set_option maxHeartbeats 2000000 in
theorem ref_good (a : Option Addr) (n cap : Nat) (l : List Sp) (w : World) (hn : l.length = n) (hm : n ≤ 140737488355328) (hf : Fits l) (hz : Spans w a l) :
    Calls Tryz.prog 58 #[.slice a n cap] w fun e w' => e = .returned (.bool (good l)) ∧ Below w.heap.size w w' := by
  subst hn
  go_enter Tryz.func58, Tryz.ntmps58
  go_wp2
  go_loopw [3] (fun i wr => ∃ k : Nat, k ≤ l.length ∧ i = .int .i64 k ∧ good (l.take k) = true ∧ Below w.heap.size w wr) (fun i _ => l.length - (intOf i).toNat)
  case atStart => exact ⟨0, Nat.zero_le _, rfl, rfl, Below.refl _ _⟩
  case round =>
    obtain ⟨k, hk, rfl, hg, hL⟩ := hrel
    by_cases hlt : k < l.length
    · obtain ⟨b, off, rfl, hb, c0, c1⟩ := (hz.below hL).at_ hlt
      have hG := Lib.hid (good_take hf hlt)
      have hS := Lib.hid (good_stop hf hlt)
      have hN := Lib.hid (show nextOk l k = (ok (l.getD k (0, 0)) && (decide (k = 0) || ap (l.getD (k - 1) (0, 0)) (l.getD k (0, 0)))) from rfl)
      have hG1 := Lib.hid hg
      clear hg
      have ret : ∀ wq, nextOk l k = false → Below w.heap.size w wq → Ending.returned (.bool false) = Ending.returned (.bool (good l)) ∧ Below w.heap.size w wq := fun wq h1 h2 => ⟨ret_bool (hS.out h1).symm, h2⟩
      have RET := Lib.hid ret
      clear ret
      have hwf := hf.get hlt
      by_cases hk0 : k = 0
      · subst hk0
        generalize l.getD 0 (0, 0) = s at *
        simp only [Nat.zero_mul, Nat.add_zero, Nat.zero_add] at c0 c1
        obtain ⟨x, y⟩ := s
        simp only at c0 c1 hwf
        obtain ⟨⟨x0, x1⟩, y0, y1⟩ := hwf
        by_cases h1 : y < x
        · have t1 : decide (y < x) = true := by simpa using h1
          have ho : ok (x, y) = false := ok_not.2 (by simp only; omega)
          go_wp2
          go_quiet (fail)
          go_wp2
          go_ret
          exact RET.out _ (by rw [hN.out, ho]; rfl) (Base.drawn hL _)
        · have t1 : decide (y < x) = false := by simpa using h1
          by_cases h2 : 4611686018427387903 < y
          · have t2 : decide (4611686018427387903 < y) = true := by simpa using h2
            have ho : ok (x, y) = false := ok_not.2 (by simp only; omega)
            go_wp2
            go_quiet (fail)
            go_wp2
            go_ret
            exact RET.out _ (by rw [hN.out, ho]; rfl) (Base.drawn hL _)
          · have t2 : decide (4611686018427387903 < y) = false := by simpa using h2
            have ho : ok (x, y) = true := ok_iff.2 (by simp only; omega)
            go_wp2
            go_quiet (fail)
            go_wp2
            go_roundw
            case rel => exact ⟨0 + 1, by omega, by go_num, by rw [hG.out, hG1.out, hN.out, ho]; rfl, Base.drawn hL _⟩
            case measure => simp [intOf]; omega
      · obtain ⟨j, rfl⟩ : ∃ j, k = j + 1 := ⟨k - 1, by omega⟩
        obtain ⟨b', off', e, hb', c2, c3⟩ := (hz.below hL).at_ (i := j) (by omega)
        cases e
        have hq : ok (l.getD j (0, 0)) = true := by
          have h1 := hG1.out
          rw [good_take hf (by omega : j < l.length)] at h1
          unfold nextOk at h1
          simp only [Bool.and_eq_true] at h1
          exact h1.2.1
        rw [Nat.add_sub_cancel] at hN
        have q0 := (hf.get (show j < l.length by omega)).2.1
        have q1 := (ok_iff.1 hq).2
        clear hq
        generalize l.getD (j + 1) (0, 0) = s at *
        generalize l.getD j (0, 0) = q at *
        obtain ⟨x, y⟩ := s
        obtain ⟨u, v⟩ := q
        simp only at c0 c1 c2 c3 hwf q0 q1
        obtain ⟨⟨x0, x1⟩, y0, y1⟩ := hwf
        by_cases h1 : y < x
        · have t1 : decide (y < x) = true := by simpa using h1
          have ho : ok (x, y) = false := ok_not.2 (by simp only; omega)
          go_wp2
          go_quiet (fail)
          go_wp2
          go_ret
          exact RET.out _ (by rw [hN.out, ho]; rfl) (Base.drawn hL _)
        · have t1 : decide (y < x) = false := by simpa using h1
          by_cases h2 : 4611686018427387903 < y
          · have t2 : decide (4611686018427387903 < y) = true := by simpa using h2
            have ho : ok (x, y) = false := ok_not.2 (by simp only; omega)
            go_wp2
            go_quiet (fail)
            go_wp2
            go_ret
            exact RET.out _ (by rw [hN.out, ho]; rfl) (Base.drawn hL _)
          · have t2 : decide (4611686018427387903 < y) = false := by simpa using h2
            have ho : ok (x, y) = true := ok_iff.2 (by simp only; omega)
            by_cases h3 : x ≤ v + 1
            · have t3 : decide (x ≤ v + 1) = true := by simpa using h3
              have hap : ap (u, v) (x, y) = false := ap_not.2 (by simp only; omega)
              go_wp2
              go_quiet (fail)
              go_wp2
              go_ret
              exact RET.out _ (by rw [hN.out, ho, hap]; simp) (Base.drawn hL _)
            · have t3 : decide (x ≤ v + 1) = false := by simpa using h3
              have hap : ap (u, v) (x, y) = true := ap_iff.2 (by simp only; omega)
              go_wp2
              go_quiet (fail)
              go_wp2
              go_roundw
              case rel => exact ⟨j + 1 + 1, by omega, by go_num, by rw [hG.out, hG1.out, hN.out, ho, hap]; simp, Base.drawn hL _⟩
              case measure => simp [intOf]; omega
    · obtain rfl : k = l.length := by omega
      rw [List.take_of_length_le (Nat.le_refl _)] at hg
      go_wp2
      go_ret
      exact ⟨ret_bool hg.symm, hL⟩
set_option maxHeartbeats 1000000 in
theorem same_any (a b : Option Addr) (n m capa capb : Nat) (l r : List Sp) (w : World) (hn : l.length = n) (hm : r.length = m) (hnb : n ≤ 140737488355328) (hmb : m ≤ 140737488355328) (hz : Spans w a l) (hy : Spans w b r) :
    Calls Tryz.prog 57 #[.slice a n capa, .slice b m capb] w fun e w' => e = .returned (.bool (decide (l = r))) ∧ Below w.heap.size w w' := by
  subst hn
  subst hm
  by_cases hlen : l.length = r.length
  · have hne : ((l.length : Int) != (r.length : Int)) = false := by simp [hlen]
    go_enter Tryz.func57, Tryz.ntmps57
    go_wp2
    go_loopw [5] (fun i wr => ∃ k : Nat, k ≤ l.length ∧ i = .int .i64 k ∧ l.take k = r.take k ∧ Below w.heap.size w wr) (fun i _ => l.length - (intOf i).toNat)
    case atStart => exact ⟨0, Nat.zero_le _, rfl, rfl, Below.refl _ _⟩
    case round =>
      obtain ⟨k, hk, rfl, hg, hL⟩ := hrel
      by_cases hlt : k < l.length
      · obtain ⟨b1, off1, rfl, hb1, c0, c1⟩ := (hz.below hL).at_ hlt
        obtain ⟨b2, off2, rfl, hb2, c2, c3⟩ := (hy.below hL).at_ (i := k) (by omega)
        have hG1 := Lib.hid hg
        have H1 := Lib.hid hlen
        have hlt2 : k < r.length := by omega
        have hlr : r.length ≤ 140737488355328 := hmb
        clear hg hlen
        generalize hs : l.getD k (0, 0) = s at *
        generalize ht : r.getD k (0, 0) = t at *
        have HS := Lib.hid hs
        have HT := Lib.hid ht
        clear hs ht
        by_cases hst : s = t
        · subst hst
          have HE := Lib.hid (show l.take (k + 1) = r.take (k + 1) by rw [take_snoc hlt, take_snoc hlt2, hG1.out, HS.out, HT.out])
          go_wp2
          go_quiet (fail)
          go_wp2
          go_roundw
          case rel => exact ⟨k + 1, by omega, by go_num, HE.out, Base.drawn hL _⟩
          case measure => simp [intOf]; omega
        · have hcs : (s.1 == t.1) = false ∨ ((s.1 == t.1) = true ∧ (s.2 == t.2) = false) := by
            by_cases h1 : s.1 = t.1
            · refine .inr ⟨by simpa using h1, ?_⟩
              simp only [beq_eq_false_iff_ne]
              exact fun h2 => hst (Prod.ext h1 h2)
            · exact .inl (by simpa using h1)
          have HE := Lib.hid (show ¬ l = r by
            intro e
            subst e
            exact hst (HS.out.symm.trans HT.out))
          clear hst
          generalize s.1 = x, s.2 = y, t.1 = u, t.2 = v at *
          rcases hcs with h1 | ⟨h1, h2⟩
          · go_wp2
            go_quiet (fail)
            go_wp2
            go_ret
            exact ⟨ret_bool (decide_eq_false HE.out).symm, Base.drawn hL _⟩
          · go_wp2
            go_quiet (fail)
            go_wp2
            go_ret
            exact ⟨ret_bool (decide_eq_false HE.out).symm, Base.drawn hL _⟩
      · obtain rfl : k = l.length := by omega
        have HE := Lib.hid (show l = r by rw [← List.take_of_length_le (Nat.le_refl l.length), hg, List.take_of_length_le (by omega)])
        clear hg
        go_wp2
        go_ret
        exact ⟨ret_bool (decide_eq_true HE.out).symm, hL⟩
  · have hne : ((l.length : Int) != (r.length : Int)) = true := by simp; omega
    have HE := Lib.hid (show ¬ l = r by intro e; exact hlen (by rw [e]))
    go_enter Tryz.func57, Tryz.ntmps57
    go_wp2
    go_ret
    exact ⟨ret_bool (decide_eq_false HE.out).symm, Below.refl _ _⟩
set_option maxHeartbeats 1000000 in
theorem ref_has (a : Option Addr) (n cap : Nat) (l : List Sp) (m : Int) (w : World) (hn : l.length = n) (hm : n ≤ 140737488355328) (hz : Spans w a l) :
    Calls Tryz.prog 61 #[.slice a n cap, .int .u64 m] w fun e w' => e = .returned (.bool (has l m)) ∧ w = w' := by
  subst hn
  go_enter Tryz.func61, Tryz.ntmps61
  go_wp2
  go_loop [5] (fun i => ∃ k : Nat, k ≤ l.length ∧ i = .int .i64 k ∧ has (l.take k) m = false) (fun i => l.length - (intOf i).toNat)
  case atStart => exact ⟨0, Nat.zero_le _, rfl, rfl⟩
  case round =>
    obtain ⟨k, hk, rfl, hg⟩ := hrel
    by_cases hlt : k < l.length
    · obtain ⟨b, off, rfl, hb, c0, c1⟩ := hz.at_ hlt
      have HT := Lib.hid (has_take hlt m)
      have HM := Lib.hid (has_more (l := l) (k + 1) m)
      have hG1 := Lib.hid hg
      clear hg
      generalize l.getD k (0, 0) = s at *
      obtain ⟨x, y⟩ := s
      simp only at c0 c1
      have HX := Lib.hid (show has (l.take (k + 1)) m = (decide (x ≤ m) && decide (m ≤ y)) by rw [HT.out, hG1.out]; simp)
      clear HT
      by_cases h1 : x ≤ m
      · by_cases h2 : m ≤ y
        · have HR := Lib.hid (HM.out (by rw [HX.out]; simp [h1, h2]))
          go_wp2
          go_ret
          exact ⟨ret_bool HR.out.symm, rfl⟩
        · have HR := Lib.hid (show has (l.take (k + 1)) m = false by rw [HX.out]; simp [h2])
          go_wp2
          go_round
          case rel => exact ⟨k + 1, by omega, by go_num, HR.out⟩
          case measure => simp [intOf]; omega
      · have HR := Lib.hid (show has (l.take (k + 1)) m = false by rw [HX.out]; simp [h1])
        go_wp2
        go_round
        case rel => exact ⟨k + 1, by omega, by go_num, HR.out⟩
        case measure => simp [intOf]; omega
    · obtain rfl : k = l.length := by omega
      rw [List.take_of_length_le (Nat.le_refl _)] at hg
      have HR := Lib.hid hg
      clear hg
      go_wp2
      go_ret
      exact ⟨ret_bool HR.out.symm, rfl⟩
end Go.Proofs.YtkiloaebokkjbaaGreat.SpanRef
