/-
  Contracts of the reference's functions that make rows of spans.
-/
import Derived.Test.YtlnncfjfphkkdaaSpanOwn
import Derived.WalkSpells
import Derived.LoopTactic
import Derived.Lib.Hide
import Derived.BigQuiet
import Derived.Deep.QuietTactic
import Derived.Deep.RegionWith
import Derived.Deep.DeepCutAuto
import Derived.Deep.RegionLaw
import Derived.Outline
set_option linter.unusedSimpArgs false
set_option linter.unusedVariables false
namespace Go.Proofs.Ytlnncfjfphkkdaa.SpanRef
set_option linter.unusedVariables false
set_option maxRecDepth 20000
open Go.ChangeShapes Go.WideShapes Go.ChangeAt Go.RowKit
open Go.Proofs.Ytlnncfjfphkkdaa.Base Go.Proofs.Ytlnncfjfphkkdaa.SpanPlain

set_option maxHeartbeats 2000000 in
theorem ref_cut (a : Option Addr) (n cap : Nat) (l : List Sp) (s : Sp) (w : World) (hn : l.length = n) (hm : n ≤ 8796093021952) (hg : good l = true) (h0 : 0 ≤ s.1) (h1 : s.1 ≤ s.2) (h2 : s.2 ≤ 4611686018427387903) (hz : Spans w a l) :
    Calls Try.prog 19 #[.slice a n cap, .agg #[.int .u64 s.1, .int .u64 s.2]] w fun e w' => ∃ v, e = .returned v ∧ Own w.heap.size w' v (cutS l s) ∧ Below w.heap.size w w' := by
  subst hn
  obtain ⟨p, q⟩ := s
  simp only at h0 h1 h2 ⊢
  obtain ⟨d0, d1, hsz, hL0, hkeep⟩ := boxed (Below.refl _ w) (Nat.le_refl _) (.int .u64 p) (.int .u64 q) 53
  have hz0 : Spans (w.alloc (.cells #[.int .u64 p, .int .u64 q] 53)) a l := Row.alloc hz _
  go_enter Try.func19, Try.ntmps19
  go_wp2
  generalize w.alloc (.cells #[.int .u64 p, .int .u64 q] 53) = W at *
  have HSZ := Lib.hid hsz
  clear hsz hkeep
  go_loopw [5, 6] (fun o i wr => ∃ k : Nat, k ≤ l.length ∧ i = .int .i64 k ∧ Own W.heap.size wr o (cutS (l.take k) (p, q)) ∧ Below W.heap.size W wr) (fun _ i _ => l.length - (intOf i).toNat)
  case atStart => exact ⟨0, Nat.zero_le _, rfl, Own.nil _ _, Below.refl _ _⟩
  case round =>
    obtain ⟨k, hk, rfl, hown, hL⟩ := hrel
    have b0 := keep_cell hL d0
    have b1 := keep_cell hL d1
    have hgb : w.heap.size < wr.heap.size := by have := hL.size; have := HSZ.out; omega
    by_cases hlt : k < l.length
    · obtain ⟨b, off, rfl, hb, c0, c1⟩ := (hz0.below hL).at_ hlt
      have HT := Lib.hid (cut_take hlt (p, q))
      have hlen : (cutS (l.take k) (p, q)).length ≤ k + 1 := by
        have := cut_len (s := (p, q)) (goodFrom_of_take (b := 0) k hg)
        rw [List.length_take] at this
        omega
      have h3 := good_last hg (l.getD k (0, 0)) (by simp [List.getD, hlt])
      unfold M at h3
      generalize l.getD k (0, 0) = c at *
      obtain ⟨x, y⟩ := c
      simp only at c0 c1 h3
      obtain ⟨x0, x1, x2⟩ := h3
      obtain ⟨e0, e1, hsz1, hL1, hkeep1⟩ := boxed hL hL.size (.int .u64 x) (.int .u64 y) 53
      have f0 := (hkeep1 _ _ _ b0).1
      have f1 := (hkeep1 _ _ _ b1).1
      have hown1 := hown.alloc (.cells #[.int .u64 x, .int .u64 y] 53)
      have hne := hown.ne (g := w.heap.size) (.inr (by have := HSZ.out; omega))
      have hne7 := hown.ne (g := wr.heap.size) (.inl (Nat.le_refl _))
      have hbs := hL1.size
      clear hkeep1 hsz1
      have hb2 : W.heap.size ≤ wr.heap.size := hL.size
      by_cases t1 : y < p
      · have HC := Lib.hid (show cut1 (p, q) (x, y) = [(x, y)] by unfold cut1; rw [if_pos (.inl t1)])
        go_wp2_with (at_builtin; refine wpl_add (x := x) (y := y) rfl (.tmp 30) (.tmp 32) rfl rfl hown1 rfl (by simp) (by omega) (by omega) ?_; intro v3 w3 A3; have A3h := Lib.hid A3; have g0 := A3.keep f0 hne; have g1 := A3.keep f1 hne; have g2 := A3.keep e0 hne7; have g3 := A3.keep e1 hne7; have gs := A3.size; clear A3)
        go_roundw
        case rel => exact ⟨k + 1, by omega, by go_num, by rw [HT.out, HC.out]; exact A3h.out.own, A3h.out.below hL1 (Nat.le_refl _)⟩
        case measure => simp [intOf]; omega
      · by_cases t2 : q < x
        · have HC := Lib.hid (show cut1 (p, q) (x, y) = [(x, y)] by unfold cut1; rw [if_pos (.inr t2)])
          go_wp2_with (at_builtin; refine wpl_add (x := x) (y := y) rfl (.tmp 30) (.tmp 32) rfl rfl hown1 rfl (by simp) (by omega) (by omega) ?_; intro v3 w3 A3; have A3h := Lib.hid A3; have g0 := A3.keep f0 hne; have g1 := A3.keep f1 hne; have g2 := A3.keep e0 hne7; have g3 := A3.keep e1 hne7; have gs := A3.size; clear A3)
          go_roundw
          case rel => exact ⟨k + 1, by omega, by go_num, by rw [HT.out, HC.out]; exact A3h.out.own, A3h.out.below hL1 (Nat.le_refl _)⟩
          case measure => simp [intOf]; omega
        · by_cases t3 : x < p
          · by_cases t4 : q < y
            · have HC := Lib.hid (show cut1 (p, q) (x, y) = [(x, p - 1), (q + 1, y)] by unfold cut1; rw [if_neg (by simp only; omega), if_pos t3, if_pos t4]; rfl)
              go_wp2_with (first | (at_builtin; refine wpl_add (x := x) (y := p - 1) rfl (.tmp 39) (.tmp 46) rfl rfl hown1 rfl (by simp) (by omega) (by omega) ?_; intro v3 w3 A3; have A3h := Lib.hid A3; have g0 := A3.keep f0 hne; have g1 := A3.keep f1 hne; have g2 := A3.keep e0 hne7; have g3 := A3.keep e1 hne7; have gs := A3.size; clear A3) | (at_builtin; refine wpl_add (x := q + 1) (y := y) rfl (.tmp 53) (.tmp 60) rfl rfl A3h.out.own rfl (by simp) (by rw [List.length_append, List.length_singleton]; omega) (by omega) ?_; intro v4 w4 A4; have A4h := Lib.hid A4; have gs4 := A4.size; clear A4))
              go_roundw
              case rel => exact ⟨k + 1, by omega, by go_num, by rw [HT.out, HC.out, show ([(x, p - 1), (q + 1, y)] : List Sp) = [(x, p - 1)] ++ [(q + 1, y)] from rfl, ← List.append_assoc]; exact A4h.out.own, A4h.out.below (A3h.out.below hL1 (Nat.le_refl _)) (Nat.le_refl _)⟩
              case measure => simp [intOf]; omega
            · have HC := Lib.hid (show cut1 (p, q) (x, y) = [(x, p - 1)] by unfold cut1; rw [if_neg (by simp only; omega), if_pos t3, if_neg t4]; rfl)
              go_wp2_with (at_builtin; refine wpl_add (x := x) (y := p - 1) rfl (.tmp 39) (.tmp 46) rfl rfl hown1 rfl (by simp) (by omega) (by omega) ?_; intro v3 w3 A3; have A3h := Lib.hid A3; have g0 := A3.keep f0 hne; have g1 := A3.keep f1 hne; have g2 := A3.keep e0 hne7; have g3 := A3.keep e1 hne7; have gs := A3.size; clear A3)
              go_roundw
              case rel => exact ⟨k + 1, by omega, by go_num, by rw [HT.out, HC.out]; exact A3h.out.own, A3h.out.below hL1 (Nat.le_refl _)⟩
              case measure => simp [intOf]; omega
          · by_cases t4 : q < y
            · have HC := Lib.hid (show cut1 (p, q) (x, y) = [(q + 1, y)] by unfold cut1; rw [if_neg (by simp only; omega), if_neg t3, if_pos t4]; rfl)
              go_wp2_with (at_builtin; refine wpl_add (x := q + 1) (y := y) rfl (.tmp 53) (.tmp 60) rfl rfl hown1 rfl (by simp) (by omega) (by omega) ?_; intro v3 w3 A3; have A3h := Lib.hid A3; have g0 := A3.keep f0 hne; have g1 := A3.keep f1 hne; have g2 := A3.keep e0 hne7; have g3 := A3.keep e1 hne7; have gs := A3.size; clear A3)
              go_roundw
              case rel => exact ⟨k + 1, by omega, by go_num, by rw [HT.out, HC.out]; exact A3h.out.own, A3h.out.below hL1 (Nat.le_refl _)⟩
              case measure => simp [intOf]; omega
            · have HC := Lib.hid (show cut1 (p, q) (x, y) = [] by unfold cut1; rw [if_neg (by simp only; omega), if_neg t3, if_neg t4]; rfl)
              go_wp2
              go_roundw
              case rel => exact ⟨k + 1, by omega, by go_num, by rw [HT.out, HC.out, List.append_nil]; exact hown1, hL1⟩
              case measure => simp [intOf]; omega
    · obtain rfl : k = l.length := by omega
      rw [List.take_of_length_le (Nat.le_refl _)] at hown
      go_wp2
      go_ret
      exact ⟨_, rfl, hown.mono (by have := HSZ.out; omega), hL0.trans (hL.mono (by have := HSZ.out; omega))⟩
set_option maxHeartbeats 2000000 in
theorem ref_from (a : Option Addr) (n cap : Nat) (l : List Sp) (lo : Int) (w : World) (hn : l.length = n) (hm : n ≤ 8796093021952) (hz : Spans w a l) :
    Calls Try.prog 18 #[.slice a n cap, .int .u64 lo] w fun e w' => ∃ v, e = .returned v ∧ Own w.heap.size w' v (fromS l lo) ∧ Below w.heap.size w w' := by
  subst hn
  go_enter Try.func18, Try.ntmps18
  go_wp2
  go_loopw [5, 6] (fun o i wr => ∃ k : Nat, k ≤ l.length ∧ i = .int .i64 k ∧ Own w.heap.size wr o (fromS (l.take k) lo) ∧ Below w.heap.size w wr) (fun _ i _ => l.length - (intOf i).toNat)
  case atStart => exact ⟨0, Nat.zero_le _, rfl, Own.nil _ _, Below.refl _ _⟩
  case round =>
    obtain ⟨k, hk, rfl, hown, hL⟩ := hrel
    by_cases hlt : k < l.length
    · obtain ⟨b, off, rfl, hb, c0, c1⟩ := (hz.below hL).at_ hlt
      have HT := Lib.hid (from_take hlt lo)
      have hlen : (fromS (l.take k) lo).length ≤ k := by
        have := from_len (l.take k) lo
        rw [List.length_take] at this
        omega
      generalize l.getD k (0, 0) = c at *
      obtain ⟨x, y⟩ := c
      simp only at c0 c1
      have hbs := hL.size
      by_cases t1 : lo ≤ y
      · by_cases t0 : x < lo
        · have HC := Lib.hid (show from1 lo (x, y) = [(lo, y)] by unfold from1; rw [if_pos t1]; exact congrArg (fun z => [(z, y)]) (by simp only; omega))
          go_wp2
          go_region_law (refine step_add (W := wr.drew) (x := lo) (y := y) rfl (.tmp 20) (.tmp 34) rfl rfl hown.drew rfl (by simp) (by omega) hbs ?_; intro v3 w3 A3; have A3h := Lib.hid A3; clear A3)
          all_goals go_wp2
          all_goals go_roundw
          all_goals first | (simp [intOf]; omega) | exact ⟨k + 1, by omega, by go_num, by rw [HT.out, HC.out]; exact A3h.out.own, A3h.out.below (Base.drew1 hL) (Nat.le_refl _)⟩
        · have t5 : (if x < lo then lo else x) = x := if_neg t0
          have HC := Lib.hid (show from1 lo (x, y) = [(x, y)] by unfold from1; rw [if_pos t1]; exact congrArg (fun z => [(z, y)]) (by simp only; omega))
          go_wp2
          go_region_law (refine step_add (W := wr.drew) (x := x) (y := y) rfl (.tmp 20) (.tmp 34) rfl rfl hown.drew rfl (by simp) (by omega) hbs ?_; intro v3 w3 A3; have A3h := Lib.hid A3; clear A3)
          all_goals go_wp2
          all_goals go_roundw
          all_goals first | (simp [intOf]; omega) | exact ⟨k + 1, by omega, by go_num, by rw [HT.out, HC.out]; exact A3h.out.own, A3h.out.below (Base.drew1 hL) (Nat.le_refl _)⟩
      · have HC := Lib.hid (show from1 lo (x, y) = [] by unfold from1; rw [if_neg t1])
        go_wp2
        go_roundw
        case rel => exact ⟨k + 1, by omega, by go_num, by rw [HT.out, HC.out, List.append_nil]; exact hown, hL⟩
        case measure => simp [intOf]; omega
    · obtain rfl : k = l.length := by omega
      rw [List.take_of_length_le (Nat.le_refl _)] at hown
      go_wp2
      go_ret
      exact ⟨_, rfl, hown, hL⟩
end Go.Proofs.Ytlnncfjfphkkdaa.SpanRef
