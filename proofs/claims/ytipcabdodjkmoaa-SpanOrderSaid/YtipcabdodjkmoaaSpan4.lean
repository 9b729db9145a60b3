/-
  Contracts of span's Cut and Add.
-/
import Derived.Test.YtipcabdodjkmoaaSpan
import Derived.Test.YtipcabdodjkmoaaSpanOwn
namespace Go.Proofs.Ytipcabdodjkmoaa.Span
set_option linter.unusedVariables false
open Go.ChangeShapes Go.WideShapes Go.ChangeAt Go.RowKit
open Go.Proofs.Ytipcabdodjkmoaa.Base Go.Proofs.Ytipcabdodjkmoaa.SpanPlain Go.Proofs.Ytipcabdodjkmoaa.Sat

theorem cut_bad (a : Option Addr) (n cap : Nat) (l : List Sp) (s : Sp) (w : World) (hn : l.length = n) (hm : n ≤ 8796093021952) (hf : Fits l) (h : (good l && ok s) = false) (hz : Spans w a l) :
    Calls Try.prog 10 #[.slice a n cap, .agg #[.int .u64 s.1, .int .u64 s.2]] w fun e w' => e = .returned (.tuple #[.slice none 0 0, .bool false]) ∧ Below w.heap.size w w' := by
  have c1 := fun W hz => good_any a n cap l W hn (by omega) hf hz
  have c2 := fun W => valid_any s W
  obtain ⟨p, q⟩ := s
  simp only at c2 ⊢
  obtain ⟨d0, d1, hsz, hL0, hkeep⟩ := boxed (Below.refl _ w) (Nat.le_refl _) (.int .u64 p) (.int .u64 q) 25
  have hz0 : Spans (w.alloc (.cells #[.int .u64 p, .int .u64 q] 25)) a l := Row.alloc hz _
  clear hkeep hsz
  cases hg : good l with
  | false =>
    rw [hg] at c1
    go_enter Try.func10, Try.ntmps10
    go_wp2_with (go_at_call 16; (with_reducible refine (c1 _ hz0).mono ?_); rintro e w1 ⟨rfl, hb1⟩)
    go_ret2
    exact ⟨rfl, Base.below_step (Below.refl _ _) hb1⟩
  | true =>
    rw [hg] at c1
    rw [hg, Bool.true_and] at h
    rw [h] at c2
    go_enter Try.func10, Try.ntmps10
    go_wp2_with (first
      | (go_at_call 16; (with_reducible refine (c1 _ hz0).mono ?_); rintro e w1 ⟨rfl, hb1⟩; have k0 := keep_cell hb1 d0; have k1 := keep_cell hb1 d1)
      | (go_at_call 29; (with_reducible refine (c2 _).mono ?_); rintro e w2 ⟨rfl, hb2⟩))
    go_ret2
    exact ⟨rfl, Base.below_step (Below.refl _ _) (Base.next hb1 hb2)⟩
theorem add_bad (a : Option Addr) (n cap : Nat) (l : List Sp) (s : Sp) (w : World) (hn : l.length = n) (hm : n ≤ 8796093021952) (hf : Fits l) (h : (good l && ok s) = false) (hz : Spans w a l) :
    Calls Try.prog 9 #[.slice a n cap, .agg #[.int .u64 s.1, .int .u64 s.2]] w fun e w' => e = .returned (.tuple #[.slice none 0 0, .bool false]) ∧ Below w.heap.size w w' := by
  have c1 := fun W hz => good_any a n cap l W hn (by omega) hf hz
  have c2 := fun W => valid_any s W
  obtain ⟨p, q⟩ := s
  simp only at c2 ⊢
  obtain ⟨d0, d1, hsz, hL0, hkeep⟩ := boxed (Below.refl _ w) (Nat.le_refl _) (.int .u64 p) (.int .u64 q) 25
  have hz0 : Spans (w.alloc (.cells #[.int .u64 p, .int .u64 q] 25)) a l := Row.alloc hz _
  clear hkeep hsz
  cases hg : good l with
  | false =>
    rw [hg] at c1
    go_enter Try.func9, Try.ntmps9
    go_wp2_with (go_at_call 16; (with_reducible refine (c1 _ hz0).mono ?_); rintro e w1 ⟨rfl, hb1⟩)
    go_ret2
    exact ⟨rfl, Base.below_step (Below.refl _ _) hb1⟩
  | true =>
    rw [hg] at c1
    rw [hg, Bool.true_and] at h
    rw [h] at c2
    go_enter Try.func9, Try.ntmps9
    go_wp2_with (first
      | (go_at_call 16; (with_reducible refine (c1 _ hz0).mono ?_); rintro e w1 ⟨rfl, hb1⟩; have k0 := keep_cell hb1 d0; have k1 := keep_cell hb1 d1)
      | (go_at_call 29; (with_reducible refine (c2 _).mono ?_); rintro e w2 ⟨rfl, hb2⟩))
    go_ret2
    exact ⟨rfl, Base.below_step (Below.refl _ _) (Base.next hb1 hb2)⟩
set_option maxHeartbeats 4000000 in
theorem cut_good_any (a : Option Addr) (n cap : Nat) (l : List Sp) (s : Sp) (w : World) (hn : l.length = n) (hm : n ≤ 8796093021952) (hg : good l = true) (h0 : 0 ≤ s.1) (hs : ok s = true) (hz : Spans w a l) :
    Calls Try.prog 10 #[.slice a n cap, .agg #[.int .u64 s.1, .int .u64 s.2]] w fun e w' => ∃ v, e = .returned (.tuple #[v, .bool true]) ∧ Own w.heap.size w' v (cutS l s) ∧ Below w.heap.size w w' := by
  subst hn
  have c1 := fun W hz => good_any a l.length cap l W rfl (by omega) (Fits.of_good hg) hz
  have c2 := fun W => valid_any s W
  rw [hg] at c1
  rw [hs] at c2
  obtain ⟨h1, h2⟩ := ok_iff.1 hs
  clear hs
  obtain ⟨p, q⟩ := s
  simp only at h0 h1 h2 c2 ⊢
  obtain ⟨d0, d1, hsz, hL0, hkeep⟩ := boxed (Below.refl _ w) (Nat.le_refl _) (.int .u64 p) (.int .u64 q) 25
  have hz0 : Spans (w.alloc (.cells #[.int .u64 p, .int .u64 q] 25)) a l := Row.alloc hz _
  clear hkeep
  have HSZ := Lib.hid hsz
  have HG := Lib.hid hg
  clear hsz hg
  go_enter Try.func10, Try.ntmps10
  go_wp2_with (first
    | (go_at_call 16; (with_reducible refine (c1 _ hz0).mono ?_); rintro e w1 ⟨rfl, hb1⟩; have k0 := keep_cell hb1 d0; have k1 := keep_cell hb1 d1)
    | (go_at_call 29; (with_reducible refine (c2 _).mono ?_); rintro e W ⟨rfl, hb2⟩))
  have hWsz : w.heap.size + 1 ≤ W.heap.size := by have := hb1.size; have := hb2.size; have := HSZ.out; omega
  have hzW := hz0.below (Base.next hb1 hb2)
  have e0 := keep_cell hb2 k0
  have e1 := keep_cell hb2 k1
  have hLW := Base.below_step (Below.refl _ _) (Base.next hb1 hb2)
  clear c1 c2 d0 d1 k0 k1 hz0 hz hb1 hb2 hL0
  go_loopw [6, 19] (fun o i wr => ∃ k : Nat, k ≤ l.length ∧ i = .int .i64 k ∧ Own W.heap.size wr o (cutS (l.take k) (p, q)) ∧ Below W.heap.size W wr) (fun _ i _ => l.length - (intOf i).toNat)
  case atStart => exact ⟨0, Nat.zero_le _, rfl, Own.nil _ _, Below.refl _ _⟩
  case round =>
    obtain ⟨k, hk, rfl, hown, hL⟩ := hrel
    have b0 := keep_cell hL e0
    have b1 := keep_cell hL e1
    have hgb : w.heap.size < wr.heap.size := by have := hL.size; omega
    by_cases hlt : k < l.length
    · obtain ⟨b, off, rfl, hb, c0, c1⟩ := (hzW.below hL).at_ hlt
      have HT := Lib.hid (cut_take hlt (p, q))
      have hlen : (cutS (l.take k) (p, q)).length ≤ k + 1 := by
        have := cut_len (s := (p, q)) (goodFrom_of_take (b := 0) k HG.out)
        rw [List.length_take] at this
        omega
      have h3 := good_get HG.out hlt
      generalize l.getD k (0, 0) = c at *
      obtain ⟨x, y⟩ := c
      simp only at c0 c1 h3
      obtain ⟨x0, x1, x2⟩ := h3
      have HI := Lib.hid (cut1_is (s := (p, q)) (a := (x, y)) h1 x1)
      obtain ⟨m0, m1, hsz1, hL1, hkeep1⟩ := boxed hL hL.size (.int .u64 x) (.int .u64 y) 25
      have f0 := (hkeep1 _ _ _ b0).1
      have f1 := (hkeep1 _ _ _ b1).1
      have hown1 := hown.alloc (.cells #[.int .u64 x, .int .u64 y] 25)
      have hne := hown.ne (g := w.heap.size) (.inr (by omega))
      have hne7 := hown.ne (g := wr.heap.size) (.inl (Nat.le_refl _))
      have hbs := hL1.size
      clear hkeep1 hsz1
      have hb2 : W.heap.size ≤ wr.heap.size := hL.size
      by_cases t3 : x < p
      · by_cases t4 : q < y
        · have HC := Lib.hid (show cut1 (p, q) (x, y) = [(x, p - 1), (q + 1, y)] by rw [HI.out, if_pos t3, if_pos t4, show min (x, y).2 ((p, q).1 - 1) = p - 1 by simp only; omega, show max (x, y).1 ((p, q).2 + 1) = q + 1 by simp only; omega]; rfl)
          go_wp2_with (first | (at_builtin; refine wpl_add (x := x) (y := p - 1) rfl (.tmp 28) (.tmp 38) rfl rfl hown1 rfl (by simp) (by omega) (by omega) ?_; intro v3 w3 A3; have A3h := Lib.hid A3; have g0 := A3.keep f0 hne; have g1 := A3.keep f1 hne; have g2 := A3.keep m0 hne7; have g3 := A3.keep m1 hne7; have gs := A3.size; clear A3) | (at_builtin; refine wpl_add (x := q + 1) (y := y) rfl (.tmp 45) (.tmp 55) rfl rfl A3h.out.own rfl (by simp) (by rw [List.length_append, List.length_singleton]; omega) (by omega) ?_; intro v4 w4 A4; have A4h := Lib.hid A4; have gs4 := A4.size; clear A4))
          go_roundw
          case rel => exact ⟨k + 1, by omega, by go_num, by rw [HT.out, HC.out, show ([(x, p - 1), (q + 1, y)] : List Sp) = [(x, p - 1)] ++ [(q + 1, y)] from rfl, ← List.append_assoc]; exact A4h.out.own, A4h.out.below (A3h.out.below hL1 (Nat.le_refl _)) (Nat.le_refl _)⟩
          case measure => simp [intOf]; omega
        · by_cases t5 : p - 1 < y
          · have HC := Lib.hid (show cut1 (p, q) (x, y) = [(x, p - 1)] by rw [HI.out, if_pos t3, if_neg t4]; exact congrArg (fun z => [z]) (Prod.ext (by first | rfl | (simp only; omega)) (by first | rfl | (simp only; omega))))
            go_wp2_with (at_builtin; refine wpl_add (x := x) (y := p - 1) rfl (.tmp 28) (.tmp 38) rfl rfl hown1 rfl (by simp) (by omega) (by omega) ?_; intro v3 w3 A3; have A3h := Lib.hid A3; have g0 := A3.keep f0 hne; have g1 := A3.keep f1 hne; have g2 := A3.keep m0 hne7; have g3 := A3.keep m1 hne7; have gs := A3.size; clear A3)
            go_roundw
            case rel => exact ⟨k + 1, by omega, by go_num, by rw [HT.out, HC.out]; exact A3h.out.own, A3h.out.below hL1 (Nat.le_refl _)⟩
            case measure => simp [intOf]; omega
          · have HC := Lib.hid (show cut1 (p, q) (x, y) = [(x, y)] by rw [HI.out, if_pos t3, if_neg t4]; exact congrArg (fun z => [z]) (Prod.ext (by first | rfl | (simp only; omega)) (by first | rfl | (simp only; omega))))
            go_wp2_with (at_builtin; refine wpl_add (x := x) (y := y) rfl (.tmp 28) (.tmp 38) rfl rfl hown1 rfl (by simp) (by omega) (by omega) ?_; intro v3 w3 A3; have A3h := Lib.hid A3; have g0 := A3.keep f0 hne; have g1 := A3.keep f1 hne; have g2 := A3.keep m0 hne7; have g3 := A3.keep m1 hne7; have gs := A3.size; clear A3)
            go_roundw
            case rel => exact ⟨k + 1, by omega, by go_num, by rw [HT.out, HC.out]; exact A3h.out.own, A3h.out.below hL1 (Nat.le_refl _)⟩
            case measure => simp [intOf]; omega
      · by_cases t4 : q < y
        · by_cases t5 : x < q + 1
          · have HC := Lib.hid (show cut1 (p, q) (x, y) = [(q + 1, y)] by rw [HI.out, if_neg t3, if_pos t4]; exact congrArg (fun z => [z]) (Prod.ext (by first | rfl | (simp only; omega)) (by first | rfl | (simp only; omega))))
            go_wp2_with (at_builtin; refine wpl_add (x := q + 1) (y := y) rfl (.tmp 45) (.tmp 55) rfl rfl hown1 rfl (by simp) (by omega) (by omega) ?_; intro v3 w3 A3; have A3h := Lib.hid A3; have g0 := A3.keep f0 hne; have g1 := A3.keep f1 hne; have g2 := A3.keep m0 hne7; have g3 := A3.keep m1 hne7; have gs := A3.size; clear A3)
            go_roundw
            case rel => exact ⟨k + 1, by omega, by go_num, by rw [HT.out, HC.out]; exact A3h.out.own, A3h.out.below hL1 (Nat.le_refl _)⟩
            case measure => simp [intOf]; omega
          · have HC := Lib.hid (show cut1 (p, q) (x, y) = [(x, y)] by rw [HI.out, if_neg t3, if_pos t4]; exact congrArg (fun z => [z]) (Prod.ext (by first | rfl | (simp only; omega)) (by first | rfl | (simp only; omega))))
            go_wp2_with (at_builtin; refine wpl_add (x := x) (y := y) rfl (.tmp 45) (.tmp 55) rfl rfl hown1 rfl (by simp) (by omega) (by omega) ?_; intro v3 w3 A3; have A3h := Lib.hid A3; have g0 := A3.keep f0 hne; have g1 := A3.keep f1 hne; have g2 := A3.keep m0 hne7; have g3 := A3.keep m1 hne7; have gs := A3.size; clear A3)
            go_roundw
            case rel => exact ⟨k + 1, by omega, by go_num, by rw [HT.out, HC.out]; exact A3h.out.own, A3h.out.below hL1 (Nat.le_refl _)⟩
            case measure => simp [intOf]; omega
        · have HC := Lib.hid (show cut1 (p, q) (x, y) = [] by rw [HI.out, if_neg t3, if_neg t4]; rfl)
          go_wp2
          go_roundw
          case rel => exact ⟨k + 1, by omega, by go_num, by rw [HT.out, HC.out, List.append_nil]; exact hown1, hL1⟩
          case measure => simp [intOf]; omega
    · obtain rfl : k = l.length := by omega
      rw [List.take_of_length_le (Nat.le_refl _)] at hown
      go_wp2
      go_ret2
      exact ⟨_, rfl, hown.mono (by omega), hLW.trans (hL.mono (by omega))⟩
end Go.Proofs.Ytipcabdodjkmoaa.Span
