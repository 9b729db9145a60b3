/-
  Contracts of span's Last, From, Cut.
-/
import Derived.Test.YtipcabdodjkmoaaSpan
import Derived.Test.YtipcabdodjkmoaaSpanOwn
import Derived.Laws.BytesArg
namespace Go.Proofs.Ytipcabdodjkmoaa.Span
set_option linter.unusedVariables false
open Go.ChangeShapes Go.WideShapes Go.ChangeAt Go.RowKit
open Go.Proofs.Ytipcabdodjkmoaa.Base Go.Proofs.Ytipcabdodjkmoaa.SpanPlain Go.Proofs.Ytipcabdodjkmoaa.Sat

theorem clone_spans (a : Option Addr) (n cap : Nat) (l : List Sp) (w : World) (hn : l.length = n) (hr : n ≤ 8796093021952) (h0 : a = none → n = 0 ∧ cap = 0) (hz : Spans w a l) :
    Calls Try.prog 32 #[.slice a n cap] w fun e w' => ∃ v, e = .returned v ∧ Own w.heap.size w' v l ∧ Below w.heap.size w w' := by
  obtain ⟨i0, hi0, hz0, hz1, hz2⟩ := info_parts Base.info
  have qT : ∀ (w : World) (a : Option Addr) (n c : Nat), (binOp .eql 22 (.slice a n c) (.slice none 0 0)).run Try.prog w = .ok (.bool a.isNone) w := fun w a n c => Lib.run_eql_slice_nil w _ _ a n c 0 0 Try.underlying22
  cases a with
  | none =>
    obtain ⟨rfl, rfl⟩ := h0 rfl
    obtain rfl : l = [] := List.eq_nil_of_length_eq_zero hn
    go_enter Try.func32, Try.ntmps32
    go_wp2
    all_goals go_ret
    all_goals exact ⟨_, rfl, Own.nil _ _, Below.refl _ _⟩
  | some ad =>
    subst hn
    go_enter Try.func32, Try.ntmps32
    go_wp2_with (at_builtin; refine wpl_append_row _ rfl (.tmp 5) (.tmp 6) _ rfl w.heap.size 25 i0 _ 2 16 Try.underlying22 hi0 hz0 hz1 hz2 rfl (by omega) (.slice (some ⟨w.heap.size, 0, none⟩) 0 0) 0 [] rfl (World.ownsRow_lit w #[] 0 (Nat.le_refl _) (Nat.zero_le _) rfl) (some ad) l.length cap (flat l) rfl (flat_len l) (Row.alloc hz _) (flat_one l) (by unfold maxLen; omega) (by omega) (by simp) ?_; intro v1 w1 hown1 hg1 hat1; have X := Lib.hid (own_all (l := []) rfl hown1); have Y := Lib.hid (((Below.refl _ w).alloc (Nat.le_refl _) _).grown hg1 (by simp) (by simp [Value.ownBlock])); clear hown1)
    all_goals go_ret
    all_goals exact ⟨_, rfl, X.out, Y.out⟩
set_option maxHeartbeats 1000000 in
theorem last_any (a : Option Addr) (n cap : Nat) (l : List Sp) (m : Int) (w : World) (hn : l.length = n) (hc : n ≤ cap) (hr : n ≤ 8796093021952) (h0 : a = none → n = 0 ∧ cap = 0) (hf : Fits l) (m0 : -9223372036854775808 ≤ m) (m1 : m ≤ 9223372036854775807) (hz : Spans w a l) :
    Calls Try.prog 21 #[.slice a n cap, .int .i64 m] w fun e w' => ∃ v, e = .returned v ∧ Own w.heap.size w' v (if good l then lastS l m else []) ∧ Below w.heap.size w w' := by
  subst hn
  have c1 := fun W hz => good_any a l.length cap l W rfl (by omega) hf hz
  cases hg : good l with
  | false =>
    rw [hg] at c1
    go_enter Try.func21, Try.ntmps21
    go_wp2_with (go_at_call 16; refine (c1 _ hz).mono ?_; rintro e w1 ⟨rfl, hb1⟩)
    go_ret
    exact ⟨_, rfl, Own.nil _ _, hb1⟩
  | true =>
    rw [hg] at c1
    simp only [if_true]
    by_cases h1 : m < 1
    · have HL := Lib.hid (show lastS l m = [] by unfold lastS; rw [if_pos h1])
      go_enter Try.func21, Try.ntmps21
      go_wp2_with (go_at_call 16; refine (c1 _ hz).mono ?_; rintro e w1 ⟨rfl, hb1⟩)
      go_ret
      exact ⟨_, rfl, by rw [HL.out]; exact Own.nil _ _, hb1⟩
    · by_cases h2 : (l.length : Int) ≤ m
      · have HL := Lib.hid (show lastS l m = l by unfold lastS; rw [if_neg h1, if_pos h2])
        have c2 := fun W hz => clone_spans a l.length cap l W rfl hr h0 hz
        by_cases h3 : (l.length : Int) < m
        · have h4 : (l.length : Int) - m < 0 := by omega
          go_enter Try.func21, Try.ntmps21
          go_wp2_with (first
            | (go_at_call 16; (with_reducible refine (c1 _ hz).mono ?_); rintro e w1 ⟨rfl, hb1⟩)
            | (go_at_call 32; (with_reducible refine (c2 _ (hz.below hb1)).mono ?_); rintro e w2 ⟨v2, rfl, ho2, hb2⟩))
          go_ret
          exact ⟨_, rfl, by rw [HL.out]; exact ho2.mono hb1.size, Base.next hb1 hb2⟩
        · obtain rfl : m = (l.length : Int) := by omega
          go_enter Try.func21, Try.ntmps21
          go_wp2_with (first
            | (go_at_call 16; (with_reducible refine (c1 _ hz).mono ?_); rintro e w1 ⟨rfl, hb1⟩)
            | (go_at_call 32; (with_reducible refine (c2 _ (hz.below hb1)).mono ?_); rintro e w2 ⟨v2, rfl, ho2, hb2⟩))
          go_ret
          exact ⟨_, rfl, by rw [HL.out]; exact ho2.mono hb1.size, Base.next hb1 hb2⟩
      · obtain ⟨t, ht⟩ : ∃ t : Nat, (l.length : Int) - m = t := ⟨((l.length : Int) - m).toNat, by omega⟩
        have htl : t < l.length := by omega
        have HL := Lib.hid (show lastS l m = l.drop t by unfold lastS; rw [if_neg h1, if_neg h2]; congr 1; omega)
        have ht0 : ¬ (t : Int) < 0 := by omega
        obtain ⟨b, off, rfl, hb, _, _⟩ := hz.at_ htl
        have hct : ¬ cap = t := by omega
        have c2 := fun W hz => clone_spans (some ⟨b, off + t * 2, none⟩) (l.length - t) (cap - t) (l.drop t) W List.length_drop (by omega) (fun e => by cases e) hz
        go_enter Try.func21, Try.ntmps21
        go_wp2_with (first
          | (go_at_call 16; (with_reducible refine (c1 _ hz).mono ?_); rintro e w1 ⟨rfl, hb1⟩)
          | (go_at_call 32; (with_reducible refine (c2 _ ((hz.below hb1).drop t)).mono ?_); rintro e w2 ⟨v2, rfl, ho2, hb2⟩))
        go_ret
        exact ⟨_, rfl, by rw [HL.out]; exact ho2.mono hb1.size, Base.next hb1 hb2⟩
set_option maxHeartbeats 2000000 in
theorem from_any (a : Option Addr) (n cap : Nat) (l : List Sp) (lo : Int) (w : World) (hn : l.length = n) (hm : n ≤ 8796093021952) (hf : Fits l) (hz : Spans w a l) :
    Calls Try.prog 22 #[.slice a n cap, .int .u64 lo] w fun e w' => ∃ v, e = .returned v ∧ Own w.heap.size w' v (if good l then fromS l lo else []) ∧ Below w.heap.size w w' := by
  subst hn
  have c1 := fun W hz => good_any a l.length cap l W rfl (by omega) hf hz
  cases hg : good l with
  | false =>
    rw [hg] at c1
    go_enter Try.func22, Try.ntmps22
    go_wp2_with (go_at_call 16; refine (c1 _ hz).mono ?_; rintro e w1 ⟨rfl, hb1⟩)
    go_ret
    exact ⟨_, rfl, Own.nil _ _, hb1⟩
  | true =>
    rw [hg] at c1
    have HG := Lib.hid hg
    clear hg
    simp only [if_true]
    go_enter Try.func22, Try.ntmps22
    go_wp2_with (go_at_call 16; refine (c1 _ hz).mono ?_; rintro e w1 ⟨rfl, hb1⟩)
    have hz1 := hz.below hb1
    clear c1
    go_loopw [5, 13] (fun o i wr => ∃ k : Nat, k ≤ l.length ∧ i = .int .i64 k ∧ Own w1.heap.size wr o (fromS (l.take k) lo) ∧ Below w1.heap.size w1 wr) (fun _ i _ => l.length - (intOf i).toNat)
    case atStart => exact ⟨0, Nat.zero_le _, rfl, Own.nil _ _, Below.refl _ _⟩
    case round =>
      obtain ⟨k, hk, rfl, hown, hL⟩ := hrel
      by_cases hlt : k < l.length
      · obtain ⟨b, off, rfl, hb, c0, c1⟩ := (hz1.below hL).at_ hlt
        have HT := Lib.hid (from_take hlt lo)
        have hlen : (fromS (l.take k) lo).length ≤ k := by
          have := from_len (l.take k) lo
          rw [List.length_take] at this
          omega
        generalize l.getD k (0, 0) = c at *
        obtain ⟨x, y⟩ := c
        simp only at c0 c1
        have hbs := hL.size
        have hL1 := hL.alloc hL.size (.cells #[.int .u64 x, .int .u64 y] 25)
        have hown1 := hown.alloc (.cells #[.int .u64 x, .int .u64 y] 25)
        have hbs1 := hL1.size
        by_cases t1 : lo ≤ y
        · by_cases t0 : x < lo
          · have HC := Lib.hid (show from1 lo (x, y) = [(lo, y)] by unfold from1; rw [if_pos t1]; exact congrArg (fun z => [(z, y)]) (by simp only; omega))
            go_wp2_with (at_builtin; refine wpl_add (x := lo) (y := y) rfl (.tmp 21) (.tmp 29) rfl rfl hown1 rfl (by simp) (by omega) hbs1 ?_; intro v3 w3 A3; have A3h := Lib.hid A3; have gs := A3.size; clear A3)
            go_roundw
            case rel => exact ⟨k + 1, by omega, by go_num, by rw [HT.out, HC.out]; exact A3h.out.own, A3h.out.below hL1 (Nat.le_refl _)⟩
            case measure => simp [intOf]; omega
          · have HC := Lib.hid (show from1 lo (x, y) = [(x, y)] by unfold from1; rw [if_pos t1]; exact congrArg (fun z => [(z, y)]) (by simp only; omega))
            go_wp2_with (at_builtin; refine wpl_add (x := x) (y := y) rfl (.tmp 21) (.tmp 29) rfl rfl hown1 rfl (by simp) (by omega) hbs1 ?_; intro v3 w3 A3; have A3h := Lib.hid A3; have gs := A3.size; clear A3)
            go_roundw
            case rel => exact ⟨k + 1, by omega, by go_num, by rw [HT.out, HC.out]; exact A3h.out.own, A3h.out.below hL1 (Nat.le_refl _)⟩
            case measure => simp [intOf]; omega
        · have HC := Lib.hid (show from1 lo (x, y) = [] by unfold from1; rw [if_neg t1])
          go_wp2
          go_roundw
          case rel => exact ⟨k + 1, by omega, by go_num, by rw [HT.out, HC.out, List.append_nil]; exact hown1, hL1⟩
          case measure => simp [intOf]; omega
      · obtain rfl : k = l.length := by omega
        rw [List.take_of_length_le (Nat.le_refl _)] at hown
        go_wp2
        go_ret
        exact ⟨_, rfl, hown.mono hb1.size, Base.next hb1 hL⟩
end Go.Proofs.Ytipcabdodjkmoaa.Span
