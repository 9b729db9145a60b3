/-
  Several texts in one: Span3, Span2.
-/
import Derived.Test.YtkiloaebokkjbaaGreatSpan
import Derived.Test.YtkiloaebokkjbaaGreatSpanOwn
import Derived.Laws.BytesArg
/-
  Contracts of span's Last, From, Cut.
-/
set_option linter.unusedSimpArgs false
set_option linter.unusedVariables false
namespace Go.Proofs.YtkiloaebokkjbaaGreat.Span
set_option linter.unusedVariables false
set_option maxRecDepth 20000
open Go.ChangeShapes Go.WideShapes Go.ChangeAt Go.RowKit
open Go.Proofs.YtkiloaebokkjbaaGreat.Base Go.Proofs.YtkiloaebokkjbaaGreat.SpanPlain Go.Proofs.YtkiloaebokkjbaaGreat.Sat

theorem clone_spans (a : Option Addr) (n cap : Nat) (l : List Sp) (w : World) (hn : l.length = n) (hr : n ≤ 8796093021952) (h0 : a = none → n = 0 ∧ cap = 0) (hz : Spans w a l) :
    Calls Tryz.prog 98 #[.slice a n cap] w fun e w' => ∃ v, e = .returned v ∧ Own w.heap.size w' v l ∧ Below w.heap.size w w' := by
  obtain ⟨i0, hi0, hz0, hz1, hz2⟩ := info_parts Base.info
  have qT : ∀ (w : World) (a : Option Addr) (n c : Nat), (binOp .eql 54 (.slice a n c) (.slice none 0 0)).run Tryz.prog w = .ok (.bool a.isNone) w := fun w a n c => Lib.run_eql_slice_nil w _ _ a n c 0 0 Tryz.underlying54
  cases a with
  | none =>
    obtain ⟨rfl, rfl⟩ := h0 rfl
    obtain rfl : l = [] := List.eq_nil_of_length_eq_zero hn
    go_enter Tryz.func98, Tryz.ntmps98
    go_wp2
    all_goals go_ret
    all_goals exact ⟨_, rfl, Own.nil _ _, Below.refl _ _⟩
  | some ad =>
    subst hn
    go_enter Tryz.func98, Tryz.ntmps98
    go_wp2_with (at_builtin; refine wpl_append_row _ rfl (.tmp 5) (.tmp 6) _ rfl w.heap.size 119 i0 _ 2 16 Tryz.underlying54 hi0 hz0 hz1 hz2 rfl (by omega) (.slice (some ⟨w.heap.size, 0, none⟩) 0 0) 0 [] rfl (World.ownsRow_lit w #[] 0 (Nat.le_refl _) (Nat.zero_le _) rfl) (some ad) l.length cap (flat l) rfl (flat_len l) (Row.alloc hz _) (flat_one l) (by unfold maxLen; omega) (by omega) (by simp) ?_; intro v1 w1 hown1 hg1 hat1; have X := Lib.hid (own_all (l := []) rfl hown1); have Y := Lib.hid (((Below.refl _ w).alloc (Nat.le_refl _) _).grown hg1 (by simp) (by simp [Value.ownBlock])); clear hown1)
    all_goals go_ret
    all_goals exact ⟨_, rfl, X.out, Y.out⟩
set_option maxHeartbeats 2000000 in
theorem from_any (a : Option Addr) (n cap : Nat) (l : List Sp) (lo : Int) (w : World) (hn : l.length = n) (hm : n ≤ 8796093021952) (hf : Fits l) (hz : Spans w a l) :
    Calls Tryz.prog 117 #[.slice a n cap, .int .u64 lo] w fun e w' => ∃ v, e = .returned v ∧ Own w.heap.size w' v (if good l then fromS l lo else []) ∧ Below w.heap.size w w' := by
  subst hn
  have c1 := fun W hz => good_any a l.length cap l W rfl (by omega) hf hz
  cases hg : good l with
  | false =>
    rw [hg] at c1
    go_enter Tryz.func117, Tryz.ntmps117
    go_wp2_with (go_at_call 115; refine (c1 _ hz).mono ?_; rintro e w1 ⟨rfl, hb1⟩)
    go_ret
    exact ⟨_, rfl, Own.nil _ _, hb1⟩
  | true =>
    rw [hg] at c1
    have HG := Lib.hid hg
    clear hg
    simp only [if_true]
    go_enter Tryz.func117, Tryz.ntmps117
    go_wp2_with (go_at_call 115; refine (c1 _ hz).mono ?_; rintro e w1 ⟨rfl, hb1⟩)
    have hz1 := hz.below hb1
    clear c1
    go_loopw [5, 13] (fun o i wr => ∃ k : Nat, k ≤ l.length ∧ i = .int .i64 k ∧ Own w1.heap.size wr o (fromS (l.take k) lo) ∧ Below w1.heap.size w1 wr) (fun _ i _ => l.length - (intOf i).toNat)
    case atStart => exact ⟨0, Nat.zero_le _, rfl, Own.nil _ _, Below.refl _ _⟩
    case round =>
      obtain ⟨k, hk, rfl, hown, hL⟩ := hrel
      by_cases hlt : k < l.length
      · obtain ⟨b, off, rfl, hb, c0, c1⟩ := (hz1.below hL).at_ hlt
        have HT := Lib.hid (from_take hlt lo)
        have hlen : (fromS (l.take k) lo).length ≤ k := by
          have := from_len (l.take k) lo
          rw [List.length_take] at this
          omega
        generalize l.getD k (0, 0) = c at *
        obtain ⟨x, y⟩ := c
        simp only at c0 c1
        have hbs := hL.size
        have hL1 := hL.alloc hL.size (.cells #[.int .u64 x, .int .u64 y] 119)
        have hown1 := hown.alloc (.cells #[.int .u64 x, .int .u64 y] 119)
        have hbs1 := hL1.size
        by_cases t1 : lo ≤ y
        · by_cases t0 : x < lo
          · have HC := Lib.hid (show from1 lo (x, y) = [(lo, y)] by unfold from1; rw [if_pos t1]; exact congrArg (fun z => [(z, y)]) (by simp only; omega))
            go_wp2_with (at_builtin; refine wpl_add (x := lo) (y := y) rfl (.tmp 21) (.tmp 29) rfl rfl hown1 rfl (by simp) (by omega) hbs1 ?_; intro v3 w3 A3; have A3h := Lib.hid A3; have gs := A3.size; clear A3)
            go_roundw
            case rel => exact ⟨k + 1, by omega, by go_num, by rw [HT.out, HC.out]; exact A3h.out.own, A3h.out.below hL1 (Nat.le_refl _)⟩
            case measure => simp [intOf]; omega
          · have HC := Lib.hid (show from1 lo (x, y) = [(x, y)] by unfold from1; rw [if_pos t1]; exact congrArg (fun z => [(z, y)]) (by simp only; omega))
            go_wp2_with (at_builtin; refine wpl_add (x := x) (y := y) rfl (.tmp 21) (.tmp 29) rfl rfl hown1 rfl (by simp) (by omega) hbs1 ?_; intro v3 w3 A3; have A3h := Lib.hid A3; have gs := A3.size; clear A3)
            go_roundw
            case rel => exact ⟨k + 1, by omega, by go_num, by rw [HT.out, HC.out]; exact A3h.out.own, A3h.out.below hL1 (Nat.le_refl _)⟩
            case measure => simp [intOf]; omega
        · have HC := Lib.hid (show from1 lo (x, y) = [] by unfold from1; rw [if_neg t1])
          go_wp2
          go_roundw
          case rel => exact ⟨k + 1, by omega, by go_num, by rw [HT.out, HC.out, List.append_nil]; exact hown1, hL1⟩
          case measure => simp [intOf]; omega
      · obtain rfl : k = l.length := by omega
        rw [List.take_of_length_le (Nat.le_refl _)] at hown
        go_wp2
        go_ret
        exact ⟨_, rfl, hown.mono hb1.size, Base.next hb1 hL⟩
end Go.Proofs.YtkiloaebokkjbaaGreat.Span

/-
  Contracts of span's Within, Has, Count, Last.
-/
set_option linter.unusedSimpArgs false
set_option linter.unusedVariables false
namespace Go.Proofs.YtkiloaebokkjbaaGreat.Span
set_option linter.unusedVariables false
set_option maxRecDepth 20000
open Go.ChangeShapes Go.WideShapes Go.ChangeAt Go.RowKit
open Go.Proofs.YtkiloaebokkjbaaGreat.Base Go.Proofs.YtkiloaebokkjbaaGreat.SpanPlain Go.Proofs.YtkiloaebokkjbaaGreat.Sat

set_option maxHeartbeats 4000000 in
theorem within_good (a b : Option Addr) (n m capa capb : Nat) (l r : List Sp) (w : World) (hn : l.length = n) (hm : r.length = m) (hnb : n ≤ 140737488355328) (hmb : m ≤ 140737488355328) (hg : good l = true) (hr : good r = true) (hz : Spans w a l) (hy : Spans w b r) :
    Calls Tryz.prog 91 #[.slice a n capa, .slice b m capb] w fun e w' => e = .returned (.bool (inside l r)) ∧ Below w.heap.size w w' := by
  subst hn
  subst hm
  have c1 := fun W hz => good_any a l.length capa l W rfl hnb (Fits.of_good hg) hz
  have c2 := fun W hz => good_any b r.length capb r W rfl hmb (Fits.of_good hr) hz
  rw [hg] at c1
  rw [hr] at c2
  have HG := Lib.hid hg
  have HR := Lib.hid hr
  clear hg hr
  go_enter Tryz.func91, Tryz.ntmps91
  go_wp2_with (first
    | ((with_reducible refine (c1 _ hz).mono ?_); rintro e w1 ⟨rfl, hb1⟩)
    | ((with_reducible refine (c2 _ (hy.below hb1)).mono ?_); rintro e w2 ⟨rfl, hb2⟩))
  have hL2 := Base.next hb1 hb2
  have hz2 := hz.below hL2
  have hy2 := hy.below hL2
  clear hb1 hb2 hz hy c1 c2
  go_loopw [5, 18] (fun j i wr => ∃ k t : Nat, k ≤ l.length ∧ t ≤ r.length ∧ i = .int .i64 k ∧ j = .int .i64 t ∧ inside (l.take k) r = true ∧ Past l r k t ∧ Below w2.heap.size w2 wr) (fun _ i _ => l.length - (intOf i).toNat)
  case atStart => exact ⟨0, 0, Nat.zero_le _, Nat.zero_le _, rfl, rfl, rfl, Past.start _ _ _, Below.refl _ _⟩
  case round =>
    obtain ⟨k, t, hk, ht, rfl, rfl, hi, hp, hL⟩ := hrel
    by_cases hlt : k < l.length
    · obtain ⟨b1, off1, rfl, hb1, c0, c1⟩ := (hz2.below hL).at_ hlt
      have HI := Lib.hid (inside_take hlt r)
      have HS := Lib.hid (inside_stop (b := r) hlt)
      have HI1 := Lib.hid hi
      clear hi
      have hgk := good_get HG.out hlt
      generalize hs : l.getD k (0, 0) = s at *
      have HSD := Lib.hid hs
      clear hs
      obtain ⟨x, y⟩ := s
      simp only at c0 c1 hgk
      obtain ⟨x0, xy, y1⟩ := hgk
      obtain ⟨d0, d1, hsz, hL1, hkeep⟩ := boxed hL hL.size (.int .u64 x) (.int .u64 y) 119
      go_wp2
      generalize hW : wr.alloc (.cells #[.int .u64 x, .int .u64 y] 119) = W at *
      clear hkeep hsz
      have HW := Lib.hid hW
      clear hW
      go_loopw [5] (fun j wq => ∃ t : Nat, t ≤ r.length ∧ j = .int .i64 t ∧ Past l r k t ∧ Below W.heap.size W wq) (fun j _ => r.length - (intOf j).toNat)
      case atStart => exact ⟨t, ht, rfl, hp, Below.refl _ _⟩
      case round =>
        clear hp ht
        obtain ⟨t2, ht2, rfl, hp2, hLq⟩ := hrel
        have e0 := keep_cell hLq d0
        have e1 := keep_cell hLq d1
        have hLw : Below w2.heap.size w2 wr := hL1.trans (hLq.mono hL1.size)
        by_cases htl : t2 < r.length
        · obtain ⟨b2, off2, rfl, hb2, f0, f1⟩ := (hy2.below hLw).at_ htl
          have HP := Lib.hid (fun h => Past.step HG.out hp2 hlt (j := t2) h)
          have HC := Lib.hid (fun h => covers_here HG.out HR.out hp2 hlt htl h)
          have hgr := good_get HR.out htl
          rw [HSD.out] at HP HC
          have HP2 := Lib.hid hp2
          clear hp2
          generalize r.getD t2 (0, 0) = c at *
          obtain ⟨u, v⟩ := c
          simp only at f0 f1 hgr
          by_cases h1 : v < y
          · have t1 : decide (v < y) = true := by simpa using h1
            have HPN := Lib.hid (HP.out h1)
            go_wp2
            go_quiet (fail)
            go_wp2
            go_roundw
            case rel => exact ⟨t2 + 1, by omega, by go_num, HPN.out, Base.drawn hLq _⟩
            case measure => simp [intOf]; omega
          · have t1 : decide (v < y) = false := by simpa using h1
            have HCN := Lib.hid (HC.out h1)
            have hne : ((t2 : Int) == (r.length : Int)) = false := by simp; omega
            by_cases h2 : x < u
            · have t3 : decide (x < u) = true := by simpa using h2
              have HF := Lib.hid (HS.out (by rw [HCN.out]; simp; omega))
              go_wp2
              go_quiet (fail)
              go_wp2
              go_quiet (fail)
              go_wp2
              go_ret
              exact ⟨ret_bool HF.out.symm, Base.next hL2 (Base.drawn (Base.drawn hLw _) _)⟩
            · have t3 : decide (x < u) = false := by simpa using h2
              have HF := Lib.hid (show inside (l.take (k + 1)) r = true by rw [HI.out, HI1.out, HCN.out]; simp; omega)
              have HPN := Lib.hid HP2.out.next
              go_wp2
              go_quiet (fail)
              go_wp2
              go_quiet (fail)
              go_wp2
              go_roundw
              case rel => exact ⟨k + 1, t2, by omega, by omega, by go_num, rfl, HF.out, HPN.out, Base.drawn hLw _⟩
              case measure => simp [intOf]; omega
        · have hte : t2 = r.length := by omega
          have hne : ((t2 : Int) == (r.length : Int)) = true := by simp; omega
          have t1 : decide (t2 < r.length) = false := by simp; omega
          have HF := Lib.hid (HS.out (by rw [← HSD.out]; exact covers_end hp2 hlt (by omega)))
          have HTE := Lib.hid hte
          clear hte hp2
          go_wp2
          go_quiet (fail)
          go_wp2
          go_quiet (fail)
          go_wp2
          go_ret
          exact ⟨ret_bool HF.out.symm, Base.next hL2 (Base.drawn (Base.drawn hLw _) _)⟩
    · obtain rfl : k = l.length := by omega
      rw [List.take_of_length_le (Nat.le_refl _)] at hi
      have HI := Lib.hid hi
      clear hi
      go_wp2
      go_ret
      exact ⟨ret_bool HI.out.symm, Base.next hL2 hL⟩
theorem within_any (a b : Option Addr) (n m capa capb : Nat) (l r : List Sp) (w : World) (hn : l.length = n) (hm : r.length = m) (hnb : n ≤ 140737488355328) (hmb : m ≤ 140737488355328) (hfl : Fits l) (hfr : Fits r) (hz : Spans w a l) (hy : Spans w b r) :
    Calls Tryz.prog 91 #[.slice a n capa, .slice b m capb] w fun e w' => e = .returned (.bool (good l && good r && inside l r)) ∧ Below w.heap.size w w' := by
  have c1 := fun W hz => good_any a n capa l W hn hnb hfl hz
  have c2 := fun W hz => good_any b m capb r W hm hmb hfr hz
  cases hg : good l with
  | false =>
    rw [hg] at c1
    go_enter Tryz.func91, Tryz.ntmps91
    go_wp2_with (go_at_call 115; refine (c1 _ hz).mono ?_; rintro e w1 ⟨rfl, hb1⟩)
    go_ret
    exact ⟨rfl, hb1⟩
  | true =>
    cases hr : good r with
    | false =>
      rw [hg] at c1
      rw [hr] at c2
      go_enter Tryz.func91, Tryz.ntmps91
      go_wp2_with (first
        | ((with_reducible refine (c1 _ hz).mono ?_); rintro e w1 ⟨rfl, hb1⟩)
        | ((with_reducible refine (c2 _ (hy.below hb1)).mono ?_); rintro e w2 ⟨rfl, hb2⟩))
      go_ret
      exact ⟨rfl, Base.next hb1 hb2⟩
    | true => exact (within_good a b n m capa capb l r w hn hm hnb hmb hg hr hz hy).mono fun e w' ⟨he, hw⟩ => ⟨by rw [he]; rfl, hw⟩
theorem has_any (a : Option Addr) (n cap : Nat) (l : List Sp) (m : Int) (w : World) (hn : l.length = n) (hnb : n ≤ 140737488355328) (hf : Fits l) (h0 : 0 ≤ m) (h1 : m ≤ 18446744073709551615) (hz : Spans w a l) :
    Calls Tryz.prog 94 #[.slice a n cap, .int .u64 m] w fun e w' => e = .returned (.bool (good l && has l m)) ∧ Below w.heap.size w w' := by
  have hres : (good [(m, m)] && good l && inside [(m, m)] l) = (good l && has l m) := by
    cases hg : good l with
    | false => simp
    | true =>
      rw [inside_one hg, good_one h0]
      by_cases hm : m ≤ 4611686018427387903
      · rw [decide_eq_true hm]
        rfl
      · rw [decide_eq_false hm, has_big hg (by omega)]
        rfl
  have c := within_any (some ⟨w.heap.size, 0, none⟩) a 1 n 1 cap [(m, m)] l (w.alloc (.cells #[.int .u64 m, .int .u64 m] 119)) rfl hn (by decide) hnb (Fits.cons ⟨⟨h0, h1⟩, h0, h1⟩ Fits.nil) hf (Spans.of (lit_row w m m _) rfl) (Row.alloc hz _)
  rw [hres] at c
  clear hres
  go_enter Tryz.func94, Tryz.ntmps94
  go_wp2_with (go_at_call 91; refine c.mono ?_; rintro e w1 ⟨rfl, hb1⟩)
  go_ret
  exact ⟨rfl, Base.below_step (Below.refl _ _) hb1⟩
end Go.Proofs.YtkiloaebokkjbaaGreat.Span
