/-
  Contracts of span's Within, Has, Count, Last.
-/
import Derived.Test.YtlhjnbommlaioaaSpan
import Derived.Test.YtlhjnbommlaioaaSpanOwn
namespace Go.Proofs.Ytlhjnbommlaioaa.Span
set_option linter.unusedVariables false
set_option maxRecDepth 20000
open Go.ChangeShapes Go.WideShapes Go.ChangeAt Go.RowKit
open Go.Proofs.Ytlhjnbommlaioaa.Base Go.Proofs.Ytlhjnbommlaioaa.SpanPlain Go.Proofs.Ytlhjnbommlaioaa.Sat

set_option maxHeartbeats 4000000 in
theorem within_good (a b : Option Addr) (n m capa capb : Nat) (l r : List Sp) (w : World) (hn : l.length = n) (hm : r.length = m) (hnb : n ≤ 140737488355328) (hmb : m ≤ 140737488355328) (hg : good l = true) (hr : good r = true) (hz : Spans w a l) (hy : Spans w b r) :
    Calls Try.prog 48 #[.slice a n capa, .slice b m capb] w fun e w' => e = .returned (.bool (inside l r)) ∧ Below w.heap.size w w' := by
  subst hn
  subst hm
  have c1 := fun W hz => good_any a l.length capa l W rfl hnb (Fits.of_good hg) hz
  have c2 := fun W hz => good_any b r.length capb r W rfl hmb (Fits.of_good hr) hz
  rw [hg] at c1
  rw [hr] at c2
  have HG := Lib.hid hg
  have HR := Lib.hid hr
  clear hg hr
  go_enter Try.func48, Try.ntmps48
  go_wp2_with (first
    | ((with_reducible refine (c1 _ hz).mono ?_); rintro e w1 ⟨rfl, hb1⟩)
    | ((with_reducible refine (c2 _ (hy.below hb1)).mono ?_); rintro e w2 ⟨rfl, hb2⟩))
  have hL2 := Base.next hb1 hb2
  have hz2 := hz.below hL2
  have hy2 := hy.below hL2
  clear hb1 hb2 hz hy c1 c2
  go_loopw [5, 18] (fun j i wr => ∃ k t : Nat, k ≤ l.length ∧ t ≤ r.length ∧ i = .int .i64 k ∧ j = .int .i64 t ∧ inside (l.take k) r = true ∧ Past l r k t ∧ Below w2.heap.size w2 wr) (fun _ i _ => l.length - (intOf i).toNat)
  case atStart => exact ⟨0, 0, Nat.zero_le _, Nat.zero_le _, rfl, rfl, rfl, Past.start _ _ _, Below.refl _ _⟩
  case round =>
    obtain ⟨k, t, hk, ht, rfl, rfl, hi, hp, hL⟩ := hrel
    by_cases hlt : k < l.length
    · obtain ⟨b1, off1, rfl, hb1, c0, c1⟩ := (hz2.below hL).at_ hlt
      have HI := Lib.hid (inside_take hlt r)
      have HS := Lib.hid (inside_stop (b := r) hlt)
      have HI1 := Lib.hid hi
      clear hi
      have hgk := good_get HG.out hlt
      generalize hs : l.getD k (0, 0) = s at *
      have HSD := Lib.hid hs
      clear hs
      obtain ⟨x, y⟩ := s
      simp only at c0 c1 hgk
      obtain ⟨x0, xy, y1⟩ := hgk
      obtain ⟨d0, d1, hsz, hL1, hkeep⟩ := boxed hL hL.size (.int .u64 x) (.int .u64 y) 61
      go_wp2
      generalize hW : wr.alloc (.cells #[.int .u64 x, .int .u64 y] 61) = W at *
      clear hkeep hsz
      have HW := Lib.hid hW
      clear hW
      go_loopw [5] (fun j wq => ∃ t : Nat, t ≤ r.length ∧ j = .int .i64 t ∧ Past l r k t ∧ Below W.heap.size W wq) (fun j _ => r.length - (intOf j).toNat)
      case atStart => exact ⟨t, ht, rfl, hp, Below.refl _ _⟩
      case round =>
        clear hp ht
        obtain ⟨t2, ht2, rfl, hp2, hLq⟩ := hrel
        have e0 := keep_cell hLq d0
        have e1 := keep_cell hLq d1
        have hLw : Below w2.heap.size w2 wr := hL1.trans (hLq.mono hL1.size)
        by_cases htl : t2 < r.length
        · obtain ⟨b2, off2, rfl, hb2, f0, f1⟩ := (hy2.below hLw).at_ htl
          have HP := Lib.hid (fun h => Past.step HG.out hp2 hlt (j := t2) h)
          have HC := Lib.hid (fun h => covers_here HG.out HR.out hp2 hlt htl h)
          have hgr := good_get HR.out htl
          rw [HSD.out] at HP HC
          have HP2 := Lib.hid hp2
          clear hp2
          generalize r.getD t2 (0, 0) = c at *
          obtain ⟨u, v⟩ := c
          simp only at f0 f1 hgr
          by_cases h1 : v < y
          · have t1 : decide (v < y) = true := by simpa using h1
            have HPN := Lib.hid (HP.out h1)
            go_wp2
            go_quiet (fail)
            go_wp2
            go_roundw
            case rel => exact ⟨t2 + 1, by omega, by go_num, HPN.out, Base.drawn hLq _⟩
            case measure => simp [intOf]; omega
          · have t1 : decide (v < y) = false := by simpa using h1
            have HCN := Lib.hid (HC.out h1)
            have hne : ((t2 : Int) == (r.length : Int)) = false := by simp; omega
            by_cases h2 : x < u
            · have t3 : decide (x < u) = true := by simpa using h2
              have HF := Lib.hid (HS.out (by rw [HCN.out]; simp; omega))
              go_wp2
              go_quiet (fail)
              go_wp2
              go_quiet (fail)
              go_wp2
              go_ret
              exact ⟨ret_bool HF.out.symm, Base.next hL2 (Base.drawn (Base.drawn hLw _) _)⟩
            · have t3 : decide (x < u) = false := by simpa using h2
              have HF := Lib.hid (show inside (l.take (k + 1)) r = true by rw [HI.out, HI1.out, HCN.out]; simp; omega)
              have HPN := Lib.hid HP2.out.next
              go_wp2
              go_quiet (fail)
              go_wp2
              go_quiet (fail)
              go_wp2
              go_roundw
              case rel => exact ⟨k + 1, t2, by omega, by omega, by go_num, rfl, HF.out, HPN.out, Base.drawn hLw _⟩
              case measure => simp [intOf]; omega
        · have hte : t2 = r.length := by omega
          have hne : ((t2 : Int) == (r.length : Int)) = true := by simp; omega
          have t1 : decide (t2 < r.length) = false := by simp; omega
          have HF := Lib.hid (HS.out (by rw [← HSD.out]; exact covers_end hp2 hlt (by omega)))
          have HTE := Lib.hid hte
          clear hte hp2
          go_wp2
          go_quiet (fail)
          go_wp2
          go_quiet (fail)
          go_wp2
          go_ret
          exact ⟨ret_bool HF.out.symm, Base.next hL2 (Base.drawn (Base.drawn hLw _) _)⟩
    · obtain rfl : k = l.length := by omega
      rw [List.take_of_length_le (Nat.le_refl _)] at hi
      have HI := Lib.hid hi
      clear hi
      go_wp2
      go_ret
      exact ⟨ret_bool HI.out.symm, Base.next hL2 hL⟩
theorem within_any (a b : Option Addr) (n m capa capb : Nat) (l r : List Sp) (w : World) (hn : l.length = n) (hm : r.length = m) (hnb : n ≤ 140737488355328) (hmb : m ≤ 140737488355328) (hfl : Fits l) (hfr : Fits r) (hz : Spans w a l) (hy : Spans w b r) :
    Calls Try.prog 48 #[.slice a n capa, .slice b m capb] w fun e w' => e = .returned (.bool (good l && good r && inside l r)) ∧ Below w.heap.size w w' := by
  have c1 := fun W hz => good_any a n capa l W hn hnb hfl hz
  have c2 := fun W hz => good_any b m capb r W hm hmb hfr hz
  cases hg : good l with
  | false =>
    rw [hg] at c1
    go_enter Try.func48, Try.ntmps48
    go_wp2_with (go_at_call 55; refine (c1 _ hz).mono ?_; rintro e w1 ⟨rfl, hb1⟩)
    go_ret
    exact ⟨rfl, hb1⟩
  | true =>
    cases hr : good r with
    | false =>
      rw [hg] at c1
      rw [hr] at c2
      go_enter Try.func48, Try.ntmps48
      go_wp2_with (first
        | ((with_reducible refine (c1 _ hz).mono ?_); rintro e w1 ⟨rfl, hb1⟩)
        | ((with_reducible refine (c2 _ (hy.below hb1)).mono ?_); rintro e w2 ⟨rfl, hb2⟩))
      go_ret
      exact ⟨rfl, Base.next hb1 hb2⟩
    | true => exact (within_good a b n m capa capb l r w hn hm hnb hmb hg hr hz hy).mono fun e w' ⟨he, hw⟩ => ⟨by rw [he]; rfl, hw⟩
theorem has_any (a : Option Addr) (n cap : Nat) (l : List Sp) (m : Int) (w : World) (hn : l.length = n) (hnb : n ≤ 140737488355328) (hf : Fits l) (h0 : 0 ≤ m) (h1 : m ≤ 18446744073709551615) (hz : Spans w a l) :
    Calls Try.prog 25 #[.slice a n cap, .int .u64 m] w fun e w' => e = .returned (.bool (good l && has l m)) ∧ Below w.heap.size w w' := by
  have hres : (good [(m, m)] && good l && inside [(m, m)] l) = (good l && has l m) := by
    cases hg : good l with
    | false => simp
    | true =>
      rw [inside_one hg, good_one h0]
      by_cases hm : m ≤ 4611686018427387903
      · rw [decide_eq_true hm]
        rfl
      · rw [decide_eq_false hm, has_big hg (by omega)]
        rfl
  have c := within_any (some ⟨w.heap.size, 0, none⟩) a 1 n 1 cap [(m, m)] l (w.alloc (.cells #[.int .u64 m, .int .u64 m] 61)) rfl hn (by decide) hnb (Fits.cons ⟨⟨h0, h1⟩, h0, h1⟩ Fits.nil) hf (Spans.of (lit_row w m m _) rfl) (Row.alloc hz _)
  rw [hres] at c
  clear hres
  go_enter Try.func25, Try.ntmps25
  go_wp2_with (go_at_call 48; refine c.mono ?_; rintro e w1 ⟨rfl, hb1⟩)
  go_ret
  exact ⟨rfl, Base.below_step (Below.refl _ _) hb1⟩
end Go.Proofs.Ytlhjnbommlaioaa.Span
