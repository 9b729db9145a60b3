/-
  Contracts of the reference's rows of spans as bytes.
-/
import Derived.Test.YtangljeceohdpaaDoorAckRef
namespace Go.Proofs.YtangljeceohdpaaDoor.Ack
set_option linter.unusedVariables false
set_option maxRecDepth 20000
open Go.ChangeShapes Go.WideShapes Go.ChangeAt Go.RowKit
open Go.Proofs.YtangljeceohdpaaDoor.Base Go.Proofs.YtangljeceohdpaaDoor.OctPlain Go.Proofs.YtangljeceohdpaaDoor.Tab Go.Proofs.YtangljeceohdpaaDoor.Oct Go.Proofs.YtangljeceohdpaaDoor.SpanPlain Go.Proofs.YtangljeceohdpaaDoor.SpanRef
open Go.Proofs.YtangljeceohdpaaDoor.AckPlain (K putAck getAck getRow getSp putSp getNum comb Fit)

set_option maxHeartbeats 1000000 in
theorem ref_put_row {base : Nat} {w : World} {v : Value} {xs : List Int} (h : Oct.Own base w v xs) (hB : base ≤ w.heap.size) (hx : xs.length ≤ 100000) (a : Option Addr) (n cap : Nat) (l : List Sp) (hn : l.length = n) (hm : n ≤ 32) (hg : good l = true)
    (hz : ∀ w', Fr (fun k => base ≤ k) w w' → Spans w' a l) :
    Calls Tryd.prog 27 #[v, .slice a n cap] w fun e w' => ∃ v', e = .returned v' ∧ Oct.Own base w' v' (xs ++ AckPlain.putRow l) ∧ Fr (fun k => base ≤ k) w w' := by
  obtain ⟨i0, hi0, hz0, hz1, hz2⟩ := info_parts Oct.info
  have hnI : (n : Int) ≤ 32 := by omega
  go_enter Tryd.func27, Tryd.ntmps27
  go_wp2_with (at_builtin; refine wpl_append_row _ rfl (.tmp 7) (.tmp 11) _ rfl base 5 i0 _ 1 1 Tryd.underlying27 hi0 hz0 hz1 hz2 rfl (by omega) _ _ _ rfl (h.alloc _) (some ⟨w.heap.size, 0, none⟩) 1 1 [.int .u8 n] rfl rfl (Row.lit w _ [.int .u8 n]) (by simp [Value.oneCell']) (by unfold maxLen; omega) (by omega) (by simp; omega) ?_; intro v1 w1 hown1 hg1 hat1; have F1 := Oct.Own.turned h hg1; have O1 : Oct.Own base w1 v1 (xs ++ [(n : Int)]) := Oct.Own.snoc hown1; clear hown1 hg1 hat1)
  go_loopw [0, 5, 6] (fun b lo i wr => ∃ (k : Nat) (low : Int) (ys : List Int), k ≤ n ∧ i = .int .i64 k ∧ lo = .int .u64 low ∧ Oct.Own base wr b ys ∧ ys ++ putSp low (l.drop k) = xs ++ AckPlain.putRow l ∧ ys.length ≤ xs.length + 1 + 16 * k ∧ goodFrom low (l.drop k) = true ∧ 0 ≤ low ∧ Fr (fun k => base ≤ k) w wr) (fun _ _ i _ => n - (intOf i).toNat)
  case atStart => exact ⟨0, 0, xs ++ [(n : Int)], Nat.zero_le _, rfl, rfl, O1, by rw [List.drop_zero, AckPlain.putRow, hn, List.append_assoc]; rfl, by simp, by rw [List.drop_zero]; exact hg, Int.le_refl _, F1⟩
  case round =>
    obtain ⟨k, low, ys, hk, rfl, rfl, hown, hyz, hyl, hgf, hlow, hF⟩ := hrel
    clear O1 F1 h
    by_cases hlt : k < n
    · obtain ⟨s1, s2, s3, s4⟩ := AckPlain.good_step (hn ▸ hlt) hgf
      have hPS := Lib.hid (AckPlain.putSp_step (hn ▸ hlt) low)
      have hYZ := Lib.hid hyz
      obtain ⟨g, off, rfl, hgl, c0, c1⟩ := (hz wr hF).at_ (hn ▸ hlt)
      have K0 : ∀ w', Fr (fun k => base ≤ k) w w' → w'.cell? ⟨g, off + k * 2, none⟩ = some (.int .u64 (l.getD k (0, 0)).1) ∧ w'.cell? ⟨g, off + k * 2 + 1, none⟩ = some (.int .u64 (l.getD k (0, 0)).2) := fun w' hf => by
        obtain ⟨g', off', e, _, d0, d1⟩ := (hz w' hf).at_ (hn ▸ hlt)
        cases e
        exact ⟨d0, d1⟩
      clear hyz hgf
      generalize l.getD k (0, 0) = s at *
      obtain ⟨x, y⟩ := s
      dsimp only at c0 c1 K0 s1 s2 s3 s4 hPS
      have hsz := Nat.le_trans hB hF.size
      have hkI : (k : Int) < (n : Int) := by omega
      have lp1 : (put (x - low)).length ≤ 8 := by have := put_len (x - low); have := size_bd (x - low); omega
      have lp2 : (put (y - x)).length ≤ 8 := by have := put_len (y - x); have := size_bd (y - x); omega
      go_wp2_with (go_at_call 20; refine (ref_put hown hsz (by omega) (x - low) (by omega) (by omega)).mono ?_; rintro e w2 ⟨v2, rfl, O2, F2⟩; have G2 := hF.trans F2 (fun _ _ h => h); obtain ⟨d0, d1⟩ := K0 w2 G2; obtain ⟨d0', d1'⟩ := K0 w2.drew G2.drew; clear c0 c1)
      have ew : IntKind.u64.wrap (y - x) = y - x := by rw [IntKind.wrap_u64]; omega
      have hO2 : (ys ++ put (x - low)).length ≤ 1048576 := by rw [List.length_append]; omega
      have hsz2 := Nat.le_trans hB G2.size
      go_region_with (go_at_call 20; refine (ref_put (w := w2.drew) O2.drew hsz2 hO2 (y - x) (by omega) (by omega)).mono ?_; rintro e w3 ⟨v3, rfl, O3, F3⟩; have G3 := G2.trans (T := fun k => base ≤ k) ⟨F3.os, F3.tape, F3.output, F3.size, F3.block⟩ (fun _ _ h => h); obtain ⟨e0, e1⟩ := K0 w3 G3)
      all_goals go_wp2
      all_goals exact ⟨⟨k + 1, y + 2, _, by omega, by go_num, rfl, O3, by rw [← hYZ.out, hPS.out]; simp only [List.append_assoc], by simp only [List.length_append]; omega, s4, by omega, G3⟩, by simp [intOf]; omega⟩
    · obtain rfl : k = n := by omega
      have hd : l.drop k = [] := List.drop_eq_nil_of_le (by omega)
      rw [hd, AckPlain.putSp, List.append_nil] at hyz
      go_wp2
      go_ret
      exact ⟨_, rfl, hyz ▸ hown, hF⟩
/-- What a reading of a row comes to. -/
def RowPost (w : World) (t : Nat) (R : List Sp × Nat × Int) : Ending → World → Prop := fun e w' => ∃ (a : Option Addr) (c : Nat) (s : Int), e = .returned (.tuple #[.slice a R.1.length c, .int .i64 s, .int .i64 R.2.2]) ∧ (R.2.2 = 0 → s = (t : Int) + (R.2.1 : Int)) ∧
  R.1.length ≤ c ∧ c ≤ maxLen ∧ (a = none → R.1.length = 0 ∧ c = 0) ∧ RowIn (fun k => w.heap.size ≤ k) w' a (flat R.1) ∧ Below w.heap.size w w'
theorem row_bad {w w' : World} {t : Nat} {R : List Sp × Nat × Int} {e s : Int} (h : R = ([], 0, e)) (he : e ≠ 0) (hL : Below w.heap.size w w') : RowPost w t R (.returned (.tuple #[.slice none 0 0, .int .i64 s, .int .i64 e])) w' := by
  subst h
  exact ⟨none, 0, s, rfl, fun h => absurd h he, Nat.le_refl _, Nat.zero_le _, (fun _ => ⟨rfl, rfl⟩), RowIn.nil _ _ _, hL⟩
set_option maxHeartbeats 2000000 in
set_option maxRecDepth 100000 in
theorem ref_get_row (a : Option Addr) (n cap t : Nat) (s least : Int) (l : List Int) (w : World) (hn : l.length = n) (hs : s = t) (ht : t ≤ n) (hl0 : 0 ≤ least) (hl1 : least ≤ 1) (hr : n ≤ 140737488355328) (hb : Bytes l) (hz : Ints .u8 w a l) :
    Calls Tryd.prog 32 #[.slice a n cap, .int .i64 s, .int .i64 least] w (RowPost w t (getRow least (l.drop t))) := by
  subst hs
  have hld : (l.drop t).length = n - t := by rw [List.length_drop, hn]
  cases hd : l.drop t with
  | nil =>
    rw [hd] at hld
    have hle : (n : Int) ≤ (t : Int) := by simp at hld; omega
    go_enter Tryd.func32, Tryd.ntmps32
    go_wp2
    all_goals go_ret3
    all_goals exact row_bad (e := 2) rfl (by decide) (Below.refl _ _)
  | cons x q =>
    rw [hd] at hld
    have hlt : (t : Int) < (n : Int) := by simp at hld; omega
    obtain ⟨g, off, rfl, hgl, hcx⟩ := Oct.Row.at_drop (t := t) (i := 0) hz (by rw [hd]; rfl)
    rw [Nat.add_zero] at hcx
    obtain ⟨x0, x1⟩ := (hd ▸ hb.drop t : Bytes (x :: q)).head
    have hq : q = l.drop (t + 1) := by rw [← List.drop_drop, hd]; rfl
    by_cases hx : x < least ∨ 32 < x
    · have hR : getRow least (x :: q) = ([], 0, 5) := by rw [getRow, if_pos hx]
      clear hd hld hq
      generalize getRow least (x :: q) = R at hR ⊢
      have HR := Lib.hid hR
      clear hR
      go_enter Tryd.func32, Tryd.ntmps32
      go_wp2
      all_goals go_ret3
      all_goals exact row_bad (e := 5) HR.out (by decide) (Below.refl _ _)
    · have hR : getRow least (x :: q) = if (getSp x.toNat 0 q).2.2 ≠ 0 then ([], 0, (getSp x.toNat 0 q).2.2) else ((getSp x.toNat 0 q).1, 1 + (getSp x.toNat 0 q).2.1, 0) := by rw [getRow, if_neg hx]
      obtain ⟨m, hm⟩ : ∃ m : Nat, x = m := ⟨x.toNat, by omega⟩
      subst hm
      rw [Int.toNat_natCast] at hR
      have hm32 : (m : Int) ≤ 32 := by omega
      generalize getRow least ((m : Int) :: q) = R at hR ⊢
      have HR := Lib.hid hR
      clear hR
      have HB : ∀ e, e ≠ 0 → getSp m 0 q = ([], 0, e) → R = ([], 0, e) := fun e he h => by rw [HR.out, h]; exact if_pos he
      have hxl : least ≤ (m : Int) := by omega
      have hbd : ∀ t', Bytes (l.drop t') := fun t' => hb.drop t'
      go_enter Tryd.func32, Tryd.ntmps32
      go_wp2
      go_loopw [1, 10, 11, 12] (fun at_ o lo i wr => ∃ (k t' : Nat) (low : Int) (pre : List Sp), k ≤ m ∧ i = .int .i64 k ∧ at_ = .int .i64 t' ∧ lo = .int .u64 low ∧ Base.Own w.heap.size wr o pre ∧ pre.length = k ∧ t + 1 ≤ t' ∧ t' ≤ n ∧ getSp m 0 q = comb pre (t' - (t + 1)) (getSp (m - k) low (l.drop t')) ∧ 0 ≤ low ∧ low ≤ 4611686018427387905 ∧ Below w.heap.size w wr) (fun _ _ _ i _ => m - (intOf i).toNat)
      case atStart => exact ⟨0, t + 1, 0, [], Nat.zero_le _, rfl, by go_num, rfl, Base.Own.nil _ _, rfl, Nat.le_refl _, by omega, by rw [Nat.sub_self, Nat.sub_zero, AckPlain.comb_start, hq], Int.le_refl _, by decide, Below.refl _ _⟩
      case round =>
        obtain ⟨k, t', low, pre, hk, rfl, rfl, rfl, hown, hpl, ht1, ht2, hg, hlow, hlow2, hL⟩ := hrel
        by_cases hkm : k < m
        · obtain ⟨j, hj⟩ : ∃ j, m - k = j + 1 := ⟨m - k - 1, by omega⟩
          rw [hj] at hg
          have hkI : (k : Int) < (m : Int) := by omega
          have ht2I : (t' : Int) ≤ (n : Int) := by omega
          obtain ⟨⟨x1, k1, e1⟩, n1⟩ : ∃ r, num (l.drop t') = r := ⟨_, rfl⟩
          have C1 := ref_num_at (some ⟨g, off, none⟩) n cap t' t' l wr hn rfl ht2 hr hb (hz.below hL)
          have b1 := num_bd (hbd t')
          have g1 := num_len (l.drop t')
          rw [n1] at C1 b1 g1
          dsimp only at C1 b1 g1
          rw [List.length_drop, hn] at g1
          obtain ⟨b10, b11⟩ := b1
          have hgH := Lib.hid hg
          have hownH := Lib.hid hown
          clear hg hq hd hld
          by_cases c1 : e1 = 0
          · subst c1
            by_cases c2 : 4611686018427387903 < low ∨ 4611686018427387903 - low < x1
            · have hX : R = ([], 0, 5) := HB 5 (by decide) (hgH.out.trans (AckPlain.comb_low _ _ _ (by rw [n1]) (by rw [n1]; exact c2)))
              have HX := Lib.hid hX
              clear hX n1
              by_cases c2' : 4611686018427387903 < low
              · go_wp2_with (go_at_call 40; refine C1.mono ?_; rintro e w' ⟨rfl, rfl⟩)
                all_goals go_ret3
                all_goals exact row_bad (e := 5) HX.out (by decide) hL
              · have c2'' : 4611686018427387903 - low < x1 := by omega
                go_wp2_with (go_at_call 40; refine C1.mono ?_; rintro e w' ⟨rfl, rfl⟩)
                all_goals go_ret3
                all_goals exact row_bad (e := 5) HX.out (by decide) hL
            · obtain ⟨t2, u2⟩ : ∃ t2, t2 = t' + k1 := ⟨_, rfl⟩
              have hdd : (l.drop t').drop k1 = l.drop t2 := by rw [List.drop_drop, u2]
              obtain ⟨⟨y1, k2, e2⟩, n2⟩ : ∃ r, num (l.drop t2) = r := ⟨_, rfl⟩
              have C2 := ref_num_at (some ⟨g, off, none⟩) n cap t2 t2 l wr hn rfl (by omega) hr hb (hz.below hL)
              have b2 := num_bd (hbd t2)
              have g2 := num_len (l.drop t2)
              rw [n2] at C2 b2 g2
              dsimp only at C2 b2 g2
              rw [List.length_drop, hn] at g2
              obtain ⟨b20, b21⟩ := b2
              rw [show (t' : Int) + (k1 : Int) = (t2 : Int) by omega] at C1
              obtain ⟨t3, u3⟩ : ∃ t3, t3 = t2 + k2 := ⟨_, rfl⟩
              rw [show (t2 : Int) + (k2 : Int) = (t3 : Int) by omega] at C2
              have c20 : low ≤ 4611686018427387903 := by omega
              have c21 : x1 ≤ 4611686018427387903 - low := by omega
              by_cases c3 : e2 = 0
              · subst c3
                by_cases c4 : 4611686018427387903 - (low + x1) < y1
                · have hX : R = ([], 0, 5) := HB 5 (by decide) (hgH.out.trans (AckPlain.comb_high _ _ _ (by rw [n1]) (by rw [n1]; exact c2) (by rw [n1]; dsimp only; rw [hdd, n2]) (by rw [n1]; dsimp only; rw [hdd, n2]; exact c4)))
                  have HX := Lib.hid hX
                  clear hX n1 n2 u2 u3 hdd
                  go_wp2_with (first
                    | (go_at_call 40; (with_reducible refine C1.mono ?_); rintro e w' ⟨rfl, rfl⟩; clear C1)
                    | (go_at_call 40; refine C2.mono ?_; rintro e w' ⟨rfl, rfl⟩; clear C2))
                  all_goals go_ret3
                  all_goals exact row_bad (e := 5) HX.out (by decide) hL
                · have c4' : y1 ≤ 4611686018427387903 - (low + x1) := by omega
                  have hG := AckPlain.comb_go pre (t' - (t + 1)) j n1 c2 (hdd ▸ n2) c4
                  rw [← hgH.out, hdd, List.drop_drop, ← u3, show t' - (t + 1) + (k1 + k2) = t3 - (t + 1) by omega, show j = m - (k + 1) by omega] at hG
                  have HG := Lib.hid hG
                  have HF := Lib.hid (show t + 1 ≤ t3 ∧ t3 ≤ n by omega)
                  have hbs := hL.size
                  have hpk : pre.length ≤ 32 := by omega
                  have hpl' := Lib.hid hpl
                  have hkN := Lib.hid hkm
                  clear hG n1 n2 u2 u3 hdd hpl c2 hj hkm g1 g2 ht1 ht2 hk
                  go_wp2_with (first
                    | (go_at_call 40; (with_reducible refine C1.mono ?_); rintro e w' ⟨rfl, rfl⟩; clear C1)
                    | (go_at_call 40; refine C2.mono ?_; rintro e w' ⟨rfl, rfl⟩; clear C2)
                    | (at_builtin; refine wpl_add (W := wr) (x := low + x1) (y := low + x1 + y1) rfl (.tmp 86) (.tmp 92) rfl rfl hownH.out rfl rfl (by omega) hbs ?_; intro v3 w3 A3; have A3h := Lib.hid A3; clear A3))
                  all_goals go_roundw
                  all_goals first
                    | (simp [intOf]; omega)
                    | exact ⟨k + 1, t3, low + x1 + y1 + 2, pre ++ [(low + x1, low + x1 + y1)], hkN.out, by go_num, rfl, rfl, A3h.out.own, by rw [List.length_append, hpl'.out]; rfl, HF.out.1, HF.out.2, HG.out, by omega, by omega, A3h.out.below hL (Nat.le_refl _)⟩
              · have hX : R = ([], 0, e2) := HB e2 c3 (hgH.out.trans ((AckPlain.comb_num2 _ _ _ (by rw [n1]) (by rw [n1]; exact c2) (by rw [n1]; dsimp only; rw [hdd, n2]; exact c3)).trans (by rw [n1]; dsimp only; rw [hdd, n2])))
                have HX := Lib.hid hX
                clear hX n1 n2 u2 u3 hdd
                go_wp2_with (first
                  | (go_at_call 40; (with_reducible refine C1.mono ?_); rintro e w' ⟨rfl, rfl⟩; clear C1)
                  | (go_at_call 40; refine C2.mono ?_; rintro e w' ⟨rfl, rfl⟩; clear C2))
                all_goals go_ret3
                all_goals exact row_bad (e := e2) HX.out c3 hL
          · have hX : R = ([], 0, e1) := HB e1 c1 (hgH.out.trans ((AckPlain.comb_num _ _ _ (by rw [n1]; exact c1)).trans (by rw [n1])))
            have HX := Lib.hid hX
            clear hX n1
            go_wp2_with (go_at_call 40; refine C1.mono ?_; rintro e w' ⟨rfl, rfl⟩)
            all_goals go_ret3
            all_goals exact row_bad (e := e1) HX.out c1 hL
        · obtain rfl : k = m := by omega
          rw [Nat.sub_self, AckPlain.comb_end] at hg
          have hR := HR.out
          rw [hg] at hR
          simp only [ne_eq, not_true_eq_false, if_false] at hR
          have HR2 := Lib.hid hR
          clear hR hg
          go_wp2
          go_ret3
          rw [HR2.out]
          obtain ⟨a', c, rfl, h1, h2, h3, h4⟩ := hown.read
          exact ⟨a', c, _, rfl, fun _ => (by show (t' : Int) = (t : Int) + ((1 + (t' - (t + 1)) : Nat) : Int); omega), h1, h2, h3, h4, hL⟩
end Go.Proofs.YtangljeceohdpaaDoor.Ack
