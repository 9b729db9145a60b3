/-
  The contract of span's Add.
-/
import Derived.Test.YtipcabdodjkmoaaSpan
import Derived.Test.YtipcabdodjkmoaaSpanOwn
namespace Go.Proofs.Ytipcabdodjkmoaa.Span
set_option linter.unusedVariables false
open Go.ChangeShapes Go.WideShapes Go.ChangeAt Go.RowKit
open Go.Proofs.Ytipcabdodjkmoaa.Base Go.Proofs.Ytipcabdodjkmoaa.SpanPlain Go.Proofs.Ytipcabdodjkmoaa.Sat

theorem apart_at (x y u v : Int) (b : Bool) (hb : ap (x, y) (u, v) = b) (h0 : 0 ≤ y) (h1 : y ≤ 4611686018427387903) (w : World) :
    Calls Try.prog 30 #[.agg #[.int .u64 x, .int .u64 y], .agg #[.int .u64 u, .int .u64 v]] w fun e w' => e = .returned (.bool b) ∧ Below w.heap.size w w' := by
  subst hb
  exact apart_any (x, y) (u, v) h0 h1 w
set_option maxHeartbeats 4000000 in
theorem add_good_any (a : Option Addr) (n cap : Nat) (l : List Sp) (s : Sp) (w : World) (hn : l.length = n) (hm : n ≤ 8796093021952) (hg : good l = true) (h0 : 0 ≤ s.1) (hs : ok s = true) (hz : Spans w a l) :
    Calls Try.prog 9 #[.slice a n cap, .agg #[.int .u64 s.1, .int .u64 s.2]] w fun e w' => ∃ v, e = .returned (.tuple #[v, .bool true]) ∧ Own w.heap.size w' v (addS l s) ∧ Below w.heap.size w w' := by
  subst hn
  obtain ⟨i0, hi0, hz0, hz1, hz2⟩ := info_parts Base.info
  have c1 := fun W hz => good_any a l.length cap l W rfl (by omega) (Fits.of_good hg) hz
  have c2 := fun W => valid_any s W
  rw [hg] at c1
  rw [hs] at c2
  obtain ⟨h1, h2⟩ := ok_iff.1 hs
  clear hs
  obtain ⟨p, q⟩ := s
  simp only at h0 h1 h2 c2 ⊢
  have hst := AddSt.start (s := (p, q)) hg h0 h1 h2
  have hB0 := Blk.new w #[.int .u64 p, .int .u64 q] 25
  have hL0 := (Below.refl w.heap.size w).alloc (Nat.le_refl _) (.cells #[.int .u64 p, .int .u64 q] 25)
  have hz0 : Spans (w.alloc (.cells #[.int .u64 p, .int .u64 q] 25)) a l := Row.alloc hz _
  have HG := Lib.hid hg
  clear hg
  go_enter Try.func9, Try.ntmps9
  go_wp2_with (first
    | (go_at_call 16; (with_reducible refine (c1 _ hz0).mono ?_); rintro e w1 ⟨rfl, hb1⟩; have k0 := (hB0.below hb1 hB0.lt).cell 0; have k1 := (hB0.below hb1 hB0.lt).cell 1)
    | (go_at_call 29; (with_reducible refine (c2 _).mono ?_); rintro e W ⟨rfl, hb2⟩))
  have hB1 := hB0.below hb1 hB0.lt
  have hBW := hB1.below hb2 hB1.lt
  have hLW : Below w.heap.size w W := Base.below_step (Below.refl _ _) (Base.next hb1 hb2)
  have hzW : Spans W a l := hz.below hLW
  have hz0' := hz
  clear c1 c2 k0 k1 hz0 hz hb1 hb2 hL0 hB0 hB1 h0 h1 h2
  go_loopw [6, 7, 20] (fun o6 o7 i wr => ∃ k : Nat, k ≤ l.length ∧ i = .int .i64 k ∧ ∃ (lb la : List Sp) (u v : Int), Own (w.heap.size + 1) wr o6 lb ∧ Own (w.heap.size + 1) wr o7 la ∧ (∀ g, o6.ownBlock = some g → o7.ownBlock ≠ some g) ∧
    AddSt l (p, q) k lb (u, v) la ∧ Blk wr w.heap.size #[.int .u64 u, .int .u64 v] 25 ∧ Below w.heap.size w wr) (fun _ _ i _ => l.length - (intOf i).toNat)
  case atStart => exact ⟨0, Nat.zero_le _, rfl, [], [], p, q, Own.nil _ _, Own.nil _ _, (fun g hg => by cases hg), hst, hBW, hLW⟩
  case round =>
    clear hst hBW
    obtain ⟨k, hk, rfl, lb, la, u, v, hown6, hown7, hne67, hst, hB, hL⟩ := hrel
    have hsu := hst.1
    have hsv := hst.2.1
    have hsm := hst.2.2.1
    have hlen := hst.2.2.2.1
    unfold M at hsm
    simp only at hsu hsv hsm
    have ST := Lib.hid hst
    clear hst
    have hgb := hB.lt
    have hgb1 : w.heap.size + 1 ≤ wr.heap.size := hgb
    have hzr : Spans wr a l := hz0'.below hL
    by_cases hlt : k < l.length
    · obtain ⟨b, off, rfl, hb, d0, d1⟩ := hzr.at_ hlt
      have hgx := good_get HG.out hlt
      have STB := Lib.hid (fun h => ST.out.below hlt rfl h)
      have STA := Lib.hid (fun h => ST.out.above hlt rfl h)
      have STH := Lib.hid (fun h => ST.out.hull hlt rfl h)
      generalize l.getD k (0, 0) = c at *
      obtain ⟨x, y⟩ := c
      simp only at d0 d1 hgx
      obtain ⟨x0, xy, y1⟩ := hgx
      have B30 := hB.alloc (.cells #[.int .u64 x, .int .u64 y] 25)
      have B90 := Blk.new wr #[.int .u64 x, .int .u64 y] 25
      have o60 := hown6.alloc (.cells #[.int .u64 x, .int .u64 y] 25)
      have o70 := hown7.alloc (.cells #[.int .u64 x, .int .u64 y] 25)
      have L0 := hL.alloc hL.size (.cells #[.int .u64 x, .int .u64 y] 25)
      have L0s : w.heap.size ≤ (wr.alloc (.cells #[.int .u64 x, .int .u64 y] 25)).heap.size := L0.size
      have gs0 : (wr.alloc (.cells #[.int .u64 x, .int .u64 y] 25)).heap.size = wr.heap.size + 1 := by simp
      have b0 : wr.cell? ⟨w.heap.size, 0, none⟩ = some (.int .u64 u) := hB.cell 0
      have b1 : wr.cell? ⟨w.heap.size, 1, none⟩ = some (.int .u64 v) := hB.cell 1
      have hne6 := hown6.ne (g := w.heap.size) (.inr (by omega))
      have hne7 := hown7.ne (g := w.heap.size) (.inr (by omega))
      cases hA : ap (x, y) (u, v) with
      | true =>
        have c1 := fun W => apart_at x y u v true hA (by omega) y1 W
        have HST := Lib.hid (STB.out hA)
        go_wp2_with (first | (go_at_call 30; (with_reducible refine (c1 _).mono ?_); rintro e w1 ⟨rfl, hb1⟩; have B31 := B30.below hb1 B30.lt; have B91 := B90.below hb1 B90.lt; have b310 := B31.cell 0; have b311 := B31.cell 1; have b910 := B91.cell 0; have b911 := B91.cell 1; have f310 := B31.free 0; have f311 := B31.free 1; have o61 := o60.below hb1; have o71 := o70.below hb1; have gs1 := hb1.size; have L1 := Base.next0 L0 L0s hb1) | (at_builtin; refine wpl_add (x := x) (y := y) rfl (.tmp 39) (.tmp 41) rfl rfl o61 rfl (by simp) (by omega) (by omega) ?_; intro v3 w3 A3; have A3h := Lib.hid A3; have gs := A3.size; clear A3))
        go_roundw
        case rel => exact ⟨k + 1, by omega, by go_num, lb ++ [(x, y)], la, u, v, A3h.out.own, A3h.out.other o71 hne67, fun g hg e => A3h.out.out (lt_own o71 e) (fun e' => hne67 g e' e) hg, HST.out, A3h.out.blk B31 hne6, A3h.out.below L1 (Nat.le_succ _)⟩
        case measure => simp [intOf]; omega
      | false =>
        have c1 := fun W => apart_at x y u v false hA (by omega) y1 W
        cases hA2 : ap (u, v) (x, y) with
        | true =>
          have c2 := fun W => apart_at u v x y true hA2 (by omega) hsm W
          have HST := Lib.hid (STA.out hA2)
          go_wp2_with (first | (go_at_call 30; (with_reducible refine (c1 _).mono ?_); rintro e w1 ⟨rfl, hb1⟩; have B31 := B30.below hb1 B30.lt; have B91 := B90.below hb1 B90.lt; have b310 := B31.cell 0; have b311 := B31.cell 1; have b910 := B91.cell 0; have b911 := B91.cell 1; have f310 := B31.free 0; have f311 := B31.free 1; have o61 := o60.below hb1; have o71 := o70.below hb1; have gs1 := hb1.size; have L1 := Base.next0 L0 L0s hb1) | (go_at_call 30; (with_reducible refine (c2 _).mono ?_); rintro e w2 ⟨rfl, hb2⟩; have B32 := B31.below hb2 B31.lt; have B92 := B91.below hb2 B91.lt; have b320 := B32.cell 0; have b321 := B32.cell 1; have b920 := B92.cell 0; have b921 := B92.cell 1; have f320 := B32.free 0; have f321 := B32.free 1; have o62 := o61.below hb2; have o72 := o71.below hb2; have gs2 := hb2.size; have L2 := Base.next0 L1 (Nat.le_trans (by omega) gs1) hb2) | (at_builtin; refine wpl_add (x := x) (y := y) rfl (.tmp 47) (.tmp 49) rfl rfl o72 rfl (by simp) (by omega) (by omega) ?_; intro v3 w3 A3; have A3h := Lib.hid A3; have gs := A3.size; clear A3))
          go_roundw
          case rel => exact ⟨k + 1, by omega, by go_num, lb, la ++ [(x, y)], u, v, A3h.out.other o62 (fun g hg e => hne67 g e hg), A3h.out.own, fun g hg e => A3h.out.out (lt_own o62 hg) (fun e' => hne67 g hg e') e, HST.out, A3h.out.blk B32 hne7, A3h.out.below L2 (Nat.le_succ _)⟩
          case measure => simp [intOf]; omega
        | false =>
          have c2 := fun W => apart_at u v x y false hA2 (by omega) hsm W
          have HST := Lib.hid (show ∀ U V, U = min u x → V = max v y → AddSt l (p, q) (k + 1) lb (U, V) la by
            rintro U V rfl rfl
            exact STH.out hA hA2)
          go_wp2_with (first | (go_at_call 30; (with_reducible refine (c1 _).mono ?_); rintro e w1 ⟨rfl, hb1⟩; have B31 := B30.below hb1 B30.lt; have B91 := B90.below hb1 B90.lt; have b310 := B31.cell 0; have b311 := B31.cell 1; have b910 := B91.cell 0; have b911 := B91.cell 1; have f310 := B31.free 0; have f311 := B31.free 1; have o61 := o60.below hb1; have o71 := o70.below hb1; have gs1 := hb1.size; have L1 := Base.next0 L0 L0s hb1) | (go_at_call 30; (with_reducible refine (c2 _).mono ?_); rintro e w2 ⟨rfl, hb2⟩; have B32 := B31.below hb2 B31.lt; have B92 := B91.below hb2 B91.lt; have b320 := B32.cell 0; have b321 := B32.cell 1; have b920 := B92.cell 0; have b921 := B92.cell 1; have f320 := B32.free 0; have f321 := B32.free 1; have o62 := o61.below hb2; have o72 := o71.below hb2; have gs2 := hb2.size; have L2 := Base.next0 L1 (Nat.le_trans (by omega) gs1) hb2))
          all_goals go_roundw
          all_goals first
            | (simp [intOf]; omega)
            | exact ⟨k + 1, by omega, by go_num, lb, la, _, _, (o62.setCell (by simp) _).setCell (by simp) _, (o72.setCell (by simp) _).setCell (by simp) _, hne67, HST.out _ _ (by omega) (by omega), (B32.set 0 _).set 1 _, (L2.setCell (by simp) _).setCell (by simp) _⟩
    · obtain rfl : k = l.length := by omega
      have HR := Lib.hid (ST.out.done (Nat.le_refl _))
      obtain ⟨a7, cap7, rfl, hc7, hm7, hn7, R7⟩ := hown7.read
      have b0 : wr.cell? ⟨w.heap.size, 0, none⟩ = some (.int .u64 u) := hB.cell 0
      have b1 : wr.cell? ⟨w.heap.size, 1, none⟩ = some (.int .u64 v) := hB.cell 1
      go_wp2_with (first
        | (at_builtin; refine wpl_add (x := u) (y := v) rfl (.tmp 52) (.tmp 54) rfl rfl hown6 rfl (by simp) (by omega) (by omega) ?_; intro v3 w3 A3; have R8 := (A3.other hown7 hne67).row; have A3h := Lib.hid A3; have gs := A3.size; clear A3)
        | (at_builtin; refine wpl_append_row _ rfl (.tmp 55) (.tmp 56) _ rfl (w.heap.size + 1) 25 i0 _ 2 16 Try.underlying22 hi0 hz0 hz1 hz2 rfl (by omega) v3 (lb ++ [(u, v)]).length (flat (lb ++ [(u, v)])) rfl A3h.out.own a7 la.length cap7 (flat la) rfl (flat_len la) R8 (flat_one _) (by unfold maxLen; rw [List.length_append, List.length_singleton]; omega) (by rw [List.length_append, List.length_singleton]; omega) (by omega) ?_; intro v4 w4 hown4 hg4 hat4; have X := Lib.hid (own_all (m := la) rfl hown4); have Y := Lib.hid ((A3h.out.below hL (Nat.le_succ _)).grown hg4 (by omega) (fun g hg => Nat.le_of_succ_le (World.ownsRow.lt A3h.out.own g hg).1)); clear hown4))
      go_ret2
      exact ⟨_, rfl, by rw [HR.out]; exact X.out.mono (Nat.le_succ _), Y.out⟩
end Go.Proofs.Ytipcabdodjkmoaa.Span
