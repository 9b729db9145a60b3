/-
  The contract of the reference's reading of an acknowledgment.
-/
import Derived.Test.YtangljeceohdpaaDoorAckRef3
namespace Go.Proofs.YtangljeceohdpaaDoor.Ack
set_option linter.unusedVariables false
set_option maxRecDepth 20000
open Go.ChangeShapes Go.WideShapes Go.ChangeAt Go.RowKit
open Go.Proofs.YtangljeceohdpaaDoor.Base Go.Proofs.YtangljeceohdpaaDoor.OctPlain Go.Proofs.YtangljeceohdpaaDoor.Tab Go.Proofs.YtangljeceohdpaaDoor.Oct Go.Proofs.YtangljeceohdpaaDoor.SpanPlain Go.Proofs.YtangljeceohdpaaDoor.SpanRef
open Go.Proofs.YtangljeceohdpaaDoor.AckPlain (K putAck getAck getRow getSp putSp getNum comb Fit)
open Go.Proofs.YtangljeceohdpaaDoor.HeadPlain (wrd wrd_len wrd_bd)

theorem ref_wrd (a : Option Addr) (len cap t : Nat) (s : Int) (l : List Int) (w : World) (hl : l.length = len) (hs : s = t) (ht : t ≤ len) (hm : len ≤ 140737488355328) (hb : Bytes l) (hI : Ints .u8 w a l) :
    Calls Tryd.prog 33 #[.slice a len cap, .int .i64 s] w fun e w' => e = .returned (.tuple #[.int .u64 (wrd (l.drop t)).1, .int .i64 ((t : Int) + ((wrd (l.drop t)).2.1 : Int)), .int .i64 (wrd (l.drop t)).2.2]) ∧ w = w' := by
  have hd : (l.drop t).length = len - t := by rw [List.length_drop, hl]
  by_cases h8 : len < t + 8
  · have e : wrd (l.drop t) = (0, 0, 2) := if_pos (by omega)
    rw [e]
    have := ref_word_short a len cap t s w hs ht hm h8
    simpa using this
  · have e : wrd (l.drop t) = (val ((l.drop t).take 8), 8, 0) := if_neg (by omega)
    rw [e]
    exact ref_word_at a len cap t s l w hl hs (by omega) hm hb hI
theorem rowIn_under {S : Nat → Prop} {w w' : World} {a : Option Addr} {xs : List Value} (h : RowIn S w a xs) (hb : Below w.heap.size w w') : RowIn S w' a xs := fun j u hj => by
  obtain ⟨b, off, e, hs, hlt, hc⟩ := h j u hj
  exact ⟨b, off, e, hs, Nat.lt_of_lt_of_le hlt hb.size, by rw [hb.cell (p := ⟨b, off + j, none⟩) hlt]; exact hc⟩
theorem rowIn_put {B dd i : Nat} {w : World} {a : Option Addr} {xs : List Value} (h : RowIn (fun k => B ≤ k) w a xs) (hd : dd < B) (u : Value) : RowIn (fun k => B ≤ k) (w.setCell ⟨dd, i, none⟩ u) a xs :=
  h.kept (T := fun k => k = dd) (Fr.setCell (S := fun k => k = dd) (Fr.refl _ _) (p := ⟨dd, i, none⟩) (fun _ => rfl) _) (fun k hk e => by omega)
set_option maxHeartbeats 4000000 in
set_option maxRecDepth 100000 in
theorem ref_ack_full (a : Option Addr) (n cap : Nat) (l : List Int) (w : World) (q : List Int) (hl : l = 2 :: q) (hn : l.length = n) (hc : n ≤ cap) (hr : n ≤ 140737488355328) (hb : Bytes l) (hz : Ints .u8 w a l) :
    Calls Tryd.prog 14 #[.slice a n cap] w (AckPost w l) := by
  obtain ⟨⟨sp, k1, e1⟩, a1⟩ : ∃ r, getRow 1 (l.drop 1) = r := ⟨_, rfl⟩
  obtain ⟨t1, u1⟩ : ∃ t, t = 1 + k1 := ⟨_, rfl⟩
  obtain ⟨⟨mk, k2, e2⟩, a2⟩ : ∃ r, getRow 0 (l.drop t1) = r := ⟨_, rfl⟩
  obtain ⟨t2, u2⟩ : ∃ t, t = t1 + k2 := ⟨_, rfl⟩
  obtain ⟨⟨trig, k3, e3⟩, a3⟩ : ∃ r, wrd (l.drop t2) = r := ⟨_, rfl⟩
  obtain ⟨t3, u3⟩ : ∃ t, t = t2 + k3 := ⟨_, rfl⟩
  obtain ⟨⟨xr, k4, e4⟩, a4⟩ : ∃ r, wrd (l.drop t3) = r := ⟨_, rfl⟩
  obtain ⟨t4, u4⟩ : ∃ t, t = t3 + k4 := ⟨_, rfl⟩
  have HD := Lib.hid (AckPlain.ack_at hl a1 u1 a2 u2 a3 u3 a4 u4)
  have h1n : 1 ≤ n := by rw [← hn, hl]; simp only [List.length_cons]; omega
  have m1 : t1 ≤ n := by have := AckPlain.getRow_len 1 (l.drop 1); rw [a1, List.length_drop, hn] at this; dsimp only at this; omega
  have m2 : t2 ≤ n := by have := AckPlain.getRow_len 0 (l.drop t1); rw [a2, List.length_drop, hn] at this; dsimp only at this; omega
  have m3 : t3 ≤ n := by have := wrd_len (l.drop t2); rw [a3, List.length_drop, hn] at this; dsimp only at this; omega
  have m4 : t4 ≤ n := by have := wrd_len (l.drop t3); rw [a4, List.length_drop, hn] at this; dsimp only at this; omega
  have C1 := fun W hI => ref_get_row a n cap 1 1 1 l W hn rfl h1n (by decide) (by decide) hr hb hI
  have C2 := fun W hI => ref_get_row a n cap t1 t1 0 l W hn rfl m1 (by decide) (by decide) hr hb hI
  have C3 := fun W hI => ref_wrd a n cap t2 t2 l W hn rfl m2 hr hb hI
  have C4 := fun W hI => ref_wrd a n cap t3 t3 l W hn rfl m3 hr hb hI
  have hmk32 : mk.length ≤ 140737488355328 ∨ e2 ≠ 0 := by
    by_cases h : e2 = 0
    · subst h
      have := (AckPlain.getRow_one (hb.drop t1) a2).2.2.1
      omega
    · exact Or.inr h
  have hsp32 : sp.length ≤ 140737488355328 ∨ e1 ≠ 0 := by
    by_cases h : e1 = 0
    · subst h
      have := (AckPlain.getRow_one (hb.drop 1) a1).2.2.1
      omega
    · exact Or.inr h
  rw [a1] at C1
  rw [a2] at C2
  rw [a3] at C3
  rw [a4] at C4
  unfold RowPost at C1 C2
  dsimp only at C1 C2 C3 C4
  rw [show (t2 : Int) + (k3 : Int) = (t3 : Int) by omega] at C3
  rw [show (t3 : Int) + (k4 : Int) = (t4 : Int) by omega] at C4
  have hs1 : ∀ s : Int, s = ((1 : Nat) : Int) + (k1 : Int) → s = (t1 : Int) := fun s h => by omega
  have hs2 : ∀ s : Int, s = (t1 : Int) + (k2 : Int) → s = (t2 : Int) := fun s h => by omega
  obtain ⟨Z, hZ⟩ : ∃ Z, l.drop t4 = Z := ⟨_, rfl⟩
  have hZl : (Z.length : Int) = (n : Int) - (t4 : Int) := by rw [← hZ, List.length_drop, hn]; omega
  have hZb : Bytes Z := by rw [← hZ]; exact hb.drop t4
  rw [hZ] at HD
  obtain ⟨g, go, rfl, hgl, cx0⟩ := hz 0 (.int .u8 2) (by rw [hl]; rfl)
  have cx : w.cell? ⟨g, go, none⟩ = some (.int .u8 2) := cx0
  clear cx0
  have cz : ∀ z r, Z = z :: r → w.cell? ⟨g, go + t4, none⟩ = some (.int .u8 z) := fun z r h => by
    obtain ⟨g', go', e, _, hc⟩ := Oct.Row.at_drop (t := t4) (i := 0) (y := z) hz (by rw [hZ, h]; rfl)
    cases e
    exact hc
  have hnI : (1 : Int) ≤ (n : Int) := by omega
  clear hl u1 u2 u3 u4 hZ a1 a2 a3 a4 hn
  go_enter Tryd.func14, Tryd.ntmps14
  go_upto_region 7 with fail
  have G0 := got_start w (o1 := .cells #[.slice none 0 0, .slice none 0 0, .int .u64 0, .int .u64 0, .bool false] 25) (o2 := .cells #[.slice none 0 0, .slice none 0 0, .int .u64 0, .int .u64 0, .bool false] 25) rfl rfl
  generalize (w.alloc (.cells #[.slice none 0 0, .slice none 0 0, .int .u64 0, .int .u64 0, .bool false] 25)).alloc (.cells #[.slice none 0 0, .slice none 0 0, .int .u64 0, .int .u64 0, .bool false] 25) = W at G0 ⊢
  have hW0 : w.heap.size + 2 ≤ W.heap.size := by have := G0.blk.lt; omega
  clear cx
  by_cases d0 : e1 = 0
  rotate_left
  · go_wp2_with (go_at_call 32; refine (C1 W (hz.below G0.below)).mono ?_; rintro e w1 ⟨x1, y1, s1, rfl, hs, i1, i2, i3, R1, L1⟩; have hsH := Lib.hid hs; clear hs; have Gx := G0.under L1; obtain ⟨c0, c1, c2, c3, c4⟩ := blk5 Gx.blk; obtain ⟨r0, r1, r2, r3, r4⟩ := blk5 Gx.res; obtain ⟨⟨g0, g1, g2, g3, g4⟩, q0, q1, q2, q3, q4⟩ := Gx.frees; have R1s := R1.mono (T := fun k => w.heap.size + 2 ≤ k) (fun k _ hk => by omega); clear C1 R1)
    refine bodyPost_ret (results_row2 rfl _ _ w.heap.size 25 #[.slice none 0 0, .slice none 0 0, .int .u64 0, .int .u64 0, .bool false] _ rfl (set5_blk (Gx.put0 _).res _ _ _ _ _) Tryd.underlying25 rfl (by kernel_rfl)) rfl ?_
    exact got_bad (HD.out.trans (if_pos d0)) (Gx.put0 _).below
  subst e1
  have HD := Lib.hid (HD.out.trans (if_neg (by simp)))
  go_upto_region 8 with (go_at_call 32; refine (C1 W (hz.below G0.below)).mono ?_; rintro e w1 ⟨x1, y1, s1, rfl, hs, i1, i2, i3, R1, L1⟩; have hsH := Lib.hid hs; clear hs; have Gx := G0.under L1; obtain ⟨c0, c1, c2, c3, c4⟩ := blk5 Gx.blk; obtain ⟨r0, r1, r2, r3, r4⟩ := blk5 Gx.res; obtain ⟨⟨g0, g1, g2, g3, g4⟩, q0, q1, q2, q3, q4⟩ := Gx.frees; have R1s := R1.mono (T := fun k => w.heap.size + 2 ≤ k) (fun k _ hk => by omega); clear C1 R1)
  obtain rfl : s1 = (t1 : Int) := hs1 _ (hsH.out (by trivial))
  have G1 := Gx.put0 (.slice x1 sp.length y1)
  have Q0 := rowIn_put (i := 0) R1s (show w.heap.size + 1 < w.heap.size + 2 by omega) (.slice x1 sp.length y1)
  have l1 := i1
  have l2 := i2
  have l3 := i3
  generalize w1.setCell ⟨w.heap.size + 1, 0, none⟩ (.slice x1 sp.length y1) = W1 at G1 Q0 ⊢
  have hW1 : w.heap.size + 2 ≤ W1.heap.size := by have := G1.blk.lt; omega
  clear Gx R1s L1 c0 c1 c2 c3 c4 g0 g1 g2 g3 g4 r0 r1 r2 r3 r4 q0 q1 q2 q3 q4 i1 i2 i3 hsH G0
  obtain ⟨c0, c1, c2, c3, c4⟩ := blk5 G1.blk
  obtain ⟨r0, r1, r2, r3, r4⟩ := blk5 G1.res
  obtain ⟨⟨g0, g1, g2, g3, g4⟩, q0, q1, q2, q3, q4⟩ := G1.frees
  go_upto_region 10 with fail
  by_cases d1 : e2 = 0
  rotate_left
  · go_wp2_with (go_at_call 32; refine (C2 W1 (hz.below G1.below)).mono ?_; rintro e w2 ⟨x2, y2, s2, rfl, hs, i1, i2, i3, R2, L2⟩; have hsH := Lib.hid hs; clear hs; have Gx := G1.under L2; obtain ⟨c0, c1, c2, c3, c4⟩ := blk5 Gx.blk; obtain ⟨r0, r1, r2, r3, r4⟩ := blk5 Gx.res; obtain ⟨⟨g0, g1, g2, g3, g4⟩, q0, q1, q2, q3, q4⟩ := Gx.frees; have R2s := R2.mono (T := fun k => w.heap.size + 2 ≤ k) (fun k _ hk => by omega); clear C2 R2)
    refine bodyPost_ret (results_row2 rfl _ _ w.heap.size 25 #[.slice none 0 0, .slice none 0 0, .int .u64 0, .int .u64 0, .bool false] _ rfl (set5_blk (Gx.put1 _).res _ _ _ _ _) Tryd.underlying25 rfl (by kernel_rfl)) rfl ?_
    exact got_bad (HD.out.trans (if_pos d1)) (Gx.put1 _).below
  subst e2
  have HD := Lib.hid (HD.out.trans (if_neg (by simp)))
  go_upto_region 11 with (go_at_call 32; refine (C2 W1 (hz.below G1.below)).mono ?_; rintro e w2 ⟨x2, y2, s2, rfl, hs, i1, i2, i3, R2, L2⟩; have hsH := Lib.hid hs; clear hs; have Gx := G1.under L2; obtain ⟨c0, c1, c2, c3, c4⟩ := blk5 Gx.blk; obtain ⟨r0, r1, r2, r3, r4⟩ := blk5 Gx.res; obtain ⟨⟨g0, g1, g2, g3, g4⟩, q0, q1, q2, q3, q4⟩ := Gx.frees; have R2s := R2.mono (T := fun k => w.heap.size + 2 ≤ k) (fun k _ hk => by omega); clear C2 R2)
  obtain rfl : s2 = (t2 : Int) := hs2 _ (hsH.out (by trivial))
  have G2 := Gx.put1 (.slice x2 mk.length y2)
  have Q1 := rowIn_put (i := 1) R2s (show w.heap.size + 1 < w.heap.size + 2 by omega) (.slice x2 mk.length y2)
  have Q0 := rowIn_put (i := 1) (rowIn_under Q0 L2) (show w.heap.size + 1 < w.heap.size + 2 by omega) (.slice x2 mk.length y2)
  have o1 := i1
  have o2 := i2
  have o3 := i3
  generalize w2.setCell ⟨w.heap.size + 1, 1, none⟩ (.slice x2 mk.length y2) = W2 at G2 Q0 Q1 ⊢
  clear Gx R2s L2 c0 c1 c2 c3 c4 g0 g1 g2 g3 g4 r0 r1 r2 r3 r4 q0 q1 q2 q3 q4 i1 i2 i3 hsH G1
  obtain ⟨c0, c1, c2, c3, c4⟩ := blk5 G2.blk
  obtain ⟨r0, r1, r2, r3, r4⟩ := blk5 G2.res
  obtain ⟨⟨g0, g1, g2, g3, g4⟩, q0, q1, q2, q3, q4⟩ := G2.frees
  go_upto_region 13 with fail
  by_cases d2 : e3 = 0
  rotate_left
  · go_wp2_with (go_at_call 33; (with_reducible refine (C3 W2 (hz.below G2.below)).mono ?_); rintro e w' ⟨rfl, rfl⟩)
    refine bodyPost_ret (results_row2 rfl _ _ w.heap.size 25 #[.slice none 0 0, .slice none 0 0, .int .u64 0, .int .u64 0, .bool false] _ rfl (set5_blk (G2.put2 _).res _ _ _ _ _) Tryd.underlying25 rfl (by kernel_rfl)) rfl ?_
    exact got_bad (HD.out.trans (if_pos d2)) (G2.put2 _).below
  subst e3
  have HD := Lib.hid (HD.out.trans (if_neg (by simp)))
  go_upto_region 14 with (go_at_call 33; (with_reducible refine (C3 W2 (hz.below G2.below)).mono ?_); rintro e w' ⟨rfl, rfl⟩)
  have G3 := G2.put2 (.int .u64 trig)
  have Q0 := rowIn_put (i := 2) Q0 (show w.heap.size + 1 < w.heap.size + 2 by omega) (.int .u64 trig)
  have Q1 := rowIn_put (i := 2) Q1 (show w.heap.size + 1 < w.heap.size + 2 by omega) (.int .u64 trig)
  generalize W2.setCell ⟨w.heap.size + 1, 2, none⟩ (.int .u64 trig) = W3 at G3 Q0 Q1 ⊢
  clear C3 c0 c1 c2 c3 c4 g0 g1 g2 g3 g4 r0 r1 r2 r3 r4 q0 q1 q2 q3 q4 G2
  obtain ⟨c0, c1, c2, c3, c4⟩ := blk5 G3.blk
  obtain ⟨r0, r1, r2, r3, r4⟩ := blk5 G3.res
  obtain ⟨⟨g0, g1, g2, g3, g4⟩, q0, q1, q2, q3, q4⟩ := G3.frees
  go_upto_region 16 with fail
  by_cases d3 : e4 = 0
  rotate_left
  · go_wp2_with (go_at_call 33; (with_reducible refine (C4 W3 (hz.below G3.below)).mono ?_); rintro e w' ⟨rfl, rfl⟩)
    refine bodyPost_ret (results_row2 rfl _ _ w.heap.size 25 #[.slice none 0 0, .slice none 0 0, .int .u64 0, .int .u64 0, .bool false] _ rfl (set5_blk (G3.put3 _).res _ _ _ _ _) Tryd.underlying25 rfl (by kernel_rfl)) rfl ?_
    exact got_bad (HD.out.trans (if_pos d3)) (G3.put3 _).below
  subst e4
  have HD := Lib.hid (HD.out.trans (if_neg (by simp)))
  go_upto_region 17 with (go_at_call 33; (with_reducible refine (C4 W3 (hz.below G3.below)).mono ?_); rintro e w' ⟨rfl, rfl⟩)
  have G4 := G3.put3 (.int .u64 xr)
  have Q0 := rowIn_put (i := 3) Q0 (show w.heap.size + 1 < w.heap.size + 2 by omega) (.int .u64 xr)
  have Q1 := rowIn_put (i := 3) Q1 (show w.heap.size + 1 < w.heap.size + 2 by omega) (.int .u64 xr)
  generalize W3.setCell ⟨w.heap.size + 1, 3, none⟩ (.int .u64 xr) = W4 at G4 Q0 Q1 ⊢
  clear C4 c0 c1 c2 c3 c4 g0 g1 g2 g3 g4 r0 r1 r2 r3 r4 q0 q1 q2 q3 q4 G3
  obtain ⟨c0, c1, c2, c3, c4⟩ := blk5 G4.blk
  obtain ⟨r0, r1, r2, r3, r4⟩ := blk5 G4.res
  obtain ⟨⟨g0, g1, g2, g3, g4⟩, q0, q1, q2, q3, q4⟩ := G4.frees
  go_upto_region 19 with fail
  cases Z with
  | nil =>
    have hle : (n : Int) ≤ (t4 : Int) := by simp at hZl; omega
    go_wp2
    refine bodyPost_ret (results_row2 rfl _ _ w.heap.size 25 #[.slice none 0 0, .slice none 0 0, .int .u64 0, .int .u64 0, .bool false] _ rfl (set5_blk G4.res _ _ _ _ _) Tryd.underlying25 rfl (by kernel_rfl)) rfl ?_
    exact got_bad (HD.out) G4.below
  | cons z r =>
    have hlt : (t4 : Int) < (n : Int) := by simp at hZl; omega
    have hcz : W4.cell? ⟨g, go + t4, none⟩ = some (.int .u8 z) := (G4.below.cell (p := ⟨g, go + t4, none⟩) hgl).trans (cz z r rfl)
    have hrl : (r.length : Int) = (n : Int) - (t4 : Int) - 1 := by simp at hZl; omega
    obtain ⟨z0, z1⟩ := hZb.head
    have hgd : ¬ g = w.heap.size + 1 := by omega
    have hgr : ¬ g = w.heap.size := by omega
    by_cases f1 : 1 < z
    · have HX := Lib.hid (HD.out.trans (if_pos f1))
      go_wp2
      refine bodyPost_ret (results_row2 rfl _ _ w.heap.size 25 #[.slice none 0 0, .slice none 0 0, .int .u64 0, .int .u64 0, .bool false] _ rfl (set5_blk G4.res _ _ _ _ _) Tryd.underlying25 rfl (by kernel_rfl)) rfl ?_
      exact got_bad (HX.out) G4.below
    · have HD := Lib.hid (HD.out.trans (if_neg f1))
      have f1' : z ≤ 1 := by omega
      have G5 := G4.put4 (.bool (decide (z = 1)))
      by_cases f2 : r = []
      · subst f2
        have hn4 : (n : Int) = (t4 : Int) + 1 := by simp at hrl; omega
        have HD := Lib.hid (HD.out.trans (if_neg (by simp)))
        have CI := fun W h1 h2 => SpanRef.ref_inside x2 x1 mk.length sp.length y2 y1 mk sp W rfl rfl (by omega) (by omega) h1 h2
        have Q0 := rowIn_put (i := 4) Q0 (show w.heap.size + 1 < w.heap.size + 2 by omega) (.bool (decide (z = 1)))
        have Q1 := rowIn_put (i := 4) Q1 (show w.heap.size + 1 < w.heap.size + 2 by omega) (.bool (decide (z = 1)))
        obtain ⟨ins, hins⟩ : ∃ v, inside mk sp = v := ⟨_, rfl⟩
        rw [hins] at HD CI
        clear hins
        go_upto_region 26 with fail
        generalize W4.setCell ⟨w.heap.size + 1, 4, none⟩ (.bool (decide (z = 1))) = W5 at G5 Q0 Q1 ⊢
        clear c0 c1 c2 c3 c4 g0 g1 g2 g3 g4 r0 r1 r2 r3 r4 q0 q1 q2 q3 q4 G4 hcz
        obtain ⟨c0, c1, c2, c3, c4⟩ := blk5 G5.blk
        obtain ⟨r0, r1, r2, r3, r4⟩ := blk5 G5.res
        obtain ⟨⟨g0, g1, g2, g3, g4⟩, q0, q1, q2, q3, q4⟩ := G5.frees
        have hW5 : w.heap.size + 2 ≤ W5.heap.size := by have := G5.blk.lt; omega
        cases ins
        · go_wp2_with (go_at_call 25; refine (CI W5 Q1.row Q0.row).mono ?_; rintro e w6 ⟨rfl, L6⟩; have G6 := G5.under L6; clear CI c0 c1 c2 c3 c4 g0 g1 g2 g3 g4 r0 r1 r2 r3 r4 q0 q1 q2 q3 q4; obtain ⟨c0, c1, c2, c3, c4⟩ := blk5 G6.blk; obtain ⟨r0, r1, r2, r3, r4⟩ := blk5 G6.res; obtain ⟨⟨g0, g1, g2, g3, g4⟩, q0, q1, q2, q3, q4⟩ := G6.frees)
          refine bodyPost_ret (results_row2 rfl _ _ w.heap.size 25 #[.slice none 0 0, .slice none 0 0, .int .u64 0, .int .u64 0, .bool false] _ rfl (set5_blk G6.res _ _ _ _ _) Tryd.underlying25 rfl (by kernel_rfl)) rfl ?_
          exact got_bad (HD.out.trans (if_neg (by simp))) G6.below
        · go_wp2_with (go_at_call 25; refine (CI W5 Q1.row Q0.row).mono ?_; rintro e w6 ⟨rfl, L6⟩; have G6 := G5.under L6; clear CI c0 c1 c2 c3 c4 g0 g1 g2 g3 g4 r0 r1 r2 r3 r4 q0 q1 q2 q3 q4; obtain ⟨c0, c1, c2, c3, c4⟩ := blk5 G6.blk; obtain ⟨r0, r1, r2, r3, r4⟩ := blk5 G6.res; obtain ⟨⟨g0, g1, g2, g3, g4⟩, q0, q1, q2, q3, q4⟩ := G6.frees)
          refine bodyPost_ret (results_row2 rfl _ _ w.heap.size 25 #[.slice x1 sp.length y1, .slice x2 mk.length y2, .int .u64 trig, .int .u64 xr, .bool (decide (z = 1))] _ rfl (set5_blk G6.res _ _ _ _ _) Tryd.underlying25 rfl (by kernel_rfl)) rfl ?_
          have F := set5_fr w6 w.heap.size (.slice x1 sp.length y1) (.slice x2 mk.length y2) (.int .u64 trig) (.int .u64 xr) (.bool (decide (z = 1)))
          unfold AckPost
          rw [HD.out.trans (if_pos (by trivial))]
          exact ⟨x1, sp.length, y1, x2, mk.length, y2, rfl, ⟨rfl, l1, l2, l3, ((rowIn_under Q0 L6).kept F (fun k hk e => by omega)).mono (fun k _ hk => by omega)⟩, ⟨rfl, o1, o2, o3, ((rowIn_under Q1 L6).kept F (fun k hk e => by omega)).mono (fun k _ hk => by omega)⟩, F.below G6.below G6.below.size (by rintro k rfl; exact Nat.le_refl _)⟩
      · have hn4 : (t4 : Int) + 1 < (n : Int) := by
          have : 0 < r.length := List.length_pos_iff.2 f2
          omega
        have HX := Lib.hid (HD.out.trans (if_pos f2))
        clear hrl hZl
        go_wp2
        refine bodyPost_ret (results_row2 rfl _ _ w.heap.size 25 #[.slice none 0 0, .slice none 0 0, .int .u64 0, .int .u64 0, .bool false] _ rfl (set5_blk G5.res _ _ _ _ _) Tryd.underlying25 rfl (by kernel_rfl)) rfl ?_
        exact got_bad (HX.out) G5.below
theorem ref_get_ack (a : Option Addr) (n cap : Nat) (l : List Int) (w : World) (hn : l.length = n) (hc : n ≤ cap) (hr : n ≤ 140737488355328) (hb : Bytes l) (hz : Ints .u8 w a l) :
    Calls Tryd.prog 14 #[.slice a n cap] w (AckPost w l) := by
  match l, hn, hb, hz with
  | [], hn, hb, hz =>
    obtain rfl : n = 0 := hn.symm
    exact ref_ack_nil a cap w
  | x :: q, hn, hb, hz =>
    by_cases hx : x = 2
    · subst hx
      exact ref_ack_full a n cap _ w q rfl hn hc hr hb hz
    · exact ref_ack_kind a n cap _ w x q rfl hx hn hc hr hz
end Go.Proofs.YtangljeceohdpaaDoor.Ack
