/-
  Contracts of ack's writing of a row, of ack.Encode and Challenge.
-/
import Derived.Test.YtangljeceohdpaaDoorAckDec
namespace Go.Proofs.YtangljeceohdpaaDoor.Ack
set_option linter.unusedVariables false
set_option maxRecDepth 20000
open Go.ChangeShapes Go.WideShapes Go.ChangeAt Go.RowKit
open Go.Proofs.YtangljeceohdpaaDoor.Base Go.Proofs.YtangljeceohdpaaDoor.OctPlain Go.Proofs.YtangljeceohdpaaDoor.Tab Go.Proofs.YtangljeceohdpaaDoor.Oct Go.Proofs.YtangljeceohdpaaDoor.SpanPlain
open Go.Proofs.YtangljeceohdpaaDoor.AckPlain (K putAck getAck getRow getSp putSp getNum comb Fit)

theorem own_app {base : Nat} {w w' : World} {v v' : Value} {xs ps : List Int} (h : Oct.Own base w v xs) (ho : w'.ownsRow base 5 1 v' (xs.length + ps.length) (xs.map (.int .u8) ++ ps.map (.int .u8))) (hg : w.grownBy w' v.ownBlock) :
    Oct.Own base w' v' (xs ++ ps) ∧ Fr (fun k => base ≤ k) w w' :=
  ⟨by unfold Oct.Own; simpa using ho, Fr.of_grown hg fun k hk => (h.lt k hk).1⟩
theorem own_out {base : Nat} {w : World} {v : Value} {l : List Int} (h : Oct.Own base w v l) : v.ownBlock ≠ some w.heap.size := fun e => Nat.lt_irrefl _ (h.lt w.heap.size e).2
/-- A block that is not the row's lies as it lay behind an append. -/
theorem blk_grown {w w' : World} {v : Value} {b : Nat} {cs : Array Value} {T : TypeId} (h : Blk w b cs T) (hg : w.grownBy w' v.ownBlock) (hv : v.ownBlock ≠ some b) : Blk w' b cs T :=
  (hg.block b h.lt (fun e => hv e.symm)).trans h
theorem out_grown {w : World} {v v' : Value} {b : Nat} (hb : b < w.heap.size) (hv : v.ownBlock ≠ some b) (hat : v'.ownBlock = v.ownBlock ∨ v'.ownBlock = some w.heap.size) : v'.ownBlock ≠ some b := fun e => by
  rcases hat with h | h
  · exact hv (h ▸ e)
  · rw [h] at e; cases e; omega
set_option maxHeartbeats 2000000 in
theorem row_any (a : Option Addr) (n cap : Nat) (l : List Sp) (w : World) (hn : l.length = n) (hm : n ≤ 32) (hg : good l = true) (hz : Spans w a l) (hT : Tab w) :
    Calls Tryd.prog 21 #[.slice a n cap] w fun e w' => ∃ a' c, e = .returned (.slice a' (AckPlain.putRow l).length c) ∧ (AckPlain.putRow l).length ≤ c ∧ c ≤ maxLen ∧ (a' = none → (AckPlain.putRow l).length = 0 ∧ c = 0) ∧
      RowIn (fun k => w.heap.size ≤ k) w' a' ((AckPlain.putRow l).map (.int .u8)) ∧ Below w.heap.size w w' := by
  obtain ⟨i0, hi0, hz0, hz1, hz2⟩ := info_parts Oct.info
  have hnI : (n : Int) ≤ 32 := by omega
  have en : IntKind.u8.wrap (n : Int) = n := by rw [IntKind.wrap_u8]; omega
  have O1 : Oct.Own w.heap.size (w.alloc (.cells #[.int .u8 n] 5)) (.slice (some ⟨w.heap.size, 0, none⟩) 1 1) [(n : Int)] := World.ownsRow_lit w #[.int .u8 n] 1 (Nat.le_refl _) (by decide) rfl
  go_enter Tryd.func21, Tryd.ntmps21
  go_wp2
  go_loopw [3, 4, 13] (fun b lo i wr => ∃ (k : Nat) (low : Int) (ys : List Int), k ≤ n ∧ i = .int .i64 k ∧ lo = .int .u64 low ∧ Oct.Own w.heap.size wr b ys ∧ ys ++ putSp low (l.drop k) = AckPlain.putRow l ∧ ys.length ≤ 1 + 16 * k ∧ goodFrom low (l.drop k) = true ∧ 0 ≤ low ∧ Below w.heap.size w wr) (fun _ _ i _ => n - (intOf i).toNat)
  case atStart => exact ⟨0, 0, [(n : Int)], Nat.zero_le _, rfl, rfl, O1, by rw [List.drop_zero, AckPlain.putRow, hn]; rfl, by simp, by rw [List.drop_zero]; exact hg, Int.le_refl _, (Below.refl _ _).alloc (Nat.le_refl _) _⟩
  case round =>
    obtain ⟨k, low, ys, hk, rfl, rfl, hown, hyz, hyl, hgf, hlow, hL⟩ := hrel
    clear O1
    by_cases hlt : k < n
    · obtain ⟨s1, s2, s3, s4⟩ := AckPlain.good_step (hn ▸ hlt) hgf
      have hPS := Lib.hid (AckPlain.putSp_step (hn ▸ hlt) low)
      have hYZ := Lib.hid hyz
      obtain ⟨g, off, rfl, hgl, c0, c1⟩ := (hz.below hL).at_ (hn ▸ hlt)
      clear hyz hgf
      generalize l.getD k (0, 0) = s at *
      obtain ⟨x, y⟩ := s
      dsimp only at c0 c1 s1 s2 s3 s4 hPS
      have hkI : (k : Int) < (n : Int) := by omega
      have lp1 : (put (x - low)).length ≤ 8 := by have := put_len (x - low); have := size_bd (x - low); omega
      have lp2 : (put (y - x)).length ≤ 8 := by have := put_len (y - x); have := size_bd (y - x); omega
      have ew1 : IntKind.u64.wrap (x - low) = x - low := by rw [IntKind.wrap_u64]; omega
      have ew2 : IntKind.u64.wrap (y - x) = y - x := by rw [IntKind.wrap_u64]; omega
      have D1 := fun W h => put_ack (x - low) W (by omega) (by omega) h
      have D2 := fun W h => put_ack (y - x) W (by omega) (by omega) h
      generalize put (x - low) = P1 at *
      generalize put (y - x) = P2 at *
      have hB0 := Blk.new wr #[.int .u64 x, .int .u64 y] 55
      have hLA := hL.alloc hL.size (.cells #[.int .u64 x, .int .u64 y] 55)
      have hOA := hown.alloc (.cells #[.int .u64 x, .int .u64 y] 55)
      have hvA := own_out hown
      go_wp2_with (first
        | (go_at_call 42; (with_reducible refine (D1 _ (hT.below hLA)).mono ?_); rintro e w2 ⟨a2, cap2, rfl, h1, h2, h3, R, L2⟩; have O2 := Oct.Own.below hOA L2; have B2 := hB0.below L2 hB0.lt; have M2 := Base.next0 hLA hLA.size L2; clear L2 hOA hLA hB0 D1)
        | (at_builtin; refine wpl_append_row _ rfl (.tmp 17) (.tmp 22) _ rfl w.heap.size 5 i0 _ 1 1 Tryd.underlying27 hi0 hz0 hz1 hz2 rfl (by omega) _ _ _ rfl O2 a2 P1.length cap2 (P1.map (Value.int .u8)) rfl (by simp) R.row (ints_oneCell _ _) (by unfold maxLen; omega) (by omega) M2.size ?_; intro v3 w3 hown3 hg3 hat3; have hv3 := out_grown B2.lt hvA hat3; have B3 := blk_grown B2 hg3 hvA; obtain ⟨O3, F3⟩ := own_app O2 hown3 hg3; have M3 := F3.below M2 M2.size (fun k hk => hk); clear B2 O2 M2 R hown3 hg3 hat3 F3; have b0 := B3.cell 0; have b1 := B3.cell 1)
        | (go_at_call 42; refine (D2 _ (hT.below M3)).mono ?_; rintro e w4 ⟨a4, cap4, rfl, h1, h2, h3, R, L4⟩; have O4 := Oct.Own.below O3 L4; have B4 := B3.below L4 B3.lt; have M4 := Base.next M3 L4; clear L4 O3 M3 B3 b0 b1 D2)
        | (at_builtin; refine wpl_append_row _ rfl (.tmp 24) (.tmp 30) _ rfl w.heap.size 5 i0 _ 1 1 Tryd.underlying27 hi0 hz0 hz1 hz2 rfl (by omega) _ _ _ rfl O4 a4 P2.length cap4 (P2.map (Value.int .u8)) rfl (by simp) R.row (ints_oneCell _ _) (by unfold maxLen; simp only [List.length_append]; omega) (by simp only [List.length_append]; omega) M4.size ?_; intro v5 w5 hown5 hg5 hat5; have B5 := blk_grown B4 hg5 hv3; obtain ⟨O5, F5⟩ := own_app O4 hown5 hg5; have M5 := F5.below M4 M4.size (fun k hk => hk); clear B4 O4 M4 R hown5 hg5 hat5 F5 hv3; have b0 := B5.cell 0; have b1 := B5.cell 1)
        | (go_at_call 43; refine (above_any (x, y) (by dsimp only; omega) s3 _).mono ?_; rintro e w6 ⟨rfl, L6⟩; have O6 := Oct.Own.below O5 L6; have M6 := Base.next M5 L6; clear b0 b1 L6 O5 M5 B5))
      all_goals go_roundw
      case rel => exact ⟨k + 1, y + 2, _, by omega, by go_num, rfl, O6, by rw [← hYZ.out, hPS.out]; simp only [List.append_assoc], by simp only [List.length_append]; omega, s4, by omega, M6⟩
      case measure => simp [intOf]; omega
    · obtain rfl : k = n := by omega
      have hd : l.drop k = [] := List.drop_eq_nil_of_le (by omega)
      rw [hd, AckPlain.putSp, List.append_nil] at hyz
      obtain ⟨aQ, cQ, rfl, q1, q2, q3, q4⟩ := hown.read
      have HY := Lib.hid hyz
      clear hyz
      go_wp2
      go_ret
      rw [← HY.out]
      exact ⟨aQ, cQ, rfl, q1, q2, q3, q4, hL⟩
end Go.Proofs.YtangljeceohdpaaDoor.Ack
