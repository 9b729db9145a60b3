/-
  Contracts of ack.Encode and Challenge.
-/
import Derived.Test.YtangljeceohdpaaDoorAckEnc
namespace Go.Proofs.YtangljeceohdpaaDoor.Ack
set_option linter.unusedVariables false
set_option maxRecDepth 20000
open Go.ChangeShapes Go.WideShapes Go.ChangeAt Go.RowKit
open Go.Proofs.YtangljeceohdpaaDoor.Base Go.Proofs.YtangljeceohdpaaDoor.OctPlain Go.Proofs.YtangljeceohdpaaDoor.Tab Go.Proofs.YtangljeceohdpaaDoor.Oct Go.Proofs.YtangljeceohdpaaDoor.SpanPlain
open Go.Proofs.YtangljeceohdpaaDoor.AckPlain (K putAck getAck getRow getSp putSp getNum comb Fit)

section
variable {w0 w w' : World} {v v' : Value} {xs ps : List Int} {x : K} {a b : Option Addr} {n c m d : Nat}
theorem Enc.call (h : Enc w0 w v xs x a n c b m d) (hb : Below w.heap.size w w') : Enc w0 w' v xs x a n c b m d :=
  ⟨h.blk.below hb h.blk.lt, h.own.below hb, Base.next0 h.below h.below.size hb⟩
theorem Enc.app (h : Enc w0 w v xs x a n c b m d) (ho : w'.ownsRow (w0.heap.size + 1) 5 1 v' (xs.length + ps.length) (xs.map (.int .u8) ++ ps.map (.int .u8))) (hg : w.grownBy w' v.ownBlock) : Enc w0 w' v' (xs ++ ps) x a n c b m d :=
  h.fr (own_app h.own ho hg).1 (own_app h.own ho hg).2
theorem Enc.lit (h : Enc w0 w v xs x a n c b m d) (o : Obj) : Enc w0 (w.alloc o) v xs x a n c b m d := h.call ((Below.refl _ _).alloc (Nat.le_refl _) _)
end
theorem enc_go {w0 w : World} {x : K} {a b : Option Addr} {n c m d : Nat} (h : Blk w w0.heap.size #[.slice a n c, .slice b m d, .int .u64 x.trigger, .int .u64 x.xor, .bool x.parity] 25) (hb : Below w0.heap.size w0 w) (y : Int) :
    Enc w0 (w.alloc (.cells #[.int .u8 y] 5)) (.slice (some ⟨w.heap.size, 0, none⟩) 1 1) [y] x a n c b m d :=
  ⟨h.alloc _, World.ownsRow_lit w #[.int .u8 y] 1 (by have := h.lt; omega) (by decide) rfl, hb.alloc hb.size _⟩
set_option maxHeartbeats 2000000 in
theorem encode_any (x : K) (a b : Option Addr) (n c m d : Nat) (w : World) (hn : x.spans.length = n) (hm : x.marked.length = m) (hx : AckPlain.may x = true) (hf : Fit x) (hs : Spans w a x.spans) (ht : Spans w b x.marked) (hT : Tab w) :
    Calls Tryd.prog 9 #[.agg #[.slice a n c, .slice b m d, .int .u64 x.trigger, .int .u64 x.xor, .bool x.parity]] w fun e w' => ∃ a' c, e = .returned (.tuple #[.slice a' (putAck x).length c, .int .i64 0]) ∧ (putAck x).length ≤ c ∧ c ≤ maxLen ∧ (a' = none → (putAck x).length = 0 ∧ c = 0) ∧
      RowIn (fun k => w.heap.size ≤ k) w' a' ((putAck x).map (.int .u8)) ∧ Below w.heap.size w w' := by
  obtain ⟨m1, m2, m3, m4, m5, m6⟩ := AckPlain.may_iff.1 hx
  obtain ⟨⟨f1, f2⟩, f3, f4⟩ := hf
  obtain ⟨i0, hi0, hz0, hz1, hz2⟩ := info_parts Oct.info
  have HP := Lib.hid (put_parts x)
  have hM := fun W h1 h2 => may_any x a b n c m d W hn hm (by omega) (by omega) (Fits.of_good m4) (Fits.of_good m5) h1 h2
  rw [hx] at hM
  have hB0 := Blk.new w #[.slice a n c, .slice b m d, .int .u64 x.trigger, .int .u64 x.xor, .bool x.parity] 25
  have hL0 : Below w.heap.size w (w.alloc (.cells #[.slice a n c, .slice b m d, .int .u64 x.trigger, .int .u64 x.xor, .bool x.parity] 25)) := (Below.refl _ _).alloc (Nat.le_refl _) _
  have l1 := put_row_len x.spans
  have l2 := put_row_len x.marked
  have l3 := be_len 8 x.trigger
  have l4 := be_len 8 x.xor
  have hn32 : n ≤ 32 := by omega
  have hm32 : m ≤ 32 := by omega
  have C1 := fun W h1 h2 => row_any a n c x.spans W hn hn32 m4 h1 h2
  have C2 := fun W h1 h2 => row_any b m d x.marked W hm hm32 m5 h1 h2
  have C3 := fun W => eight_any x.trigger W f1 f2
  have C4 := fun W => eight_any x.xor W f3 f4
  have C5 := fun W => flag_of x.parity W
  obtain ⟨P1, g1⟩ : ∃ P, P = AckPlain.putRow x.spans := ⟨_, rfl⟩
  obtain ⟨P2, g2⟩ : ∃ P, P = AckPlain.putRow x.marked := ⟨_, rfl⟩
  obtain ⟨P3, g3⟩ : ∃ P, P = be 8 x.trigger := ⟨_, rfl⟩
  obtain ⟨P4, g4⟩ : ∃ P, P = be 8 x.xor := ⟨_, rfl⟩
  obtain ⟨y, g5⟩ : ∃ y, y = AckPlain.byteOf x.parity := ⟨_, rfl⟩
  obtain ⟨Q, hQ⟩ : ∃ Q, putAck x = Q := ⟨_, rfl⟩
  rw [← g1] at l1 C1 HP
  rw [← g2] at l2 C2 HP
  rw [← g3] at l3 C3 HP
  rw [← g4] at l4 C4 HP
  rw [← g5] at C5 HP
  rw [hQ] at HP ⊢
  have q1 : P1.length ≤ 600 := by omega
  have q2 : P2.length ≤ 600 := by omega
  have q3 := Lib.hid l3
  have q4 := Lib.hid l4
  have q3' : P3.length ≤ 8 := by omega
  have q4' : P4.length ≤ 8 := by omega
  clear g1 g2 g3 g4 g5 hQ hx l1 l2 l3 l4 m1 m2 m3 m4 m5 m6 hn hm hn32 hm32
  go_enter Tryd.func9, Tryd.ntmps9
  go_wp2_with (first
    | (go_at_call 11; refine (hM _ (hs.below hL0) (ht.below hL0)).mono ?_; rintro e w1 ⟨rfl, L1⟩; have E0 := enc_go (hB0.below L1 hB0.lt) (Base.next0 hL0 hL0.size L1) 2; obtain ⟨p0, _, _, _, _⟩ := blk5 E0.blk; clear hB0 hL0 L1 hM)
    | (go_at_call 21; (with_reducible refine (C1 _ (hs.below E0.below) (hT.below E0.below)).mono ?_); rintro e w2 ⟨a2, cap2, rfl, h1, h2, h3, R, L2⟩; have E1 := E0.call L2; clear L2 E0 p0 C1)
    | (at_builtin; refine wpl_append_row _ rfl (.tmp 9) (.tmp 12) _ rfl (w.heap.size + 1) 5 i0 _ 1 1 Tryd.underlying27 hi0 hz0 hz1 hz2 rfl (by omega) _ _ _ rfl E1.own a2 P1.length cap2 (P1.map (Value.int .u8)) rfl (by simp) R.row (ints_oneCell _ _) (by unfold maxLen; simp only [List.length_append, List.length_cons, List.length_nil]; omega) (by simp only [List.length_append, List.length_cons, List.length_nil]; omega) E1.size ?_; intro v3 w3 hown hg hat; have E2 := E1.app hown hg; clear hown hg hat R E1; obtain ⟨_, p1, _, _, _⟩ := blk5 E2.blk)
    | (go_at_call 21; refine (C2 _ (ht.below E2.below) (hT.below E2.below)).mono ?_; rintro e w4 ⟨a4, cap4, rfl, h1, h2, h3, R, L4⟩; have E3 := E2.call L4; clear L4 E2 p1 C2)
    | (at_builtin; refine wpl_append_row _ rfl (.tmp 14) (.tmp 17) _ rfl (w.heap.size + 1) 5 i0 _ 1 1 Tryd.underlying27 hi0 hz0 hz1 hz2 rfl (by omega) _ _ _ rfl E3.own a4 P2.length cap4 (P2.map (Value.int .u8)) rfl (by simp) R.row (ints_oneCell _ _) (by unfold maxLen; simp only [List.length_append, List.length_cons, List.length_nil]; omega) (by simp only [List.length_append, List.length_cons, List.length_nil]; omega) E3.size ?_; intro v5 w5 hown hg hat; have E4 := E3.app hown hg; clear hown hg hat R E3; obtain ⟨_, _, p2, _, _⟩ := blk5 E4.blk)
    | (go_at_call 22; (with_reducible refine (C3 _).mono ?_); rintro e w6 ⟨b6, rfl, h1, B6, L6⟩; have R : Row w6 (some ⟨b6, 0, none⟩) (P3.map (Value.int .u8)) := (rowIn_blk (S := fun _ => True) B6 trivial).row; have E5 := E4.call L6; clear L6 B6 E4 p2 C3)
    | (at_builtin; refine wpl_append_row _ rfl (.tmp 19) (.tmp 22) _ rfl (w.heap.size + 1) 5 i0 _ 1 1 Tryd.underlying27 hi0 hz0 hz1 hz2 rfl (by omega) _ _ _ rfl E5.own (some ⟨b6, 0, none⟩) 8 8 (P3.map (Value.int .u8)) rfl (by simp [q3.out]) R (ints_oneCell _ _) (by unfold maxLen; simp only [List.length_append, List.length_cons, List.length_nil]; omega) (by simp only [List.length_append, List.length_cons, List.length_nil]; omega) E5.size ?_; intro v7 w7 hown hg hat; have E6 := E5.app (by rw [q3.out]; exact hown) hg; clear hown hg hat R E5; obtain ⟨_, _, _, p3, _⟩ := blk5 E6.blk)
    | (go_at_call 22; refine (C4 _).mono ?_; rintro e w8 ⟨b8, rfl, h1, B8, L8⟩; have R : Row w8 (some ⟨b8, 0, none⟩) (P4.map (Value.int .u8)) := (rowIn_blk (S := fun _ => True) B8 trivial).row; have E7 := E6.call L8; clear L8 B8 E6 p3 C4)
    | (at_builtin; refine wpl_append_row _ rfl (.tmp 24) (.tmp 27) _ rfl (w.heap.size + 1) 5 i0 _ 1 1 Tryd.underlying27 hi0 hz0 hz1 hz2 rfl (by omega) _ _ _ rfl E7.own (some ⟨b8, 0, none⟩) 8 8 (P4.map (Value.int .u8)) rfl (by simp [q4.out]) R (ints_oneCell _ _) (by unfold maxLen; simp only [List.length_append, List.length_cons, List.length_nil]; omega) (by simp only [List.length_append, List.length_cons, List.length_nil]; omega) E7.size ?_; intro v9 w9 hown hg hat; have E8 := E7.app (by rw [q4.out]; exact hown) hg; clear hown hg hat R E7; obtain ⟨_, _, _, _, p4⟩ := blk5 E8.blk)
    | (go_at_call 23; refine (C5 _).mono ?_; rintro e w' ⟨rfl, rfl⟩)
    | (at_builtin; refine wpl_append_row _ rfl (.tmp 29) (.tmp 33) _ rfl (w.heap.size + 1) 5 i0 _ 1 1 Tryd.underlying27 hi0 hz0 hz1 hz2 rfl (by omega) _ _ _ rfl (E8.own.alloc _) (some ⟨w9.heap.size, 0, none⟩) 1 1 [.int .u8 y] rfl rfl (Row.lit w9 _ [.int .u8 y]) (by simp [Value.oneCell']) (by unfold maxLen; simp only [List.length_append, List.length_cons, List.length_nil]; omega) (by simp only [List.length_append, List.length_cons, List.length_nil]; omega) (by have := E8.size; simp; omega) ?_; intro v11 w11 hown hg hat; have E9 := E8.fr (Oct.Own.snoc hown) (Oct.Own.turned E8.own hg); clear hown hg hat E8 p4))
  all_goals go_ret2
  rw [← HP.out] at E9
  obtain ⟨aQ, cQ, rfl, q1, q2, q3, q4⟩ := E9.own.read
  exact ⟨aQ, cQ, rfl, q1, q2, q3, q4.mono (fun k _ hk => by omega), E9.below⟩
theorem encode_bad (x : K) (a b : Option Addr) (n c m d : Nat) (w : World) (hn : x.spans.length = n) (hm : x.marked.length = m) (hn' : n ≤ 9223372036854775807) (hm' : m ≤ 9223372036854775807) (hf : Fits x.spans) (hg : Fits x.marked) (hs : Spans w a x.spans) (ht : Spans w b x.marked) (hx : AckPlain.may x = false) :
    Calls Tryd.prog 9 #[.agg #[.slice a n c, .slice b m d, .int .u64 x.trigger, .int .u64 x.xor, .bool x.parity]] w fun e w' => e = .returned (.tuple #[.slice none 0 0, .int .i64 1]) ∧ Below w.heap.size w w' := by
  have hM := fun W h1 h2 => may_any x a b n c m d W hn hm hn' hm' hf hg h1 h2
  rw [hx] at hM
  have hL0 : Below w.heap.size w (w.alloc (.cells #[.slice a n c, .slice b m d, .int .u64 x.trigger, .int .u64 x.xor, .bool x.parity] 25)) := (Below.refl _ _).alloc (Nat.le_refl _) _
  clear hx hn hm
  go_enter Tryd.func9, Tryd.ntmps9
  go_wp2_with (go_at_call 11; refine (hM _ (hs.below hL0) (ht.below hL0)).mono ?_; rintro e w1 ⟨rfl, L1⟩)
  all_goals go_ret2
  all_goals exact ⟨rfl, Base.next0 hL0 hL0.size L1⟩
/-- A challenge's bytes, or none. -/
def chal (n : Int) : List Int := if n ≤ 4611686018427387903 then 3 :: put n else []
theorem challenge_any (n : Int) (w : World) (n0 : 0 ≤ n) (n1 : n ≤ 18446744073709551615) (hT : Tab w) :
    Calls Tryd.prog 17 #[.int .u64 n] w fun e w' => ∃ a c, e = .returned (.tuple #[.slice a (chal n).length c, .bool (decide (n ≤ 4611686018427387903))]) ∧ (chal n).length ≤ c ∧ c ≤ maxLen ∧ (a = none → (chal n).length = 0 ∧ c = 0) ∧
      RowIn (fun k => w.heap.size ≤ k) w' a ((chal n).map (.int .u8)) ∧ Below w.heap.size w w' := by
  obtain ⟨i0, hi0, hz0, hz1, hz2⟩ := info_parts Oct.info
  have hp := put_any n w n0 n1 hT
  have lp1 : (put n).length ≤ 8 := by have := put_len n; have := size_bd n; omega
  by_cases h : n ≤ 4611686018427387903
  · rw [show chal n = 3 :: put n from if_pos h, decide_eq_true h]
    rw [decide_eq_true h] at hp
    generalize put n = P at *
    go_enter Tryd.func17, Tryd.ntmps17
    go_wp2_with (first
      | (go_at_call 37; refine hp.mono ?_; rintro e w1 ⟨a1, cap1, rfl, h1, h2, h3, R, L1⟩)
      | (at_builtin; refine wpl_append_row _ rfl (.tmp 13) (.tmp 14) _ rfl w.heap.size 5 i0 _ 1 1 Tryd.underlying27 hi0 hz0 hz1 hz2 rfl (by omega) (.slice (some ⟨w1.heap.size, 0, none⟩) 1 1) 1 [.int .u8 3] rfl (World.ownsRow_lit w1 #[.int .u8 3] 1 L1.size (by decide) rfl) a1 P.length cap1 (P.map (Value.int .u8)) rfl (by simp) (Row.alloc R.row _) (ints_oneCell _ _) (by unfold maxLen; omega) (by omega) (by have := L1.size; simp; omega) ?_; intro v3 w3 hown hg hat; have M3 : Below w.heap.size w w3 := (L1.alloc L1.size _).grown hg (by have := L1.size; simp; omega) (fun k hk => by have := L1.size; simp [Value.ownBlock] at hk; omega)))
    all_goals go_ret2
    obtain ⟨aQ, cQ, rfl, q1, q2, q3, q4⟩ := rowIn_of_own Nat.one_pos hown
    exact ⟨aQ, cQ, by simp [Nat.add_comm], by omega, q2, fun e => by have := q3 e; omega, by simpa using q4, M3⟩
  · rw [show chal n = [] from if_neg h, decide_eq_false h]
    rw [decide_eq_false h] at hp
    go_enter Tryd.func17, Tryd.ntmps17
    go_wp2_with (go_at_call 37; refine hp.mono ?_; rintro e w1 ⟨a1, cap1, rfl, h1, h2, h3, R, L1⟩)
    all_goals go_ret2
    all_goals exact ⟨none, 0, rfl, Nat.le_refl _, Nat.zero_le _, (fun _ => by simp), RowIn.nil _ _ _, L1⟩
end Go.Proofs.YtangljeceohdpaaDoor.Ack
