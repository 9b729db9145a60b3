/-
  Contracts of head.May, head.Encode and of the reference's MayData, PutData, SameData.
-/
import Derived.Test.YtbdafmomjboaaaaDoorHead3
import Derived.Test.YtbdafmomjboaaaaDoorHeadRow
namespace Go.Proofs.YtbdafmomjboaaaaDoor.Head
set_option linter.unusedVariables false
open Go.ChangeShapes Go.WideShapes Go.ChangeAt Go.RowKit
open Go.Proofs.YtbdafmomjboaaaaDoor.Base Go.Proofs.YtbdafmomjboaaaaDoor.OctPlain Go.Proofs.YtbdafmomjboaaaaDoor.Tab Go.Proofs.YtbdafmomjboaaaaDoor.Oct Go.Proofs.YtbdafmomjboaaaaDoor.HeadPlain

theorem may_eq (d : D) : may d = (decide (d.pn ≤ 4611686018427387903) && decide (d.least ≤ d.pn) && point d.ecn && fits d.off d.body.length) := by
  rw [Bool.eq_iff_iff, may_iff]
  simp only [Bool.and_eq_true, decide_eq_true_eq, fits_iff, point, M]
  omega
theorem may_any (d : D) (a : Option Addr) (len cap : Nat) (w : World) (hn : d.body.length = len) (hm : len ≤ 9223372036854775807) :
    Calls Tryd.prog 12 #[.agg #[.int .u64 d.pn, .int .u64 d.least, .int .u64 d.off, .int .u64 d.nonce, .int .i64 d.ecn, .slice a len cap]] w fun e w' => e = .returned (.bool (may d)) ∧ Below w.heap.size w w' := by
  have hE := Lib.hid (may_eq d)
  rw [hn] at hE
  have hp := fun W => point_any d.ecn W
  have hf := fun W => fits_any d.off len (by omega) (by omega) W
  generalize may d = v at *
  generalize point d.ecn = p at *
  generalize fits d.off len = f at *
  clear hn
  obtain ⟨pn, least, off, nonce, ecn, body⟩ := d
  dsimp only at *
  go_enter Tryd.func12, Tryd.ntmps12
  go_wp2_with (first
    | (go_at_call 24; refine (hp _).mono ?_; rintro e w' ⟨rfl, rfl⟩)
    | (go_at_call 25; refine (hf _).mono ?_; rintro e w' ⟨rfl, rfl⟩))
  all_goals go_ret
  all_goals exact ⟨Base.ret_bool (by rw [hE.out]; simp [*]; try (intros; omega)), (Below.refl _ _).alloc (Nat.le_refl _) _⟩
theorem ref_may (d : D) (a : Option Addr) (len cap : Nat) (w : World) (hn : d.body.length = len) (hm : len ≤ 9223372036854775807) :
    Calls Tryd.prog 11 #[.agg #[.int .u64 d.pn, .int .u64 d.least, .int .u64 d.off, .int .u64 d.nonce, .int .i64 d.ecn, .slice a len cap]] w fun e w' => e = .returned (.bool (may d)) ∧ Below w.heap.size w w' := by
  have hE := Lib.hid (show may d = (decide (d.pn ≤ 4611686018427387903) && decide (d.least ≤ d.pn) && decide (1 ≤ d.ecn) && decide (d.ecn ≤ 3) && decide (1 ≤ (len : Int)) && decide ((len : Int) ≤ 1500) && decide (d.off ≤ 4611686018427387903 - (len : Int))) by unfold may M; rw [hn])
  generalize may d = v at *
  clear hn
  obtain ⟨pn, least, off, nonce, ecn, body⟩ := d
  dsimp only at *
  go_enter Tryd.func11, Tryd.ntmps11
  go_wp2
  all_goals go_ret
  all_goals exact ⟨Base.ret_bool (by rw [hE.out, Bool.eq_iff_iff]; simp only [Bool.and_eq_true, decide_eq_true_eq]; simp; try omega), (Below.refl _ _).alloc (Nat.le_refl _) _⟩
/-- A packet being written: its block at the first world's end, the bytes so far in a row of the call's own. -/
structure Enc (w0 w : World) (v : Value) (xs : List Int) (d : D) (a : Option Addr) (len cap : Nat) : Prop where
  blk : Blk w w0.heap.size #[.int .u64 d.pn, .int .u64 d.least, .int .u64 d.off, .int .u64 d.nonce, .int .i64 d.ecn, .slice a len cap] 25
  own : Own (w0.heap.size + 1) w v xs
  below : Below w0.heap.size w0 w
section
variable {w0 w w' : World} {v v' : Value} {xs ps : List Int} {d : D} {a : Option Addr} {len cap : Nat}
theorem Enc.call (h : Enc w0 w v xs d a len cap) (hb : Below w.heap.size w w') : Enc w0 w' v xs d a len cap :=
  ⟨h.blk.below hb h.blk.lt, h.own.below hb, Base.next0 h.below h.below.size hb⟩
theorem Enc.fr (h : Enc w0 w v xs d a len cap) (ho : Own (w0.heap.size + 1) w' v' ps) (hf : Fr (fun k => w0.heap.size + 1 ≤ k) w w') : Enc w0 w' v' ps d a len cap :=
  ⟨h.blk.kept hf (by omega), ho, hf.below h.below h.below.size (fun k hk => by omega)⟩
theorem Enc.app (h : Enc w0 w v xs d a len cap) (ho : w'.ownsRow (w0.heap.size + 1) 5 1 v' (xs.length + ps.length) (xs.map (.int .u8) ++ ps.map (.int .u8))) (hg : w.grownBy w' v.ownBlock) : Enc w0 w' v' (xs ++ ps) d a len cap :=
  h.fr (by unfold Own; simpa using ho) (Fr.of_grown hg fun k hk => (h.own.lt k hk).1)
theorem Enc.size (h : Enc w0 w v xs d a len cap) : w0.heap.size + 1 ≤ w.heap.size := by have := h.blk.lt; omega
theorem Enc.c0 (h : Enc w0 w v xs d a len cap) : w.cell? ⟨w0.heap.size, 0, none⟩ = some (.int .u64 d.pn) := h.blk.cell 0
theorem Enc.c1 (h : Enc w0 w v xs d a len cap) : w.cell? ⟨w0.heap.size, 1, none⟩ = some (.int .u64 d.least) := h.blk.cell 1
theorem Enc.c2 (h : Enc w0 w v xs d a len cap) : w.cell? ⟨w0.heap.size, 2, none⟩ = some (.int .u64 d.off) := h.blk.cell 2
theorem Enc.c3 (h : Enc w0 w v xs d a len cap) : w.cell? ⟨w0.heap.size, 3, none⟩ = some (.int .u64 d.nonce) := h.blk.cell 3
theorem Enc.c5 (h : Enc w0 w v xs d a len cap) : w.cell? ⟨w0.heap.size, 5, none⟩ = some (.slice a len cap) := h.blk.cell 5
end
theorem enc_start {w0 w : World} {d : D} {a : Option Addr} {len cap : Nat} (h : Blk w w0.heap.size #[.int .u64 d.pn, .int .u64 d.least, .int .u64 d.off, .int .u64 d.nonce, .int .i64 d.ecn, .slice a len cap] 25) (hb : Below w0.heap.size w0 w) (x y : Int) :
    Enc w0 (w.alloc (.cells #[.int .u8 x, .int .u8 y] 5)) (.slice (some ⟨w.heap.size, 0, none⟩) 2 2) [x, y] d a len cap :=
  ⟨h.alloc _, World.ownsRow_lit w #[.int .u8 x, .int .u8 y] 2 (by have := h.lt; omega) (by decide) rfl, hb.alloc hb.size _⟩
theorem put_parts (d : D) : putData d = [1, d.ecn] ++ put d.pn ++ put d.least ++ put d.off ++ be 8 d.nonce ++ put d.body.length ++ d.body := by
  unfold putData p2 p3 p4 p5 p6
  simp
set_option maxHeartbeats 1000000 in
theorem encode_any (d : D) (a : Option Addr) (len cap : Nat) (w : World) (hn : d.body.length = len) (hm : may d = true) (hf : Fit d) (hr : Ints .u8 w a d.body) (hT : Tab w) :
    Calls Tryd.prog 10 #[.agg #[.int .u64 d.pn, .int .u64 d.least, .int .u64 d.off, .int .u64 d.nonce, .int .i64 d.ecn, .slice a len cap]] w fun e w' => ∃ a' c, e = .returned (.tuple #[.slice a' (putData d).length c, .int .i64 0]) ∧ (putData d).length ≤ c ∧ c ≤ maxLen ∧ (a' = none → (putData d).length = 0 ∧ c = 0) ∧
      RowIn (fun k => w.heap.size ≤ k) w' a' ((putData d).map (.int .u8)) ∧ Below w.heap.size w w' := by
  obtain ⟨m1, m2, m3, m4, m5, m6, m7⟩ := may_iff.1 hm
  obtain ⟨f1, f2, f3, f4, f5, f6⟩ := hf
  unfold M at m1 m7
  have hM := fun W => may_any d a len cap W hn (by omega)
  rw [hm] at hM
  have hP := put_parts d
  have hb := hn
  have l1 : (put d.pn).length ≤ 8 := by have := put_len d.pn; have := size_bd d.pn; omega
  have l2 : (put d.least).length ≤ 8 := by have := put_len d.least; have := size_bd d.least; omega
  have l3 : (put d.off).length ≤ 8 := by have := put_len d.off; have := size_bd d.off; omega
  have l5 : (put d.body.length).length ≤ 8 := by have := put_len d.body.length; have := size_bd d.body.length; omega
  have hl4 := be_len 8 d.nonce
  rw [hn] at hP l5 m5 m6 m7
  have C1 := fun W => put_head d.pn W f1 (by omega)
  have C2 := fun W => put_head d.least W f2 (by omega)
  have C3 := fun W => put_head d.off W f3 (by omega)
  have C4 := fun W => eight_any d.nonce W f4 f5
  have C5 := fun W => put_head (len : Int) W (by omega) (by omega)
  obtain ⟨i0, hi0, hz0, hz1, hz2⟩ := info_parts info
  obtain ⟨P1, g1⟩ : ∃ P, P = put d.pn := ⟨_, rfl⟩
  obtain ⟨P2, g2⟩ : ∃ P, P = put d.least := ⟨_, rfl⟩
  obtain ⟨P3, g3⟩ : ∃ P, P = put d.off := ⟨_, rfl⟩
  obtain ⟨P4, g4⟩ : ∃ P, P = be 8 d.nonce := ⟨_, rfl⟩
  obtain ⟨P5, g5⟩ : ∃ P, P = put (len : Int) := ⟨_, rfl⟩
  obtain ⟨P6, g6⟩ : ∃ P, P = d.body := ⟨_, rfl⟩
  rw [← g1] at l1 C1 hP
  rw [← g2] at l2 C2 hP
  rw [← g3] at l3 C3 hP
  rw [← g4] at hl4 C4 hP
  rw [← g5] at l5 C5 hP
  rw [← g6] at hP hr hb
  clear g1 g2 g3 g4 g5 g6 hm hn
  have HP := Lib.hid hP
  clear hP
  obtain ⟨Q, hQ⟩ : ∃ Q, putData d = Q := ⟨_, rfl⟩
  rw [hQ] at HP ⊢
  clear hQ f6
  have hlb : len ≤ 1500 := by omega
  have hB0 := Blk.new w #[.int .u64 d.pn, .int .u64 d.least, .int .u64 d.off, .int .u64 d.nonce, .int .i64 d.ecn, .slice a len cap] 25
  have hL0 : Below w.heap.size w (w.alloc (.cells #[.int .u64 d.pn, .int .u64 d.least, .int .u64 d.off, .int .u64 d.nonce, .int .i64 d.ecn, .slice a len cap] 25)) := (Below.refl _ _).alloc (Nat.le_refl _) _
  have hlt0 : w.heap.size < (w.alloc (.cells #[.int .u64 d.pn, .int .u64 d.least, .int .u64 d.off, .int .u64 d.nonce, .int .i64 d.ecn, .slice a len cap] 25)).heap.size := by simp
  go_enter Tryd.func10, Tryd.ntmps10
  go_wp2_with (first
    | (go_at_call 12; refine (hM _).mono ?_; rintro e w1 ⟨rfl, L1⟩; have E0 := enc_start (hB0.below L1 hlt0) (Base.next0 hL0 hL0.size L1) 1 d.ecn; have c4 : w1.cell? ⟨w.heap.size, 4, none⟩ = some (.int .i64 d.ecn) := (hB0.below L1 hlt0).cell 4; have c0 := E0.c0; clear hB0 hL0 hlt0 L1 hM)
    | (refine (C1 _ (hT.below E0.below)).mono ?_; rintro e w2 ⟨a2, cap2, rfl, h1, h2, h3, R, L2⟩; have E1 := E0.call L2; clear L2 E0 c0 c4 C1)
    | (at_builtin; refine wpl_append_row _ rfl (.tmp 12) (.tmp 15) _ rfl (w.heap.size + 1) 5 i0 _ 1 1 Tryd.underlying23 hi0 hz0 hz1 hz2 rfl (by omega) _ _ _ rfl E1.own a2 P1.length cap2 (P1.map (Value.int .u8)) rfl (by simp) R.row (ints_oneCell _ _) (by unfold maxLen; simp only [List.length_append, List.length_cons, List.length_nil]; omega) (by simp only [List.length_append, List.length_cons, List.length_nil]; omega) E1.size ?_; intro v3 w3 hown hg hat; have E2 := E1.app hown hg; clear hown hg hat; clear R E1; have c1 := E2.c1)
    | (refine (C2 _ (hT.below E2.below)).mono ?_; rintro e w4 ⟨a4, cap4, rfl, h1, h2, h3, R, L4⟩; have E3 := E2.call L4; clear L4 E2 c1 C2)
    | (at_builtin; refine wpl_append_row _ rfl (.tmp 17) (.tmp 20) _ rfl (w.heap.size + 1) 5 i0 _ 1 1 Tryd.underlying23 hi0 hz0 hz1 hz2 rfl (by omega) _ _ _ rfl E3.own a4 P2.length cap4 (P2.map (Value.int .u8)) rfl (by simp) R.row (ints_oneCell _ _) (by unfold maxLen; simp only [List.length_append, List.length_cons, List.length_nil]; omega) (by simp only [List.length_append, List.length_cons, List.length_nil]; omega) E3.size ?_; intro v5 w5 hown hg hat; have E4 := E3.app hown hg; clear hown hg hat; clear R E3; have c2 := E4.c2)
    | (refine (C3 _ (hT.below E4.below)).mono ?_; rintro e w6 ⟨a6, cap6, rfl, h1, h2, h3, R, L6⟩; have E5 := E4.call L6; clear L6 E4 c2 C3)
    | (at_builtin; refine wpl_append_row _ rfl (.tmp 22) (.tmp 25) _ rfl (w.heap.size + 1) 5 i0 _ 1 1 Tryd.underlying23 hi0 hz0 hz1 hz2 rfl (by omega) _ _ _ rfl E5.own a6 P3.length cap6 (P3.map (Value.int .u8)) rfl (by simp) R.row (ints_oneCell _ _) (by unfold maxLen; simp only [List.length_append, List.length_cons, List.length_nil]; omega) (by simp only [List.length_append, List.length_cons, List.length_nil]; omega) E5.size ?_; intro v7 w7 hown hg hat; have E6 := E5.app hown hg; clear hown hg hat; clear R E5; have c3 := E6.c3)
    | (go_at_call 23; refine (C4 _).mono ?_; rintro e w8 ⟨b8, rfl, h1, B8, L8⟩; have R : Row w8 (some ⟨b8, 0, none⟩) (P4.map (Value.int .u8)) := (rowIn_blk (S := fun _ => True) B8 trivial).row; have E7 := E6.call L8; clear L8 B8 E6 c3 C4)
    | (at_builtin; refine wpl_append_row _ rfl (.tmp 27) (.tmp 30) _ rfl (w.heap.size + 1) 5 i0 _ 1 1 Tryd.underlying23 hi0 hz0 hz1 hz2 rfl (by omega) _ _ _ rfl E7.own (some ⟨b8, 0, none⟩) 8 8 (P4.map (Value.int .u8)) rfl (by simp [hl4]) R (ints_oneCell _ _) (by unfold maxLen; simp only [List.length_append, List.length_cons, List.length_nil]; omega) (by simp only [List.length_append, List.length_cons, List.length_nil]; omega) E7.size ?_; intro v9 w9 hown hg hat; have E8 := E7.app (by rw [hl4]; exact hown) hg; clear hown hg hat; clear R E7; have c5 := E8.c5)
    | (refine (C5 _ (hT.below E8.below)).mono ?_; rintro e w10 ⟨a10, cap10, rfl, h1, h2, h3, R, L10⟩; have E9 := E8.call L10; clear L10 E8 c5 C5)
    | (at_builtin; refine wpl_append_row _ rfl (.tmp 32) (.tmp 37) _ rfl (w.heap.size + 1) 5 i0 _ 1 1 Tryd.underlying23 hi0 hz0 hz1 hz2 rfl (by omega) _ _ _ rfl E9.own a10 P5.length cap10 (P5.map (Value.int .u8)) rfl (by simp) R.row (ints_oneCell _ _) (by unfold maxLen; simp only [List.length_append, List.length_cons, List.length_nil]; omega) (by simp only [List.length_append, List.length_cons, List.length_nil]; omega) E9.size ?_; intro v11 w11 hown hg hat; have E10 := E9.app hown hg; clear hown hg hat; clear R E9; have c5 := E10.c5)
    | (at_builtin; refine wpl_append_row _ rfl (.tmp 39) (.tmp 41) _ rfl (w.heap.size + 1) 5 i0 _ 1 1 Tryd.underlying23 hi0 hz0 hz1 hz2 rfl (by omega) _ _ _ rfl E10.own a len cap (P6.map (Value.int .u8)) rfl (by simp [hb]) (hr.below E10.below) (ints_oneCell _ _) (by unfold maxLen; simp only [List.length_append, List.length_cons, List.length_nil]; omega) (by simp only [List.length_append, List.length_cons, List.length_nil]; omega) E10.size ?_; intro v12 w12 hown hg hat; have E11 := E10.app (by rw [hb]; exact hown) hg; clear hown hg hat))
  all_goals go_ret2
  rw [← HP.out] at E11
  obtain ⟨aQ, cQ, rfl, q1, q2, q3, q4⟩ := E11.own.read
  exact ⟨aQ, cQ, rfl, q1, q2, q3, q4.mono (fun k _ hk => by omega), E11.below⟩
theorem encode_bad (d : D) (a : Option Addr) (len cap : Nat) (w : World) (hn : d.body.length = len) (hl : len ≤ 9223372036854775807) (hm : may d = false) :
    Calls Tryd.prog 10 #[.agg #[.int .u64 d.pn, .int .u64 d.least, .int .u64 d.off, .int .u64 d.nonce, .int .i64 d.ecn, .slice a len cap]] w fun e w' => e = .returned (.tuple #[.slice none 0 0, .int .i64 1]) ∧ Below w.heap.size w w' := by
  have hM := fun W => may_any d a len cap W hn hl
  rw [hm] at hM
  have hL0 : Below w.heap.size w (w.alloc (.cells #[.int .u64 d.pn, .int .u64 d.least, .int .u64 d.off, .int .u64 d.nonce, .int .i64 d.ecn, .slice a len cap] 25)) := (Below.refl _ _).alloc (Nat.le_refl _) _
  go_enter Tryd.func10, Tryd.ntmps10
  go_wp2_with (go_at_call 12; refine (hM _).mono ?_; rintro e w1 ⟨rfl, L1⟩)
  all_goals go_ret2
  all_goals exact ⟨rfl, Base.next0 hL0 hL0.size L1⟩
theorem ref_put_own (d : D) (a : Option Addr) (len cap : Nat) (w : World) (hn : d.body.length = len) (hm : may d = true) (hf : Fit d) (hr : Ints .u8 w a d.body) :
    Calls Tryd.prog 13 #[.agg #[.int .u64 d.pn, .int .u64 d.least, .int .u64 d.off, .int .u64 d.nonce, .int .i64 d.ecn, .slice a len cap]] w fun e w' => ∃ v', e = .returned v' ∧ Own (w.heap.size + 1) w' v' (putData d) ∧ Below w.heap.size w w' := by
  obtain ⟨m1, m2, m3, m4, m5, m6, m7⟩ := may_iff.1 hm
  obtain ⟨f1, f2, f3, f4, f5, f6⟩ := hf
  unfold M at m1 m7
  have hP := put_parts d
  have hb := hn
  have l1 : (put d.pn).length ≤ 8 := by have := put_len d.pn; have := size_bd d.pn; omega
  have l2 : (put d.least).length ≤ 8 := by have := put_len d.least; have := size_bd d.least; omega
  have l3 : (put d.off).length ≤ 8 := by have := put_len d.off; have := size_bd d.off; omega
  have l5 : (put d.body.length).length ≤ 8 := by have := put_len d.body.length; have := size_bd d.body.length; omega
  have hl4 := be_len 8 d.nonce
  rw [hn] at hP l5 m5 m6 m7
  obtain ⟨i0, hi0, hz0, hz1, hz2⟩ := info_parts info
  have HP := Lib.hid hP
  clear hP
  obtain ⟨Q, hQ⟩ : ∃ Q, putData d = Q := ⟨_, rfl⟩
  rw [hQ] at HP ⊢
  have hB0 := Blk.new w #[.int .u64 d.pn, .int .u64 d.least, .int .u64 d.off, .int .u64 d.nonce, .int .i64 d.ecn, .slice a len cap] 25
  have hL0 : Below w.heap.size w (w.alloc (.cells #[.int .u64 d.pn, .int .u64 d.least, .int .u64 d.off, .int .u64 d.nonce, .int .i64 d.ecn, .slice a len cap] 25)) := (Below.refl _ _).alloc (Nat.le_refl _) _
  have E0 := enc_start hB0 hL0 1 d.ecn
  rw [World.size_alloc] at E0
  have c4 : (w.alloc (.cells #[.int .u64 d.pn, .int .u64 d.least, .int .u64 d.off, .int .u64 d.nonce, .int .i64 d.ecn, .slice a len cap] 25)).cell? ⟨w.heap.size, 4, none⟩ = some (.int .i64 d.ecn) := hB0.cell 4
  have c0 := E0.c0
  clear hQ f6 hn hm hB0 hL0
  go_enter Tryd.func13, Tryd.ntmps13
  go_wp2_with (first
    | (refine (ref_put E0.own E0.size (by simp) d.pn f1 (by omega)).mono ?_; rintro e w1 ⟨v1, rfl, O1, F1⟩; have E1 := E0.fr O1 F1; have c1 := E1.c1; clear E0 O1 F1 c4 c0)
    | (refine (ref_put E1.own E1.size (by simp; omega) d.least f2 (by omega)).mono ?_; rintro e w2 ⟨v2, rfl, O2, F2⟩; have E2 := E1.fr O2 F2; have c2 := E2.c2; clear E1 O2 F2 c1)
    | (refine (ref_put E2.own E2.size (by simp; omega) d.off f3 (by omega)).mono ?_; rintro e w3 ⟨v3, rfl, O3, F3⟩; have E3 := E2.fr O3 F3; have c3 := E3.c3; clear E2 O3 F3 c2)
    | (refine (ref_eight E3.own E3.size (by simp; omega) d.nonce f4 f5).mono ?_; rintro e w4 ⟨v4, rfl, O4, F4⟩; have E4 := E3.fr O4 F4; have c5 := E4.c5; clear E3 O4 F4 c3)
    | (refine (ref_put E4.own E4.size (by simp only [List.length_append, List.length_cons, List.length_nil]; omega) (len : Int) (by omega) (by omega)).mono ?_; rintro e w5 ⟨v5, rfl, O5, F5⟩; have E5 := E4.fr O5 F5; clear E4 O5 F5 c5; have c5 := E5.c5)
    | (at_builtin; refine wpl_append_row _ rfl (.tmp 30) (.tmp 32) _ rfl (w.heap.size + 1) 5 i0 _ 1 1 Tryd.underlying23 hi0 hz0 hz1 hz2 rfl (by omega) _ _ _ rfl E5.own a len cap (d.body.map (Value.int .u8)) rfl (by simp [hb]) (hr.below E5.below) (ints_oneCell _ _) (by unfold maxLen; simp only [List.length_append, List.length_cons, List.length_nil]; omega) (by simp only [List.length_append, List.length_cons, List.length_nil]; omega) E5.size ?_; intro v12 w12 hown hg hat; have E6 := E5.app (by rw [hb]; exact hown) hg; clear hown hg hat))
  all_goals go_ret
  rw [← HP.out] at E6
  exact ⟨_, rfl, E6.own, E6.below⟩
theorem ref_put_data (d : D) (a : Option Addr) (len cap : Nat) (w : World) (hn : d.body.length = len) (hm : may d = true) (hf : Fit d) (hr : Ints .u8 w a d.body) :
    Calls Tryd.prog 13 #[.agg #[.int .u64 d.pn, .int .u64 d.least, .int .u64 d.off, .int .u64 d.nonce, .int .i64 d.ecn, .slice a len cap]] w fun e w' => ∃ a' c, e = .returned (.slice a' (putData d).length c) ∧ (putData d).length ≤ c ∧ c ≤ maxLen ∧ (a' = none → (putData d).length = 0 ∧ c = 0) ∧
      RowIn (fun k => w.heap.size ≤ k) w' a' ((putData d).map (.int .u8)) ∧ Below w.heap.size w w' := by
  refine (ref_put_own d a len cap w hn hm hf hr).mono ?_
  rintro e w' ⟨v, rfl, hO, hL⟩
  obtain ⟨aQ, cQ, rfl, q1, q2, q3, q4⟩ := hO.read
  exact ⟨aQ, cQ, rfl, q1, q2, q3, q4.mono (fun k _ hk => by omega), hL⟩
end Go.Proofs.YtbdafmomjboaaaaDoor.Head
