/-
  Several texts in one: AckRef, AckRef2, AckRef3, AckRef4, AckFn, AckGet.
-/
import Derived.Test.YtkiloaebokkjbaaGreatRows
import Derived.Test.YtkiloaebokkjbaaGreatM3
import Derived.Test.YtkiloaebokkjbaaGreatM12
import Derived.Test.YtkiloaebokkjbaaGreatM13
import Derived.Test.YtkiloaebokkjbaaGreatSpanOwn
import Derived.Test.YtkiloaebokkjbaaGreatSpanRef
import Derived.Test.YtkiloaebokkjbaaGreatSpanRef3
import Derived.Deep.Cut
import Derived.Laws.ResultCell
/-
  Contracts of the reference's small functions on acknowledgments.
-/
set_option linter.unusedSimpArgs false
set_option linter.unusedVariables false
namespace Go.Proofs.YtkiloaebokkjbaaGreat.Ack
set_option linter.unusedVariables false
set_option maxRecDepth 20000
open Go.ChangeShapes Go.WideShapes Go.ChangeAt Go.RowKit
open Go.Proofs.YtkiloaebokkjbaaGreat.Base Go.Proofs.YtkiloaebokkjbaaGreat.OctPlain Go.Proofs.YtkiloaebokkjbaaGreat.Tab Go.Proofs.YtkiloaebokkjbaaGreat.Oct Go.Proofs.YtkiloaebokkjbaaGreat.SpanPlain Go.Proofs.YtkiloaebokkjbaaGreat.SpanRef
open Go.Proofs.YtkiloaebokkjbaaGreat.AckPlain (K putAck getAck getRow getSp putSp getNum comb Fit)

/-- A block of five cells. -/
theorem blk5 {w : World} {b : Nat} {v0 v1 v2 v3 v4 : Value} {T : TypeId} (h : Blk w b #[v0, v1, v2, v3, v4] T) :
    w.cell? ⟨b, 0, none⟩ = some v0 ∧ w.cell? ⟨b, 1, none⟩ = some v1 ∧ w.cell? ⟨b, 2, none⟩ = some v2 ∧ w.cell? ⟨b, 3, none⟩ = some v3 ∧ w.cell? ⟨b, 4, none⟩ = some v4 :=
  ⟨h.cell 0, h.cell 1, h.cell 2, h.cell 3, h.cell 4⟩
theorem ref_same_ack (x : K) (a1 b1 a2 b2 : Option Addr) (n1 c1 m1 d1 n2 c2 m2 d2 : Nat) (w : World) (hn1 : x.spans.length = n1) (hn2 : x.spans.length = n2) (hm1 : x.marked.length = m1) (hm2 : x.marked.length = m2)
    (hs : x.spans.length ≤ 140737488355328) (ht : x.marked.length ≤ 140737488355328) (h1 : Spans w a1 x.spans) (h2 : Spans w b1 x.marked) (h3 : Spans w a2 x.spans) (h4 : Spans w b2 x.marked) :
    Calls Tryz.prog 25 #[.agg #[.slice a1 n1 c1, .slice b1 m1 d1, .int .u64 x.trigger, .int .u64 x.xor, .bool x.parity], .agg #[.slice a2 n2 c2, .slice b2 m2 d2, .int .u64 x.trigger, .int .u64 x.xor, .bool x.parity]] w fun e w' => e = .returned (.bool true) ∧ Below w.heap.size w w' := by
  have C1 := fun W z y => SpanRef.same_any a1 a2 n1 n2 c1 c2 x.spans x.spans W hn1 hn2 (by omega) (by omega) z y
  have C2 := fun W z y => SpanRef.same_any b1 b2 m1 m2 d1 d2 x.marked x.marked W hm1 hm2 (by omega) (by omega) z y
  rw [decide_eq_true rfl] at C1 C2
  have hB1 := (Blk.new w #[.slice a1 n1 c1, .slice b1 m1 d1, .int .u64 x.trigger, .int .u64 x.xor, .bool x.parity] 56).alloc (.cells #[.slice a2 n2 c2, .slice b2 m2 d2, .int .u64 x.trigger, .int .u64 x.xor, .bool x.parity] 56)
  have hB2 := Blk.new (w.alloc (.cells #[.slice a1 n1 c1, .slice b1 m1 d1, .int .u64 x.trigger, .int .u64 x.xor, .bool x.parity] 56)) #[.slice a2 n2 c2, .slice b2 m2 d2, .int .u64 x.trigger, .int .u64 x.xor, .bool x.parity] 56
  have hL : Below w.heap.size w ((w.alloc (.cells #[.slice a1 n1 c1, .slice b1 m1 d1, .int .u64 x.trigger, .int .u64 x.xor, .bool x.parity] 56)).alloc (.cells #[.slice a2 n2 c2, .slice b2 m2 d2, .int .u64 x.trigger, .int .u64 x.xor, .bool x.parity] 56)) := ((Below.refl _ _).alloc (Nat.le_refl _) _).alloc (by simp) _
  rw [World.size_alloc] at hB2
  clear hn1 hn2 hm1 hm2
  go_enter Tryz.func25, Tryz.ntmps25
  go_upto_region 1 with fail
  generalize (w.alloc (.cells #[.slice a1 n1 c1, .slice b1 m1 d1, .int .u64 x.trigger, .int .u64 x.xor, .bool x.parity] 56)).alloc (.cells #[.slice a2 n2 c2, .slice b2 m2 d2, .int .u64 x.trigger, .int .u64 x.xor, .bool x.parity] 56) = W at hB1 hB2 hL ⊢
  obtain ⟨p0, p1, p2, p3, p4⟩ := blk5 hB1
  obtain ⟨q0, q1, q2, q3, q4⟩ := blk5 hB2
  go_wp2_with (first
    | (go_at_call 57; (with_reducible refine (C1 W (h1.below hL) (h3.below hL)).mono ?_); rintro e w1 ⟨rfl, L1⟩; clear C1 p0 p1 p2 p3 p4 q0 q1 q2 q3 q4; have M1 := Base.next hL L1; have hC1 := hB1.below L1 hB1.lt; have hC2 := hB2.below L1 hB2.lt; clear hB1 hB2; obtain ⟨p0, p1, p2, p3, p4⟩ := blk5 hC1; obtain ⟨q0, q1, q2, q3, q4⟩ := blk5 hC2)
    | (go_at_call 57; refine (C2 w1 (h2.below M1) (h4.below M1)).mono ?_; rintro e w2 ⟨rfl, L2⟩; clear C2 p0 p1 p2 p3 p4 q0 q1 q2 q3 q4; have M2 := Base.next M1 L2; have hD1 := hC1.below L2 hC1.lt; have hD2 := hC2.below L2 hC2.lt; clear hC1 hC2; obtain ⟨p0, p1, p2, p3, p4⟩ := blk5 hD1; obtain ⟨q0, q1, q2, q3, q4⟩ := blk5 hD2))
  all_goals go_ret
  all_goals exact ⟨by simp, M2⟩
theorem ref_may_ack (x : K) (a b : Option Addr) (n c m d : Nat) (w : World) (hn : x.spans.length = n) (hm : x.marked.length = m) (hn' : n ≤ 9223372036854775807) (hm' : m ≤ 9223372036854775807) (hf : Fits x.spans) (hg : Fits x.marked) (hs : Spans w a x.spans) (ht : Spans w b x.marked) :
    Calls Tryz.prog 62 #[.agg #[.slice a n c, .slice b m d, .int .u64 x.trigger, .int .u64 x.xor, .bool x.parity]] w fun e w' => e = .returned (.bool (AckPlain.may x)) ∧ Below w.heap.size w w' := by
  have hE := Lib.hid (show AckPlain.may x = (decide (1 ≤ (n : Int)) && decide ((n : Int) ≤ 32) && decide ((m : Int) ≤ 32) && good x.spans && good x.marked && inside x.marked x.spans) by unfold AckPlain.may; rw [hn, hm])
  have G1 := fun W h z => SpanRef.ref_good a n c x.spans W hn h hf z
  have G2 := fun W h z => SpanRef.ref_good b m d x.marked W hm h hg z
  have G3 := fun W h1 h2 z y => SpanRef.ref_inside b a m n d c x.marked x.spans W hm hn h1 h2 z y
  have hB := Blk.new w #[.slice a n c, .slice b m d, .int .u64 x.trigger, .int .u64 x.xor, .bool x.parity] 56
  have hL : Below w.heap.size w (w.alloc (.cells #[.slice a n c, .slice b m d, .int .u64 x.trigger, .int .u64 x.xor, .bool x.parity] 56)) := (Below.refl _ _).alloc (Nat.le_refl _) _
  generalize AckPlain.may x = v at *
  generalize good x.spans = g1 at *
  generalize good x.marked = g2 at *
  generalize inside x.marked x.spans = g3 at *
  clear hn hm
  go_enter Tryz.func62, Tryz.ntmps62
  go_upto_region 1 with fail
  generalize w.alloc (.cells #[.slice a n c, .slice b m d, .int .u64 x.trigger, .int .u64 x.xor, .bool x.parity] 56) = W at hB hL ⊢
  obtain ⟨p0, p1, p2, p3, p4⟩ := blk5 hB
  by_cases h1 : (1 : Int) ≤ (n : Int) ∧ (n : Int) ≤ 32 ∧ (m : Int) ≤ 32
  · obtain ⟨h1, h2, h3⟩ := h1
    rw [decide_eq_true h1, decide_eq_true h2, decide_eq_true h3] at hE
    cases g1
    all_goals go_wp2_with (first
      | (go_at_call 58; (with_reducible refine (G1 W (by omega) (hs.below hL)).mono ?_); rintro e w1 ⟨rfl, L1⟩; clear G1 p0 p1 p2 p3 p4; have M1 := Base.next hL L1; have B1 := hB.below L1 hB.lt; clear hB; obtain ⟨p0, p1, p2, p3, p4⟩ := blk5 B1; cases g2)
      | (go_at_call 58; refine (G2 w1 (by omega) (ht.below M1)).mono ?_; rintro e w2 ⟨rfl, L2⟩; clear G2 p0 p1 p2 p3 p4; have M2 := Base.next M1 L2; have B2 := B1.below L2 B1.lt; clear B1; obtain ⟨p0, p1, p2, p3, p4⟩ := blk5 B2)
      | (go_at_call 99; refine (G3 w2 (by omega) (by omega) (ht.below M2) (hs.below M2)).mono ?_; rintro e w3 ⟨rfl, L3⟩; clear G3; have M3 := Base.next M2 L3))
    all_goals go_ret
    all_goals first
      | exact ⟨Base.ret_bool (by rw [hE.out]; simp), M3⟩
      | exact ⟨Base.ret_bool (by rw [hE.out]; simp), M2⟩
      | exact ⟨Base.ret_bool (by rw [hE.out]; simp), M1⟩
  · have hv : (decide (1 ≤ (n : Int)) && decide ((n : Int) ≤ 32) && decide ((m : Int) ≤ 32)) = false := by
      rw [Bool.eq_false_iff]
      intro h
      simp only [Bool.and_eq_true, decide_eq_true_eq] at h
      exact h1 ⟨h.1.1, h.1.2, h.2⟩
    have hv' : v = false := by rw [hE.out, hv]; rfl
    subst hv'
    clear hE hv G1 G2 G3
    go_wp2
    all_goals first
      | (go_ret; exact ⟨rfl, hL⟩)
      | (exfalso; omega)
end Go.Proofs.YtkiloaebokkjbaaGreat.Ack

/-
  Contracts of the reference's rows of spans as bytes.
-/
set_option linter.unusedSimpArgs false
set_option linter.unusedVariables false
namespace Go.Proofs.YtkiloaebokkjbaaGreat.Ack
set_option linter.unusedVariables false
set_option maxRecDepth 20000
open Go.ChangeShapes Go.WideShapes Go.ChangeAt Go.RowKit
open Go.Proofs.YtkiloaebokkjbaaGreat.Base Go.Proofs.YtkiloaebokkjbaaGreat.OctPlain Go.Proofs.YtkiloaebokkjbaaGreat.Tab Go.Proofs.YtkiloaebokkjbaaGreat.Oct Go.Proofs.YtkiloaebokkjbaaGreat.SpanPlain Go.Proofs.YtkiloaebokkjbaaGreat.SpanRef
open Go.Proofs.YtkiloaebokkjbaaGreat.AckPlain (K putAck getAck getRow getSp putSp getNum comb Fit)

set_option maxHeartbeats 1000000 in
theorem ref_put_row {base : Nat} {w : World} {v : Value} {xs : List Int} (h : Oct.Own base w v xs) (hB : base ≤ w.heap.size) (hx : xs.length ≤ 100000) (a : Option Addr) (n cap : Nat) (l : List Sp) (hn : l.length = n) (hm : n ≤ 32) (hg : good l = true)
    (hz : ∀ w', Fr (fun k => base ≤ k) w w' → Spans w' a l) :
    Calls Tryz.prog 54 #[v, .slice a n cap] w fun e w' => ∃ v', e = .returned v' ∧ Oct.Own base w' v' (xs ++ AckPlain.putRow l) ∧ Fr (fun k => base ≤ k) w w' := by
  obtain ⟨i0, hi0, hz0, hz1, hz2⟩ := info_parts Oct.info
  have hnI : (n : Int) ≤ 32 := by omega
  go_enter Tryz.func54, Tryz.ntmps54
  go_wp2_with (at_builtin; refine wpl_append_row _ rfl (.tmp 7) (.tmp 11) _ rfl base 5 i0 _ 1 1 Tryz.underlying38 hi0 hz0 hz1 hz2 rfl (by omega) _ _ _ rfl (h.alloc _) (some ⟨w.heap.size, 0, none⟩) 1 1 [.int .u8 n] rfl rfl (Row.lit w _ [.int .u8 n]) (by simp [Value.oneCell']) (by unfold maxLen; omega) (by omega) (by simp; omega) ?_; intro v1 w1 hown1 hg1 hat1; have F1 := Oct.Own.turned h hg1; have O1 : Oct.Own base w1 v1 (xs ++ [(n : Int)]) := Oct.Own.snoc hown1; clear hown1 hg1 hat1)
  go_loopw [0, 5, 6] (fun b lo i wr => ∃ (k : Nat) (low : Int) (ys : List Int), k ≤ n ∧ i = .int .i64 k ∧ lo = .int .u64 low ∧ Oct.Own base wr b ys ∧ ys ++ putSp low (l.drop k) = xs ++ AckPlain.putRow l ∧ ys.length ≤ xs.length + 1 + 16 * k ∧ goodFrom low (l.drop k) = true ∧ 0 ≤ low ∧ Fr (fun k => base ≤ k) w wr) (fun _ _ i _ => n - (intOf i).toNat)
  case atStart => exact ⟨0, 0, xs ++ [(n : Int)], Nat.zero_le _, rfl, rfl, O1, by rw [List.drop_zero, AckPlain.putRow, hn, List.append_assoc]; rfl, by simp, by rw [List.drop_zero]; exact hg, Int.le_refl _, F1⟩
  case round =>
    obtain ⟨k, low, ys, hk, rfl, rfl, hown, hyz, hyl, hgf, hlow, hF⟩ := hrel
    clear O1 F1 h
    by_cases hlt : k < n
    · obtain ⟨s1, s2, s3, s4⟩ := AckPlain.good_step (hn ▸ hlt) hgf
      have hPS := Lib.hid (AckPlain.putSp_step (hn ▸ hlt) low)
      have hYZ := Lib.hid hyz
      obtain ⟨g, off, rfl, hgl, c0, c1⟩ := (hz wr hF).at_ (hn ▸ hlt)
      have K0 : ∀ w', Fr (fun k => base ≤ k) w w' → w'.cell? ⟨g, off + k * 2, none⟩ = some (.int .u64 (l.getD k (0, 0)).1) ∧ w'.cell? ⟨g, off + k * 2 + 1, none⟩ = some (.int .u64 (l.getD k (0, 0)).2) := fun w' hf => by
        obtain ⟨g', off', e, _, d0, d1⟩ := (hz w' hf).at_ (hn ▸ hlt)
        cases e
        exact ⟨d0, d1⟩
      clear hyz hgf
      generalize l.getD k (0, 0) = s at *
      obtain ⟨x, y⟩ := s
      dsimp only at c0 c1 K0 s1 s2 s3 s4 hPS
      have hsz := Nat.le_trans hB hF.size
      have hkI : (k : Int) < (n : Int) := by omega
      have lp1 : (put (x - low)).length ≤ 8 := by have := put_len (x - low); have := size_bd (x - low); omega
      have lp2 : (put (y - x)).length ≤ 8 := by have := put_len (y - x); have := size_bd (y - x); omega
      go_wp2_with (go_at_call 97; refine (ref_put hown hsz (by omega) (x - low) (by omega) (by omega)).mono ?_; rintro e w2 ⟨v2, rfl, O2, F2⟩; have G2 := hF.trans F2 (fun _ _ h => h); obtain ⟨d0, d1⟩ := K0 w2 G2; obtain ⟨d0', d1'⟩ := K0 w2.drew G2.drew; clear c0 c1)
      have ew : IntKind.u64.wrap (y - x) = y - x := by rw [IntKind.wrap_u64]; omega
      have hO2 : (ys ++ put (x - low)).length ≤ 1048576 := by rw [List.length_append]; omega
      have hsz2 := Nat.le_trans hB G2.size
      go_region_with (go_at_call 97; refine (ref_put (w := w2.drew) O2.drew hsz2 hO2 (y - x) (by omega) (by omega)).mono ?_; rintro e w3 ⟨v3, rfl, O3, F3⟩; have G3 := G2.trans (T := fun k => base ≤ k) ⟨F3.os, F3.tape, F3.output, F3.size, F3.block⟩ (fun _ _ h => h); obtain ⟨e0, e1⟩ := K0 w3 G3)
      all_goals go_wp2
      all_goals exact ⟨⟨k + 1, y + 2, _, by omega, by go_num, rfl, O3, by rw [← hYZ.out, hPS.out]; simp only [List.append_assoc], by simp only [List.length_append]; omega, s4, by omega, G3⟩, by simp [intOf]; omega⟩
    · obtain rfl : k = n := by omega
      have hd : l.drop k = [] := List.drop_eq_nil_of_le (by omega)
      rw [hd, AckPlain.putSp, List.append_nil] at hyz
      go_wp2
      go_ret
      exact ⟨_, rfl, hyz ▸ hown, hF⟩
/-- What a reading of a row comes to. -/
def RowPost (w : World) (t : Nat) (R : List Sp × Nat × Int) : Ending → World → Prop := fun e w' => ∃ (a : Option Addr) (c : Nat) (s : Int), e = .returned (.tuple #[.slice a R.1.length c, .int .i64 s, .int .i64 R.2.2]) ∧ (R.2.2 = 0 → s = (t : Int) + (R.2.1 : Int)) ∧
  R.1.length ≤ c ∧ c ≤ maxLen ∧ (a = none → R.1.length = 0 ∧ c = 0) ∧ RowIn (fun k => w.heap.size ≤ k) w' a (flat R.1) ∧ Below w.heap.size w w'
theorem row_bad {w w' : World} {t : Nat} {R : List Sp × Nat × Int} {e s : Int} (h : R = ([], 0, e)) (he : e ≠ 0) (hL : Below w.heap.size w w') : RowPost w t R (.returned (.tuple #[.slice none 0 0, .int .i64 s, .int .i64 e])) w' := by
  subst h
  exact ⟨none, 0, s, rfl, fun h => absurd h he, Nat.le_refl _, Nat.zero_le _, (fun _ => ⟨rfl, rfl⟩), RowIn.nil _ _ _, hL⟩
set_option maxHeartbeats 2000000 in
set_option maxRecDepth 100000 in
theorem ref_get_row (a : Option Addr) (n cap t : Nat) (s least : Int) (l : List Int) (w : World) (hn : l.length = n) (hs : s = t) (ht : t ≤ n) (hl0 : 0 ≤ least) (hl1 : least ≤ 1) (hr : n ≤ 140737488355328) (hb : Bytes l) (hz : Ints .u8 w a l) :
    Calls Tryz.prog 107 #[.slice a n cap, .int .i64 s, .int .i64 least] w (RowPost w t (getRow least (l.drop t))) := by
  subst hs
  have hld : (l.drop t).length = n - t := by rw [List.length_drop, hn]
  cases hd : l.drop t with
  | nil =>
    rw [hd] at hld
    have hle : (n : Int) ≤ (t : Int) := by simp at hld; omega
    go_enter Tryz.func107, Tryz.ntmps107
    go_wp2
    all_goals go_ret3
    all_goals exact row_bad (e := 2) rfl (by decide) (Below.refl _ _)
  | cons x q =>
    rw [hd] at hld
    have hlt : (t : Int) < (n : Int) := by simp at hld; omega
    obtain ⟨g, off, rfl, hgl, hcx⟩ := Oct.Row.at_drop (t := t) (i := 0) hz (by rw [hd]; rfl)
    rw [Nat.add_zero] at hcx
    obtain ⟨x0, x1⟩ := (hd ▸ hb.drop t : Bytes (x :: q)).head
    have hq : q = l.drop (t + 1) := by rw [← List.drop_drop, hd]; rfl
    by_cases hx : x < least ∨ 32 < x
    · have hR : getRow least (x :: q) = ([], 0, 5) := by rw [getRow, if_pos hx]
      clear hd hld hq
      generalize getRow least (x :: q) = R at hR ⊢
      have HR := Lib.hid hR
      clear hR
      go_enter Tryz.func107, Tryz.ntmps107
      go_wp2
      all_goals go_ret3
      all_goals exact row_bad (e := 5) HR.out (by decide) (Below.refl _ _)
    · have hR : getRow least (x :: q) = if (getSp x.toNat 0 q).2.2 ≠ 0 then ([], 0, (getSp x.toNat 0 q).2.2) else ((getSp x.toNat 0 q).1, 1 + (getSp x.toNat 0 q).2.1, 0) := by rw [getRow, if_neg hx]
      obtain ⟨m, hm⟩ : ∃ m : Nat, x = m := ⟨x.toNat, by omega⟩
      subst hm
      rw [Int.toNat_natCast] at hR
      have hm32 : (m : Int) ≤ 32 := by omega
      generalize getRow least ((m : Int) :: q) = R at hR ⊢
      have HR := Lib.hid hR
      clear hR
      have HB : ∀ e, e ≠ 0 → getSp m 0 q = ([], 0, e) → R = ([], 0, e) := fun e he h => by rw [HR.out, h]; exact if_pos he
      have hxl : least ≤ (m : Int) := by omega
      have hbd : ∀ t', Bytes (l.drop t') := fun t' => hb.drop t'
      go_enter Tryz.func107, Tryz.ntmps107
      go_wp2
      go_loopw [1, 10, 11, 12] (fun at_ o lo i wr => ∃ (k t' : Nat) (low : Int) (pre : List Sp), k ≤ m ∧ i = .int .i64 k ∧ at_ = .int .i64 t' ∧ lo = .int .u64 low ∧ Base.Own w.heap.size wr o pre ∧ pre.length = k ∧ t + 1 ≤ t' ∧ t' ≤ n ∧ getSp m 0 q = comb pre (t' - (t + 1)) (getSp (m - k) low (l.drop t')) ∧ 0 ≤ low ∧ low ≤ 4611686018427387905 ∧ Below w.heap.size w wr) (fun _ _ _ i _ => m - (intOf i).toNat)
      case atStart => exact ⟨0, t + 1, 0, [], Nat.zero_le _, rfl, by go_num, rfl, Base.Own.nil _ _, rfl, Nat.le_refl _, by omega, by rw [Nat.sub_self, Nat.sub_zero, AckPlain.comb_start, hq], Int.le_refl _, by decide, Below.refl _ _⟩
      case round =>
        obtain ⟨k, t', low, pre, hk, rfl, rfl, rfl, hown, hpl, ht1, ht2, hg, hlow, hlow2, hL⟩ := hrel
        by_cases hkm : k < m
        · obtain ⟨j, hj⟩ : ∃ j, m - k = j + 1 := ⟨m - k - 1, by omega⟩
          rw [hj] at hg
          have hkI : (k : Int) < (m : Int) := by omega
          have ht2I : (t' : Int) ≤ (n : Int) := by omega
          obtain ⟨⟨x1, k1, e1⟩, n1⟩ : ∃ r, num (l.drop t') = r := ⟨_, rfl⟩
          have C1 := ref_num_at (some ⟨g, off, none⟩) n cap t' t' l wr hn rfl ht2 hr hb (hz.below hL)
          have b1 := num_bd (hbd t')
          have g1 := num_len (l.drop t')
          rw [n1] at C1 b1 g1
          dsimp only at C1 b1 g1
          rw [List.length_drop, hn] at g1
          obtain ⟨b10, b11⟩ := b1
          have hgH := Lib.hid hg
          have hownH := Lib.hid hown
          clear hg hq hd hld
          by_cases c1 : e1 = 0
          · subst c1
            by_cases c2 : 4611686018427387903 < low ∨ 4611686018427387903 - low < x1
            · have hX : R = ([], 0, 5) := HB 5 (by decide) (hgH.out.trans (AckPlain.comb_low _ _ _ (by rw [n1]) (by rw [n1]; exact c2)))
              have HX := Lib.hid hX
              clear hX n1
              by_cases c2' : 4611686018427387903 < low
              · go_wp2_with (go_at_call 125; refine C1.mono ?_; rintro e w' ⟨rfl, rfl⟩)
                all_goals go_ret3
                all_goals exact row_bad (e := 5) HX.out (by decide) hL
              · have c2'' : 4611686018427387903 - low < x1 := by omega
                go_wp2_with (go_at_call 125; refine C1.mono ?_; rintro e w' ⟨rfl, rfl⟩)
                all_goals go_ret3
                all_goals exact row_bad (e := 5) HX.out (by decide) hL
            · obtain ⟨t2, u2⟩ : ∃ t2, t2 = t' + k1 := ⟨_, rfl⟩
              have hdd : (l.drop t').drop k1 = l.drop t2 := by rw [List.drop_drop, u2]
              obtain ⟨⟨y1, k2, e2⟩, n2⟩ : ∃ r, num (l.drop t2) = r := ⟨_, rfl⟩
              have C2 := ref_num_at (some ⟨g, off, none⟩) n cap t2 t2 l wr hn rfl (by omega) hr hb (hz.below hL)
              have b2 := num_bd (hbd t2)
              have g2 := num_len (l.drop t2)
              rw [n2] at C2 b2 g2
              dsimp only at C2 b2 g2
              rw [List.length_drop, hn] at g2
              obtain ⟨b20, b21⟩ := b2
              rw [show (t' : Int) + (k1 : Int) = (t2 : Int) by omega] at C1
              obtain ⟨t3, u3⟩ : ∃ t3, t3 = t2 + k2 := ⟨_, rfl⟩
              rw [show (t2 : Int) + (k2 : Int) = (t3 : Int) by omega] at C2
              have c20 : low ≤ 4611686018427387903 := by omega
              have c21 : x1 ≤ 4611686018427387903 - low := by omega
              by_cases c3 : e2 = 0
              · subst c3
                by_cases c4 : 4611686018427387903 - (low + x1) < y1
                · have hX : R = ([], 0, 5) := HB 5 (by decide) (hgH.out.trans (AckPlain.comb_high _ _ _ (by rw [n1]) (by rw [n1]; exact c2) (by rw [n1]; dsimp only; rw [hdd, n2]) (by rw [n1]; dsimp only; rw [hdd, n2]; exact c4)))
                  have HX := Lib.hid hX
                  clear hX n1 n2 u2 u3 hdd
                  go_wp2_with (first
                    | (go_at_call 125; (with_reducible refine C1.mono ?_); rintro e w' ⟨rfl, rfl⟩; clear C1)
                    | (go_at_call 125; refine C2.mono ?_; rintro e w' ⟨rfl, rfl⟩; clear C2))
                  all_goals go_ret3
                  all_goals exact row_bad (e := 5) HX.out (by decide) hL
                · have c4' : y1 ≤ 4611686018427387903 - (low + x1) := by omega
                  have hG := AckPlain.comb_go pre (t' - (t + 1)) j n1 c2 (hdd ▸ n2) c4
                  rw [← hgH.out, hdd, List.drop_drop, ← u3, show t' - (t + 1) + (k1 + k2) = t3 - (t + 1) by omega, show j = m - (k + 1) by omega] at hG
                  have HG := Lib.hid hG
                  have HF := Lib.hid (show t + 1 ≤ t3 ∧ t3 ≤ n by omega)
                  have hbs := hL.size
                  have hpk : pre.length ≤ 32 := by omega
                  have hpl' := Lib.hid hpl
                  have hkN := Lib.hid hkm
                  clear hG n1 n2 u2 u3 hdd hpl c2 hj hkm g1 g2 ht1 ht2 hk
                  go_wp2_with (first
                    | (go_at_call 125; (with_reducible refine C1.mono ?_); rintro e w' ⟨rfl, rfl⟩; clear C1)
                    | (go_at_call 125; refine C2.mono ?_; rintro e w' ⟨rfl, rfl⟩; clear C2)
                    | (at_builtin; refine wpl_add (W := wr) (x := low + x1) (y := low + x1 + y1) rfl (.tmp 86) (.tmp 92) rfl rfl hownH.out rfl rfl (by omega) hbs ?_; intro v3 w3 A3; have A3h := Lib.hid A3; clear A3))
                  all_goals go_roundw
                  all_goals first
                    | (simp [intOf]; omega)
                    | exact ⟨k + 1, t3, low + x1 + y1 + 2, pre ++ [(low + x1, low + x1 + y1)], hkN.out, by go_num, rfl, rfl, A3h.out.own, by rw [List.length_append, hpl'.out]; rfl, HF.out.1, HF.out.2, HG.out, by omega, by omega, A3h.out.below hL (Nat.le_refl _)⟩
              · have hX : R = ([], 0, e2) := HB e2 c3 (hgH.out.trans ((AckPlain.comb_num2 _ _ _ (by rw [n1]) (by rw [n1]; exact c2) (by rw [n1]; dsimp only; rw [hdd, n2]; exact c3)).trans (by rw [n1]; dsimp only; rw [hdd, n2])))
                have HX := Lib.hid hX
                clear hX n1 n2 u2 u3 hdd
                go_wp2_with (first
                  | (go_at_call 125; (with_reducible refine C1.mono ?_); rintro e w' ⟨rfl, rfl⟩; clear C1)
                  | (go_at_call 125; refine C2.mono ?_; rintro e w' ⟨rfl, rfl⟩; clear C2))
                all_goals go_ret3
                all_goals exact row_bad (e := e2) HX.out c3 hL
          · have hX : R = ([], 0, e1) := HB e1 c1 (hgH.out.trans ((AckPlain.comb_num _ _ _ (by rw [n1]; exact c1)).trans (by rw [n1])))
            have HX := Lib.hid hX
            clear hX n1
            go_wp2_with (go_at_call 125; refine C1.mono ?_; rintro e w' ⟨rfl, rfl⟩)
            all_goals go_ret3
            all_goals exact row_bad (e := e1) HX.out c1 hL
        · obtain rfl : k = m := by omega
          rw [Nat.sub_self, AckPlain.comb_end] at hg
          have hR := HR.out
          rw [hg] at hR
          simp only [ne_eq, not_true_eq_false, if_false] at hR
          have HR2 := Lib.hid hR
          clear hR hg
          go_wp2
          go_ret3
          rw [HR2.out]
          obtain ⟨a', c, rfl, h1, h2, h3, h4⟩ := hown.read
          exact ⟨a', c, _, rfl, fun _ => (by show (t' : Int) = (t : Int) + ((1 + (t' - (t + 1)) : Nat) : Int); omega), h1, h2, h3, h4, hL⟩
end Go.Proofs.YtkiloaebokkjbaaGreat.Ack

/-
  Contracts of the reference's encoding and reading of an acknowledgment.
-/
set_option linter.unusedSimpArgs false
set_option linter.unusedVariables false
namespace Go.Proofs.YtkiloaebokkjbaaGreat.Ack
set_option linter.unusedVariables false
set_option maxRecDepth 20000
open Go.ChangeShapes Go.WideShapes Go.ChangeAt Go.RowKit
open Go.Proofs.YtkiloaebokkjbaaGreat.Base Go.Proofs.YtkiloaebokkjbaaGreat.OctPlain Go.Proofs.YtkiloaebokkjbaaGreat.Tab Go.Proofs.YtkiloaebokkjbaaGreat.Oct Go.Proofs.YtkiloaebokkjbaaGreat.SpanPlain Go.Proofs.YtkiloaebokkjbaaGreat.SpanRef
open Go.Proofs.YtkiloaebokkjbaaGreat.AckPlain (K putAck getAck getRow getSp putSp getNum comb Fit)
open Go.Proofs.YtkiloaebokkjbaaGreat.HeadPlain (wrd wrd_len wrd_bd)

/-- An acknowledgment being written: its block at the first world's end, the bytes so far in a row of the call's own. -/
structure Enc (w0 w : World) (v : Value) (xs : List Int) (x : K) (a : Option Addr) (n c : Nat) (b : Option Addr) (m d : Nat) : Prop where
  blk : Blk w w0.heap.size #[.slice a n c, .slice b m d, .int .u64 x.trigger, .int .u64 x.xor, .bool x.parity] 56
  own : Oct.Own (w0.heap.size + 1) w v xs
  below : Below w0.heap.size w0 w
section
variable {w0 w w' : World} {v v' : Value} {xs ps : List Int} {x : K} {a b : Option Addr} {n c m d : Nat}
theorem Enc.fr (h : Enc w0 w v xs x a n c b m d) (ho : Oct.Own (w0.heap.size + 1) w' v' ps) (hf : Fr (fun k => w0.heap.size + 1 ≤ k) w w') : Enc w0 w' v' ps x a n c b m d :=
  ⟨h.blk.kept hf (by omega), ho, hf.below h.below h.below.size (fun k hk => by omega)⟩
theorem Enc.size (h : Enc w0 w v xs x a n c b m d) : w0.heap.size + 1 ≤ w.heap.size := by have := h.blk.lt; omega
theorem Enc.spans (h : Enc w0 w v xs x a n c b m d) {e : Option Addr} {l : List Sp} (hz : Spans w0 e l) : ∀ w', Fr (fun k => w0.heap.size + 1 ≤ k) w w' → Spans w' e l := fun w' hf => hz.below (hf.below h.below h.below.size (fun k hk => by omega))
end
theorem enc_start (w : World) (x : K) (a : Option Addr) (n c : Nat) (b : Option Addr) (m d : Nat) :
    Enc w ((w.alloc (.cells #[.slice a n c, .slice b m d, .int .u64 x.trigger, .int .u64 x.xor, .bool x.parity] 56)).alloc (.cells #[.int .u8 2] 5)) (.slice (some ⟨w.heap.size + 1, 0, none⟩) 1 1) [2] x a n c b m d := by
  have h := World.ownsRow_lit (base := w.heap.size + 1) (e := 5) (size := 1) (w.alloc (.cells #[.slice a n c, .slice b m d, .int .u64 x.trigger, .int .u64 x.xor, .bool x.parity] 56)) #[.int .u8 2] 1 (by simp) (by decide) rfl
  rw [World.size_alloc] at h
  exact ⟨(Blk.new w _ _).alloc _, h, ((Below.refl _ _).alloc (Nat.le_refl _) _).alloc (by simp) _⟩
theorem put_parts (x : K) : putAck x = [2] ++ AckPlain.putRow x.spans ++ AckPlain.putRow x.marked ++ be 8 x.trigger ++ be 8 x.xor ++ [AckPlain.byteOf x.parity] := by
  unfold putAck AckPlain.q1 AckPlain.q2 AckPlain.q3 AckPlain.q4 AckPlain.q5
  simp
theorem put_row_len (l : List Sp) : (AckPlain.putRow l).length ≤ 1 + 16 * l.length := by
  have := AckPlain.put_sp_len l 0
  unfold AckPlain.putRow
  rw [List.length_cons]
  omega
set_option maxHeartbeats 1000000 in
theorem ref_put_ack_own (x : K) (a b : Option Addr) (n c m d : Nat) (w : World) (hn : x.spans.length = n) (hm : x.marked.length = m) (hx : AckPlain.may x = true) (hf : Fit x) (hs : Spans w a x.spans) (ht : Spans w b x.marked) :
    Calls Tryz.prog 22 #[.agg #[.slice a n c, .slice b m d, .int .u64 x.trigger, .int .u64 x.xor, .bool x.parity]] w fun e w' => ∃ v', e = .returned v' ∧ Oct.Own (w.heap.size + 1) w' v' (putAck x) ∧ Below w.heap.size w w' := by
  obtain ⟨m1, m2, m3, m4, m5, m6⟩ := AckPlain.may_iff.1 hx
  obtain ⟨⟨f1, f2⟩, f3, f4⟩ := hf
  obtain ⟨i0, hi0, hz0, hz1, hz2⟩ := info_parts Oct.info
  have HP := Lib.hid (put_parts x)
  have E0 := enc_start w x a n c b m d
  have l1 := put_row_len x.spans
  have l2 := put_row_len x.marked
  have l3 := be_len 8 x.trigger
  have l4 := be_len 8 x.xor
  have hn32 : n ≤ 32 := by omega
  have hm32 : m ≤ 32 := by omega
  have C1 := fun {W v xs} (E : Enc w W v xs x a n c b m d) h => ref_put_row E.own E.size h a n c x.spans hn hn32 m4 (E.spans hs)
  have C2 := fun {W v xs} (E : Enc w W v xs x a n c b m d) h => ref_put_row E.own E.size h b m d x.marked hm hm32 m5 (E.spans ht)
  obtain ⟨P1, g1⟩ : ∃ P, P = AckPlain.putRow x.spans := ⟨_, rfl⟩
  obtain ⟨P2, g2⟩ : ∃ P, P = AckPlain.putRow x.marked := ⟨_, rfl⟩
  obtain ⟨Q, hQ⟩ : ∃ Q, putAck x = Q := ⟨_, rfl⟩
  rw [← g1] at l1 C1 HP
  rw [← g2] at l2 C2 HP
  rw [hQ] at HP ⊢
  have q1 : P1.length ≤ 600 := by omega
  have q2 : P2.length ≤ 600 := by omega
  clear g1 g2 hQ hx l1 l2 m1 m2 m3 m4 m5 m6 hn hm hn32 hm32
  have p0 : ((w.alloc (.cells #[.slice a n c, .slice b m d, .int .u64 x.trigger, .int .u64 x.xor, .bool x.parity] 56)).alloc (.cells #[.int .u8 2] 5)).cell? ⟨w.heap.size, 0, none⟩ = some (.slice a n c) := E0.blk.cell 0
  go_enter Tryz.func22, Tryz.ntmps22
  go_wp2_with (first
    | (go_at_call 54; (with_reducible refine (C1 E0 (by simp)).mono ?_); rintro e w1 ⟨v1, rfl, O1, F1⟩; have E1 := E0.fr O1 F1; obtain ⟨_, p1, _, _, _⟩ := blk5 E1.blk; clear C1 E0 O1 F1 p0)
    | (go_at_call 54; refine (C2 E1 (by simp; omega)).mono ?_; rintro e w2 ⟨v2, rfl, O2, F2⟩; have E2 := E1.fr O2 F2; obtain ⟨_, _, p2, _, _⟩ := blk5 E2.blk; clear C2 E1 O2 F2 p1)
    | (go_at_call 55; refine (ref_eight E2.own E2.size (by simp; omega) x.trigger f1 f2).mono ?_; rintro e w3 ⟨v3, rfl, O3, F3⟩; have E3 := E2.fr O3 F3; obtain ⟨_, _, _, p3, _⟩ := blk5 E3.blk; clear E2 O3 F3 p2)
    | (go_at_call 55; refine (ref_eight E3.own E3.size (by simp only [List.length_append, List.length_cons, List.length_nil]; omega) x.xor f3 f4).mono ?_; rintro e w4 ⟨v4, rfl, O4, F4⟩; have E4 := E3.fr O4 F4; obtain ⟨_, _, _, _, p4⟩ := blk5 E4.blk; clear E3 O4 F4 p3; cases hpar : x.parity)
    | (at_builtin; refine wpl_append_row _ rfl (.tmp 22) (.tmp 23) _ rfl (w.heap.size + 1) 5 i0 _ 1 1 Tryz.underlying38 hi0 hz0 hz1 hz2 rfl (by omega) _ _ _ rfl (E4.own.alloc _) (some ⟨w4.heap.size, 0, none⟩) 1 1 [.int .u8 1] rfl rfl (Row.lit w4 _ [.int .u8 1]) (by simp [Value.oneCell']) (by unfold maxLen; simp only [List.length_append, List.length_cons, List.length_nil]; omega) (by simp only [List.length_append, List.length_cons, List.length_nil]; omega) (by have := E4.size; simp; omega) ?_; intro v5 w5 hown hg hat; have F5 := Oct.Own.turned E4.own hg; have E5 := E4.fr (Oct.Own.snoc hown) F5; clear hown hg hat F5)
    | (at_builtin; refine wpl_append_row _ rfl (.tmp 25) (.tmp 26) _ rfl (w.heap.size + 1) 5 i0 _ 1 1 Tryz.underlying38 hi0 hz0 hz1 hz2 rfl (by omega) _ _ _ rfl (E4.own.alloc _) (some ⟨w4.heap.size, 0, none⟩) 1 1 [.int .u8 0] rfl rfl (Row.lit w4 _ [.int .u8 0]) (by simp [Value.oneCell']) (by unfold maxLen; simp only [List.length_append, List.length_cons, List.length_nil]; omega) (by simp only [List.length_append, List.length_cons, List.length_nil]; omega) (by have := E4.size; simp; omega) ?_; intro v5 w5 hown hg hat; have F5 := Oct.Own.turned E4.own hg; have E5 := E4.fr (Oct.Own.snoc hown) F5; clear hown hg hat F5))
  all_goals go_ret
  all_goals exact ⟨v5, rfl, by rw [HP.out, hpar]; exact E5.own, E5.below⟩
theorem ref_put_ack (x : K) (a b : Option Addr) (n c m d : Nat) (w : World) (hn : x.spans.length = n) (hm : x.marked.length = m) (hx : AckPlain.may x = true) (hf : Fit x) (hs : Spans w a x.spans) (ht : Spans w b x.marked) :
    Calls Tryz.prog 22 #[.agg #[.slice a n c, .slice b m d, .int .u64 x.trigger, .int .u64 x.xor, .bool x.parity]] w fun e w' => ∃ a' c, e = .returned (.slice a' (putAck x).length c) ∧ (putAck x).length ≤ c ∧ c ≤ maxLen ∧ (a' = none → (putAck x).length = 0 ∧ c = 0) ∧
      RowIn (fun k => w.heap.size ≤ k) w' a' ((putAck x).map (.int .u8)) ∧ Below w.heap.size w w' := by
  refine (ref_put_ack_own x a b n c m d w hn hm hx hf hs ht).mono ?_
  rintro e w' ⟨v, rfl, hO, hL⟩
  obtain ⟨aQ, cQ, rfl, q1, q2, q3, q4⟩ := hO.read
  exact ⟨aQ, cQ, rfl, q1, q2, q3, q4.mono (fun k _ hk => by omega), hL⟩
theorem results_row2 {P : Program} {fn : Func} {p u : Tmp} {ty : TypeId} (h : fn.results = #[.cell p ty, .tmp u]) (tmps : Array Value) (w : World) (g : Nat) (t : TypeId) (cs : Array Value) (d : TypeDesc)
    (hp : tmps.getD p undef = .pointer (some ⟨g, 0, none⟩)) (hg : Blk w g cs t)
    (hu : P.underlying ty = some d) (hd : (match d with | .struct _ | .array _ _ => true | _ => false) = true) (hi : (P.info? ty).map (·.size) = some cs.size) :
    (results fn tmps).run P w = .ok (.tuple #[.agg cs, tmps.getD u undef]) w := by
  rw [results_cell_tmp h, hp]
  simp [asAddr, run_loadVar_row w g t ty cs (0, 0) d hg hu hd hi]
/-- Five cells of a block, one behind the other. -/
def set5 (w : World) (g : Nat) (v0 v1 v2 v3 v4 : Value) : World := ((((w.setCell ⟨g, 0, none⟩ v0).setCell ⟨g, 1, none⟩ v1).setCell ⟨g, 2, none⟩ v2).setCell ⟨g, 3, none⟩ v3).setCell ⟨g, 4, none⟩ v4
theorem set5_blk {w : World} {g : Nat} {T : TypeId} {u0 u1 u2 u3 u4 : Value} (h : Blk w g #[u0, u1, u2, u3, u4] T) (v0 v1 v2 v3 v4 : Value) : Blk (set5 w g v0 v1 v2 v3 v4) g #[v0, v1, v2, v3, v4] T :=
  ((((h.set 0 v0).set 1 v1).set 2 v2).set 3 v3).set 4 v4
theorem set5_fr (w : World) (g : Nat) (v0 v1 v2 v3 v4 : Value) : Fr (fun k => k = g) w (set5 w g v0 v1 v2 v3 v4) := by
  have hp : ∀ (i : Nat), (⟨g, i, none⟩ : Addr).block < w.heap.size → (⟨g, i, none⟩ : Addr).block = g := fun _ _ => rfl
  exact Fr.setCell (S := fun k => k = g) (p := ⟨g, 4, none⟩) (Fr.setCell (S := fun k => k = g) (p := ⟨g, 3, none⟩) (Fr.setCell (S := fun k => k = g) (p := ⟨g, 2, none⟩) (Fr.setCell (S := fun k => k = g) (p := ⟨g, 1, none⟩) (Fr.setCell (S := fun k => k = g) (p := ⟨g, 0, none⟩) (Fr.refl _ _) (hp 0) _) (hp 1) _) (hp 2) _) (hp 3) _) (hp 4) _
/-- What a reading comes to. -/
def AckPost (w : World) (l : List Int) : Ending → World → Prop := fun e w' => ∃ (a : Option Addr) (n c : Nat) (b : Option Addr) (m d : Nat), e = .returned (.tuple #[.agg #[.slice a n c, .slice b m d, .int .u64 (getAck l).1.trigger, .int .u64 (getAck l).1.xor, .bool (getAck l).1.parity], .int .i64 (getAck l).2]) ∧
  ((getAck l).1.spans.length = n ∧ n ≤ c ∧ c ≤ maxLen ∧ (a = none → n = 0 ∧ c = 0) ∧ RowIn (fun k => w.heap.size ≤ k) w' a (flat (getAck l).1.spans)) ∧
  ((getAck l).1.marked.length = m ∧ m ≤ d ∧ d ≤ maxLen ∧ (b = none → m = 0 ∧ d = 0) ∧ RowIn (fun k => w.heap.size ≤ k) w' b (flat (getAck l).1.marked)) ∧ Below w.heap.size w w'
/-- The acknowledgment being read by places: its variable at block dd, the result's at block rr. -/
structure Got (w0 w : World) (dd rr : Nat) (v0 v1 v2 v3 v4 : Value) : Prop where
  blk : Blk w dd #[v0, v1, v2, v3, v4] 56
  res : Blk w rr #[.slice none 0 0, .slice none 0 0, .int .u64 0, .int .u64 0, .bool false] 56
  below : Below w0.heap.size w0 w
  dnew : w0.heap.size ≤ dd ∧ dd ≠ rr
section
variable {w0 w w' : World} {dd rr : Nat} {v0 v1 v2 v3 v4 : Value}
theorem Got.put (h : Got w0 w dd rr v0 v1 v2 v3 v4) (i : Nat) (u : Value) :
    Blk (w.setCell ⟨dd, i, none⟩ u) dd (#[v0, v1, v2, v3, v4].setIfInBounds i u) 56 ∧
    Blk (w.setCell ⟨dd, i, none⟩ u) rr #[.slice none 0 0, .slice none 0 0, .int .u64 0, .int .u64 0, .bool false] 56 ∧ Below w0.heap.size w0 (w.setCell ⟨dd, i, none⟩ u) := by
  have hF : Fr (fun k => k = dd) w (w.setCell ⟨dd, i, none⟩ u) := Fr.setCell (S := fun k => k = dd) (Fr.refl _ _) (p := ⟨dd, i, none⟩) (fun _ => rfl) _
  have hd := h.dnew
  exact ⟨h.blk.set i u, h.res.kept hF (by omega), hF.below h.below h.below.size (by omega)⟩
theorem Got.put0 (h : Got w0 w dd rr v0 v1 v2 v3 v4) (u : Value) : Got w0 (w.setCell ⟨dd, 0, none⟩ u) dd rr u v1 v2 v3 v4 := by
  obtain ⟨p1, p2, p3⟩ := h.put 0 u
  exact ⟨p1, p2, p3, h.dnew⟩
theorem Got.put1 (h : Got w0 w dd rr v0 v1 v2 v3 v4) (u : Value) : Got w0 (w.setCell ⟨dd, 1, none⟩ u) dd rr v0 u v2 v3 v4 := by
  obtain ⟨p1, p2, p3⟩ := h.put 1 u
  exact ⟨p1, p2, p3, h.dnew⟩
theorem Got.put2 (h : Got w0 w dd rr v0 v1 v2 v3 v4) (u : Value) : Got w0 (w.setCell ⟨dd, 2, none⟩ u) dd rr v0 v1 u v3 v4 := by
  obtain ⟨p1, p2, p3⟩ := h.put 2 u
  exact ⟨p1, p2, p3, h.dnew⟩
theorem Got.put3 (h : Got w0 w dd rr v0 v1 v2 v3 v4) (u : Value) : Got w0 (w.setCell ⟨dd, 3, none⟩ u) dd rr v0 v1 v2 u v4 := by
  obtain ⟨p1, p2, p3⟩ := h.put 3 u
  exact ⟨p1, p2, p3, h.dnew⟩
theorem Got.put4 (h : Got w0 w dd rr v0 v1 v2 v3 v4) (u : Value) : Got w0 (w.setCell ⟨dd, 4, none⟩ u) dd rr v0 v1 v2 v3 u := by
  obtain ⟨p1, p2, p3⟩ := h.put 4 u
  exact ⟨p1, p2, p3, h.dnew⟩
theorem Got.under (h : Got w0 w dd rr v0 v1 v2 v3 v4) (hb : Below w.heap.size w w') : Got w0 w' dd rr v0 v1 v2 v3 v4 :=
  ⟨h.blk.below hb h.blk.lt, h.res.below hb h.res.lt, Base.next0 h.below h.below.size hb, h.dnew⟩
theorem Got.frees (h : Got w0 w dd rr v0 v1 v2 v3 v4) : (w.frozen? ⟨dd, 0, none⟩ = false ∧ w.frozen? ⟨dd, 1, none⟩ = false ∧ w.frozen? ⟨dd, 2, none⟩ = false ∧ w.frozen? ⟨dd, 3, none⟩ = false ∧ w.frozen? ⟨dd, 4, none⟩ = false) ∧
    w.frozen? ⟨rr, 0, none⟩ = false ∧ w.frozen? ⟨rr, 1, none⟩ = false ∧ w.frozen? ⟨rr, 2, none⟩ = false ∧ w.frozen? ⟨rr, 3, none⟩ = false ∧ w.frozen? ⟨rr, 4, none⟩ = false :=
  ⟨⟨h.blk.free 0, h.blk.free 1, h.blk.free 2, h.blk.free 3, h.blk.free 4⟩, h.res.free 0, h.res.free 1, h.res.free 2, h.res.free 3, h.res.free 4⟩
end
theorem got_start (w : World) {o1 o2 : Obj} (h1 : o1 = .cells #[.slice none 0 0, .slice none 0 0, .int .u64 0, .int .u64 0, .bool false] 56) (h2 : o2 = .cells #[.slice none 0 0, .slice none 0 0, .int .u64 0, .int .u64 0, .bool false] 56) :
    Got w ((w.alloc o1).alloc o2) (w.heap.size + 1) w.heap.size (.slice none 0 0) (.slice none 0 0) (.int .u64 0) (.int .u64 0) (.bool false) := by
  subst h1 h2
  have B2 := Blk.new (w.alloc (.cells #[.slice none 0 0, .slice none 0 0, .int .u64 0, .int .u64 0, .bool false] 56)) #[.slice none 0 0, .slice none 0 0, .int .u64 0, .int .u64 0, .bool false] 56
  rw [World.size_alloc] at B2
  exact ⟨B2, (Blk.new w _ _).alloc _, ((Below.refl w.heap.size w).alloc (Nat.le_refl _) _).alloc (by simp) _, by omega, by omega⟩
/-- What comes out where there is an error. -/
theorem got_none {w w' : World} {e : Int} {l : List Int} (h : getAck l = (AckPlain.zero, e)) (hL : Below w.heap.size w w') : AckPost w l (.returned (.tuple #[.agg #[.slice none 0 0, .slice none 0 0, .int .u64 0, .int .u64 0, .bool false], .int .i64 e])) w' := by
  unfold AckPost
  rw [h]
  exact ⟨none, 0, 0, none, 0, 0, rfl, ⟨rfl, Nat.le_refl _, Nat.zero_le _, (fun _ => ⟨rfl, rfl⟩), RowIn.nil _ _ _⟩, ⟨rfl, Nat.le_refl _, Nat.zero_le _, (fun _ => ⟨rfl, rfl⟩), RowIn.nil _ _ _⟩, hL⟩
theorem got_bad {w w' : World} {e : Int} {l : List Int} (h : getAck l = (AckPlain.zero, e)) (hL : Below w.heap.size w w') :
    AckPost w l (.returned (.tuple #[.agg #[.slice none 0 0, .slice none 0 0, .int .u64 0, .int .u64 0, .bool false], .int .i64 e])) (set5 w' w.heap.size (.slice none 0 0) (.slice none 0 0) (.int .u64 0) (.int .u64 0) (.bool false)) :=
  got_none h ((set5_fr _ _ _ _ _ _ _).below hL hL.size (by rintro k rfl; exact Nat.le_refl _))
theorem ref_ack_nil (a : Option Addr) (cap : Nat) (w : World) : Calls Tryz.prog 82 #[.slice a 0 cap] w (AckPost w []) := by
  have HD : getAck [] = (AckPlain.zero, 2) := rfl
  go_enter Tryz.func82, Tryz.ntmps82
  go_wp2
  all_goals refine bodyPost_ret (results_row2 rfl _ _ w.heap.size 56 #[.slice none 0 0, .slice none 0 0, .int .u64 0, .int .u64 0, .bool false] _ rfl (Blk.new w _ _) Tryz.underlying56 rfl (by kernel_rfl)) rfl ?_
  all_goals exact got_none HD ((Below.refl _ _).alloc (Nat.le_refl _) _)
theorem ref_ack_kind (a : Option Addr) (n cap : Nat) (l : List Int) (w : World) (x : Int) (q : List Int) (hl : l = x :: q) (hx : ¬ x = 2) (hn : l.length = n) (hc : n ≤ cap) (hr : n ≤ 140737488355328) (hz : Ints .u8 w a l) :
    Calls Tryz.prog 82 #[.slice a n cap] w (AckPost w l) := by
  have HD : getAck l = (AckPlain.zero, 4) := by rw [hl, getAck, if_pos hx]
  have hn1 : 1 ≤ n := by rw [← hn, hl]; simp only [List.length_cons]; omega
  obtain ⟨g, go, rfl, hgl, cx⟩ := hz 0 (.int .u8 x) (by rw [hl]; rfl)
  have cx' : w.cell? ⟨g, go, none⟩ = some (.int .u8 x) := cx
  clear hl cx
  go_enter Tryz.func82, Tryz.ntmps82
  go_wp2
  all_goals refine bodyPost_ret (results_row2 rfl _ _ w.heap.size 56 #[.slice none 0 0, .slice none 0 0, .int .u64 0, .int .u64 0, .bool false] _ rfl (Blk.new w _ _) Tryz.underlying56 rfl (by kernel_rfl)) rfl ?_
  all_goals exact got_none HD ((Below.refl _ _).alloc (Nat.le_refl _) _)
end Go.Proofs.YtkiloaebokkjbaaGreat.Ack

/-
  The contract of the reference's reading of an acknowledgment.
-/
set_option linter.unusedSimpArgs false
set_option linter.unusedVariables false
namespace Go.Proofs.YtkiloaebokkjbaaGreat.Ack
set_option linter.unusedVariables false
set_option maxRecDepth 20000
open Go.ChangeShapes Go.WideShapes Go.ChangeAt Go.RowKit
open Go.Proofs.YtkiloaebokkjbaaGreat.Base Go.Proofs.YtkiloaebokkjbaaGreat.OctPlain Go.Proofs.YtkiloaebokkjbaaGreat.Tab Go.Proofs.YtkiloaebokkjbaaGreat.Oct Go.Proofs.YtkiloaebokkjbaaGreat.SpanPlain Go.Proofs.YtkiloaebokkjbaaGreat.SpanRef
open Go.Proofs.YtkiloaebokkjbaaGreat.AckPlain (K putAck getAck getRow getSp putSp getNum comb Fit)
open Go.Proofs.YtkiloaebokkjbaaGreat.HeadPlain (wrd wrd_len wrd_bd)

theorem ref_wrd (a : Option Addr) (len cap t : Nat) (s : Int) (l : List Int) (w : World) (hl : l.length = len) (hs : s = t) (ht : t ≤ len) (hm : len ≤ 140737488355328) (hb : Bytes l) (hI : Ints .u8 w a l) :
    Calls Tryz.prog 108 #[.slice a len cap, .int .i64 s] w fun e w' => e = .returned (.tuple #[.int .u64 (wrd (l.drop t)).1, .int .i64 ((t : Int) + ((wrd (l.drop t)).2.1 : Int)), .int .i64 (wrd (l.drop t)).2.2]) ∧ w = w' := by
  have hd : (l.drop t).length = len - t := by rw [List.length_drop, hl]
  by_cases h8 : len < t + 8
  · have e : wrd (l.drop t) = (0, 0, 2) := if_pos (by omega)
    rw [e]
    have := ref_word_short a len cap t s w hs ht hm h8
    simpa using this
  · have e : wrd (l.drop t) = (val ((l.drop t).take 8), 8, 0) := if_neg (by omega)
    rw [e]
    exact ref_word_at a len cap t s l w hl hs (by omega) hm hb hI
theorem rowIn_under {S : Nat → Prop} {w w' : World} {a : Option Addr} {xs : List Value} (h : RowIn S w a xs) (hb : Below w.heap.size w w') : RowIn S w' a xs := fun j u hj => by
  obtain ⟨b, off, e, hs, hlt, hc⟩ := h j u hj
  exact ⟨b, off, e, hs, Nat.lt_of_lt_of_le hlt hb.size, by rw [hb.cell (p := ⟨b, off + j, none⟩) hlt]; exact hc⟩
theorem rowIn_put {B dd i : Nat} {w : World} {a : Option Addr} {xs : List Value} (h : RowIn (fun k => B ≤ k) w a xs) (hd : dd < B) (u : Value) : RowIn (fun k => B ≤ k) (w.setCell ⟨dd, i, none⟩ u) a xs :=
  h.kept (T := fun k => k = dd) (Fr.setCell (S := fun k => k = dd) (Fr.refl _ _) (p := ⟨dd, i, none⟩) (fun _ => rfl) _) (fun k hk e => by omega)
set_option maxHeartbeats 4000000 in
set_option maxRecDepth 100000 in
theorem ref_ack_full (a : Option Addr) (n cap : Nat) (l : List Int) (w : World) (q : List Int) (hl : l = 2 :: q) (hn : l.length = n) (hc : n ≤ cap) (hr : n ≤ 140737488355328) (hb : Bytes l) (hz : Ints .u8 w a l) :
    Calls Tryz.prog 82 #[.slice a n cap] w (AckPost w l) := by
  obtain ⟨⟨sp, k1, e1⟩, a1⟩ : ∃ r, getRow 1 (l.drop 1) = r := ⟨_, rfl⟩
  obtain ⟨t1, u1⟩ : ∃ t, t = 1 + k1 := ⟨_, rfl⟩
  obtain ⟨⟨mk, k2, e2⟩, a2⟩ : ∃ r, getRow 0 (l.drop t1) = r := ⟨_, rfl⟩
  obtain ⟨t2, u2⟩ : ∃ t, t = t1 + k2 := ⟨_, rfl⟩
  obtain ⟨⟨trig, k3, e3⟩, a3⟩ : ∃ r, wrd (l.drop t2) = r := ⟨_, rfl⟩
  obtain ⟨t3, u3⟩ : ∃ t, t = t2 + k3 := ⟨_, rfl⟩
  obtain ⟨⟨xr, k4, e4⟩, a4⟩ : ∃ r, wrd (l.drop t3) = r := ⟨_, rfl⟩
  obtain ⟨t4, u4⟩ : ∃ t, t = t3 + k4 := ⟨_, rfl⟩
  have HD := Lib.hid (AckPlain.ack_at hl a1 u1 a2 u2 a3 u3 a4 u4)
  have h1n : 1 ≤ n := by rw [← hn, hl]; simp only [List.length_cons]; omega
  have m1 : t1 ≤ n := by have := AckPlain.getRow_len 1 (l.drop 1); rw [a1, List.length_drop, hn] at this; dsimp only at this; omega
  have m2 : t2 ≤ n := by have := AckPlain.getRow_len 0 (l.drop t1); rw [a2, List.length_drop, hn] at this; dsimp only at this; omega
  have m3 : t3 ≤ n := by have := wrd_len (l.drop t2); rw [a3, List.length_drop, hn] at this; dsimp only at this; omega
  have m4 : t4 ≤ n := by have := wrd_len (l.drop t3); rw [a4, List.length_drop, hn] at this; dsimp only at this; omega
  have C1 := fun W hI => ref_get_row a n cap 1 1 1 l W hn rfl h1n (by decide) (by decide) hr hb hI
  have C2 := fun W hI => ref_get_row a n cap t1 t1 0 l W hn rfl m1 (by decide) (by decide) hr hb hI
  have C3 := fun W hI => ref_wrd a n cap t2 t2 l W hn rfl m2 hr hb hI
  have C4 := fun W hI => ref_wrd a n cap t3 t3 l W hn rfl m3 hr hb hI
  have hmk32 : mk.length ≤ 140737488355328 ∨ e2 ≠ 0 := by
    by_cases h : e2 = 0
    · subst h
      have := (AckPlain.getRow_one (hb.drop t1) a2).2.2.1
      omega
    · exact Or.inr h
  have hsp32 : sp.length ≤ 140737488355328 ∨ e1 ≠ 0 := by
    by_cases h : e1 = 0
    · subst h
      have := (AckPlain.getRow_one (hb.drop 1) a1).2.2.1
      omega
    · exact Or.inr h
  rw [a1] at C1
  rw [a2] at C2
  rw [a3] at C3
  rw [a4] at C4
  unfold RowPost at C1 C2
  dsimp only at C1 C2 C3 C4
  rw [show (t2 : Int) + (k3 : Int) = (t3 : Int) by omega] at C3
  rw [show (t3 : Int) + (k4 : Int) = (t4 : Int) by omega] at C4
  have hs1 : ∀ s : Int, s = ((1 : Nat) : Int) + (k1 : Int) → s = (t1 : Int) := fun s h => by omega
  have hs2 : ∀ s : Int, s = (t1 : Int) + (k2 : Int) → s = (t2 : Int) := fun s h => by omega
  obtain ⟨Z, hZ⟩ : ∃ Z, l.drop t4 = Z := ⟨_, rfl⟩
  have hZl : (Z.length : Int) = (n : Int) - (t4 : Int) := by rw [← hZ, List.length_drop, hn]; omega
  have hZb : Bytes Z := by rw [← hZ]; exact hb.drop t4
  rw [hZ] at HD
  obtain ⟨g, go, rfl, hgl, cx0⟩ := hz 0 (.int .u8 2) (by rw [hl]; rfl)
  have cx : w.cell? ⟨g, go, none⟩ = some (.int .u8 2) := cx0
  clear cx0
  have cz : ∀ z r, Z = z :: r → w.cell? ⟨g, go + t4, none⟩ = some (.int .u8 z) := fun z r h => by
    obtain ⟨g', go', e, _, hc⟩ := Oct.Row.at_drop (t := t4) (i := 0) (y := z) hz (by rw [hZ, h]; rfl)
    cases e
    exact hc
  have hnI : (1 : Int) ≤ (n : Int) := by omega
  clear hl u1 u2 u3 u4 hZ a1 a2 a3 a4 hn
  go_enter Tryz.func82, Tryz.ntmps82
  go_upto_region 7 with fail
  have G0 := got_start w (o1 := .cells #[.slice none 0 0, .slice none 0 0, .int .u64 0, .int .u64 0, .bool false] 56) (o2 := .cells #[.slice none 0 0, .slice none 0 0, .int .u64 0, .int .u64 0, .bool false] 56) rfl rfl
  generalize (w.alloc (.cells #[.slice none 0 0, .slice none 0 0, .int .u64 0, .int .u64 0, .bool false] 56)).alloc (.cells #[.slice none 0 0, .slice none 0 0, .int .u64 0, .int .u64 0, .bool false] 56) = W at G0 ⊢
  have hW0 : w.heap.size + 2 ≤ W.heap.size := by have := G0.blk.lt; omega
  clear cx
  by_cases d0 : e1 = 0
  rotate_left
  · go_wp2_with (go_at_call 107; refine (C1 W (hz.below G0.below)).mono ?_; rintro e w1 ⟨x1, y1, s1, rfl, hs, i1, i2, i3, R1, L1⟩; have hsH := Lib.hid hs; clear hs; have Gx := G0.under L1; obtain ⟨c0, c1, c2, c3, c4⟩ := blk5 Gx.blk; obtain ⟨r0, r1, r2, r3, r4⟩ := blk5 Gx.res; obtain ⟨⟨g0, g1, g2, g3, g4⟩, q0, q1, q2, q3, q4⟩ := Gx.frees; have R1s := R1.mono (T := fun k => w.heap.size + 2 ≤ k) (fun k _ hk => by omega); clear C1 R1)
    refine bodyPost_ret (results_row2 rfl _ _ w.heap.size 56 #[.slice none 0 0, .slice none 0 0, .int .u64 0, .int .u64 0, .bool false] _ rfl (set5_blk (Gx.put0 _).res _ _ _ _ _) Tryz.underlying56 rfl (by kernel_rfl)) rfl ?_
    exact got_bad (HD.out.trans (if_pos d0)) (Gx.put0 _).below
  subst e1
  have HD := Lib.hid (HD.out.trans (if_neg (by simp)))
  go_upto_region 8 with (go_at_call 107; refine (C1 W (hz.below G0.below)).mono ?_; rintro e w1 ⟨x1, y1, s1, rfl, hs, i1, i2, i3, R1, L1⟩; have hsH := Lib.hid hs; clear hs; have Gx := G0.under L1; obtain ⟨c0, c1, c2, c3, c4⟩ := blk5 Gx.blk; obtain ⟨r0, r1, r2, r3, r4⟩ := blk5 Gx.res; obtain ⟨⟨g0, g1, g2, g3, g4⟩, q0, q1, q2, q3, q4⟩ := Gx.frees; have R1s := R1.mono (T := fun k => w.heap.size + 2 ≤ k) (fun k _ hk => by omega); clear C1 R1)
  obtain rfl : s1 = (t1 : Int) := hs1 _ (hsH.out (by trivial))
  have G1 := Gx.put0 (.slice x1 sp.length y1)
  have Q0 := rowIn_put (i := 0) R1s (show w.heap.size + 1 < w.heap.size + 2 by omega) (.slice x1 sp.length y1)
  have l1 := i1
  have l2 := i2
  have l3 := i3
  generalize w1.setCell ⟨w.heap.size + 1, 0, none⟩ (.slice x1 sp.length y1) = W1 at G1 Q0 ⊢
  have hW1 : w.heap.size + 2 ≤ W1.heap.size := by have := G1.blk.lt; omega
  clear Gx R1s L1 c0 c1 c2 c3 c4 g0 g1 g2 g3 g4 r0 r1 r2 r3 r4 q0 q1 q2 q3 q4 i1 i2 i3 hsH G0
  obtain ⟨c0, c1, c2, c3, c4⟩ := blk5 G1.blk
  obtain ⟨r0, r1, r2, r3, r4⟩ := blk5 G1.res
  obtain ⟨⟨g0, g1, g2, g3, g4⟩, q0, q1, q2, q3, q4⟩ := G1.frees
  go_upto_region 10 with fail
  by_cases d1 : e2 = 0
  rotate_left
  · go_wp2_with (go_at_call 107; refine (C2 W1 (hz.below G1.below)).mono ?_; rintro e w2 ⟨x2, y2, s2, rfl, hs, i1, i2, i3, R2, L2⟩; have hsH := Lib.hid hs; clear hs; have Gx := G1.under L2; obtain ⟨c0, c1, c2, c3, c4⟩ := blk5 Gx.blk; obtain ⟨r0, r1, r2, r3, r4⟩ := blk5 Gx.res; obtain ⟨⟨g0, g1, g2, g3, g4⟩, q0, q1, q2, q3, q4⟩ := Gx.frees; have R2s := R2.mono (T := fun k => w.heap.size + 2 ≤ k) (fun k _ hk => by omega); clear C2 R2)
    refine bodyPost_ret (results_row2 rfl _ _ w.heap.size 56 #[.slice none 0 0, .slice none 0 0, .int .u64 0, .int .u64 0, .bool false] _ rfl (set5_blk (Gx.put1 _).res _ _ _ _ _) Tryz.underlying56 rfl (by kernel_rfl)) rfl ?_
    exact got_bad (HD.out.trans (if_pos d1)) (Gx.put1 _).below
  subst e2
  have HD := Lib.hid (HD.out.trans (if_neg (by simp)))
  go_upto_region 11 with (go_at_call 107; refine (C2 W1 (hz.below G1.below)).mono ?_; rintro e w2 ⟨x2, y2, s2, rfl, hs, i1, i2, i3, R2, L2⟩; have hsH := Lib.hid hs; clear hs; have Gx := G1.under L2; obtain ⟨c0, c1, c2, c3, c4⟩ := blk5 Gx.blk; obtain ⟨r0, r1, r2, r3, r4⟩ := blk5 Gx.res; obtain ⟨⟨g0, g1, g2, g3, g4⟩, q0, q1, q2, q3, q4⟩ := Gx.frees; have R2s := R2.mono (T := fun k => w.heap.size + 2 ≤ k) (fun k _ hk => by omega); clear C2 R2)
  obtain rfl : s2 = (t2 : Int) := hs2 _ (hsH.out (by trivial))
  have G2 := Gx.put1 (.slice x2 mk.length y2)
  have Q1 := rowIn_put (i := 1) R2s (show w.heap.size + 1 < w.heap.size + 2 by omega) (.slice x2 mk.length y2)
  have Q0 := rowIn_put (i := 1) (rowIn_under Q0 L2) (show w.heap.size + 1 < w.heap.size + 2 by omega) (.slice x2 mk.length y2)
  have o1 := i1
  have o2 := i2
  have o3 := i3
  generalize w2.setCell ⟨w.heap.size + 1, 1, none⟩ (.slice x2 mk.length y2) = W2 at G2 Q0 Q1 ⊢
  clear Gx R2s L2 c0 c1 c2 c3 c4 g0 g1 g2 g3 g4 r0 r1 r2 r3 r4 q0 q1 q2 q3 q4 i1 i2 i3 hsH G1
  obtain ⟨c0, c1, c2, c3, c4⟩ := blk5 G2.blk
  obtain ⟨r0, r1, r2, r3, r4⟩ := blk5 G2.res
  obtain ⟨⟨g0, g1, g2, g3, g4⟩, q0, q1, q2, q3, q4⟩ := G2.frees
  go_upto_region 13 with fail
  by_cases d2 : e3 = 0
  rotate_left
  · go_wp2_with (go_at_call 108; (with_reducible refine (C3 W2 (hz.below G2.below)).mono ?_); rintro e w' ⟨rfl, rfl⟩)
    refine bodyPost_ret (results_row2 rfl _ _ w.heap.size 56 #[.slice none 0 0, .slice none 0 0, .int .u64 0, .int .u64 0, .bool false] _ rfl (set5_blk (G2.put2 _).res _ _ _ _ _) Tryz.underlying56 rfl (by kernel_rfl)) rfl ?_
    exact got_bad (HD.out.trans (if_pos d2)) (G2.put2 _).below
  subst e3
  have HD := Lib.hid (HD.out.trans (if_neg (by simp)))
  go_upto_region 14 with (go_at_call 108; (with_reducible refine (C3 W2 (hz.below G2.below)).mono ?_); rintro e w' ⟨rfl, rfl⟩)
  have G3 := G2.put2 (.int .u64 trig)
  have Q0 := rowIn_put (i := 2) Q0 (show w.heap.size + 1 < w.heap.size + 2 by omega) (.int .u64 trig)
  have Q1 := rowIn_put (i := 2) Q1 (show w.heap.size + 1 < w.heap.size + 2 by omega) (.int .u64 trig)
  generalize W2.setCell ⟨w.heap.size + 1, 2, none⟩ (.int .u64 trig) = W3 at G3 Q0 Q1 ⊢
  clear C3 c0 c1 c2 c3 c4 g0 g1 g2 g3 g4 r0 r1 r2 r3 r4 q0 q1 q2 q3 q4 G2
  obtain ⟨c0, c1, c2, c3, c4⟩ := blk5 G3.blk
  obtain ⟨r0, r1, r2, r3, r4⟩ := blk5 G3.res
  obtain ⟨⟨g0, g1, g2, g3, g4⟩, q0, q1, q2, q3, q4⟩ := G3.frees
  go_upto_region 16 with fail
  by_cases d3 : e4 = 0
  rotate_left
  · go_wp2_with (go_at_call 108; (with_reducible refine (C4 W3 (hz.below G3.below)).mono ?_); rintro e w' ⟨rfl, rfl⟩)
    refine bodyPost_ret (results_row2 rfl _ _ w.heap.size 56 #[.slice none 0 0, .slice none 0 0, .int .u64 0, .int .u64 0, .bool false] _ rfl (set5_blk (G3.put3 _).res _ _ _ _ _) Tryz.underlying56 rfl (by kernel_rfl)) rfl ?_
    exact got_bad (HD.out.trans (if_pos d3)) (G3.put3 _).below
  subst e4
  have HD := Lib.hid (HD.out.trans (if_neg (by simp)))
  go_upto_region 17 with (go_at_call 108; (with_reducible refine (C4 W3 (hz.below G3.below)).mono ?_); rintro e w' ⟨rfl, rfl⟩)
  have G4 := G3.put3 (.int .u64 xr)
  have Q0 := rowIn_put (i := 3) Q0 (show w.heap.size + 1 < w.heap.size + 2 by omega) (.int .u64 xr)
  have Q1 := rowIn_put (i := 3) Q1 (show w.heap.size + 1 < w.heap.size + 2 by omega) (.int .u64 xr)
  generalize W3.setCell ⟨w.heap.size + 1, 3, none⟩ (.int .u64 xr) = W4 at G4 Q0 Q1 ⊢
  clear C4 c0 c1 c2 c3 c4 g0 g1 g2 g3 g4 r0 r1 r2 r3 r4 q0 q1 q2 q3 q4 G3
  obtain ⟨c0, c1, c2, c3, c4⟩ := blk5 G4.blk
  obtain ⟨r0, r1, r2, r3, r4⟩ := blk5 G4.res
  obtain ⟨⟨g0, g1, g2, g3, g4⟩, q0, q1, q2, q3, q4⟩ := G4.frees
  go_upto_region 19 with fail
  cases Z with
  | nil =>
    have hle : (n : Int) ≤ (t4 : Int) := by simp at hZl; omega
    go_wp2
    refine bodyPost_ret (results_row2 rfl _ _ w.heap.size 56 #[.slice none 0 0, .slice none 0 0, .int .u64 0, .int .u64 0, .bool false] _ rfl (set5_blk G4.res _ _ _ _ _) Tryz.underlying56 rfl (by kernel_rfl)) rfl ?_
    exact got_bad (HD.out) G4.below
  | cons z r =>
    have hlt : (t4 : Int) < (n : Int) := by simp at hZl; omega
    have hcz : W4.cell? ⟨g, go + t4, none⟩ = some (.int .u8 z) := (G4.below.cell (p := ⟨g, go + t4, none⟩) hgl).trans (cz z r rfl)
    have hrl : (r.length : Int) = (n : Int) - (t4 : Int) - 1 := by simp at hZl; omega
    obtain ⟨z0, z1⟩ := hZb.head
    have hgd : ¬ g = w.heap.size + 1 := by omega
    have hgr : ¬ g = w.heap.size := by omega
    by_cases f1 : 1 < z
    · have HX := Lib.hid (HD.out.trans (if_pos f1))
      go_wp2
      refine bodyPost_ret (results_row2 rfl _ _ w.heap.size 56 #[.slice none 0 0, .slice none 0 0, .int .u64 0, .int .u64 0, .bool false] _ rfl (set5_blk G4.res _ _ _ _ _) Tryz.underlying56 rfl (by kernel_rfl)) rfl ?_
      exact got_bad (HX.out) G4.below
    · have HD := Lib.hid (HD.out.trans (if_neg f1))
      have f1' : z ≤ 1 := by omega
      have G5 := G4.put4 (.bool (decide (z = 1)))
      by_cases f2 : r = []
      · subst f2
        have hn4 : (n : Int) = (t4 : Int) + 1 := by simp at hrl; omega
        have HD := Lib.hid (HD.out.trans (if_neg (by simp)))
        have CI := fun W h1 h2 => SpanRef.ref_inside x2 x1 mk.length sp.length y2 y1 mk sp W rfl rfl (by omega) (by omega) h1 h2
        have Q0 := rowIn_put (i := 4) Q0 (show w.heap.size + 1 < w.heap.size + 2 by omega) (.bool (decide (z = 1)))
        have Q1 := rowIn_put (i := 4) Q1 (show w.heap.size + 1 < w.heap.size + 2 by omega) (.bool (decide (z = 1)))
        obtain ⟨ins, hins⟩ : ∃ v, inside mk sp = v := ⟨_, rfl⟩
        rw [hins] at HD CI
        clear hins
        go_upto_region 26 with fail
        generalize W4.setCell ⟨w.heap.size + 1, 4, none⟩ (.bool (decide (z = 1))) = W5 at G5 Q0 Q1 ⊢
        clear c0 c1 c2 c3 c4 g0 g1 g2 g3 g4 r0 r1 r2 r3 r4 q0 q1 q2 q3 q4 G4 hcz
        obtain ⟨c0, c1, c2, c3, c4⟩ := blk5 G5.blk
        obtain ⟨r0, r1, r2, r3, r4⟩ := blk5 G5.res
        obtain ⟨⟨g0, g1, g2, g3, g4⟩, q0, q1, q2, q3, q4⟩ := G5.frees
        have hW5 : w.heap.size + 2 ≤ W5.heap.size := by have := G5.blk.lt; omega
        cases ins
        · go_wp2_with (go_at_call 99; refine (CI W5 Q1.row Q0.row).mono ?_; rintro e w6 ⟨rfl, L6⟩; have G6 := G5.under L6; clear CI c0 c1 c2 c3 c4 g0 g1 g2 g3 g4 r0 r1 r2 r3 r4 q0 q1 q2 q3 q4; obtain ⟨c0, c1, c2, c3, c4⟩ := blk5 G6.blk; obtain ⟨r0, r1, r2, r3, r4⟩ := blk5 G6.res; obtain ⟨⟨g0, g1, g2, g3, g4⟩, q0, q1, q2, q3, q4⟩ := G6.frees)
          refine bodyPost_ret (results_row2 rfl _ _ w.heap.size 56 #[.slice none 0 0, .slice none 0 0, .int .u64 0, .int .u64 0, .bool false] _ rfl (set5_blk G6.res _ _ _ _ _) Tryz.underlying56 rfl (by kernel_rfl)) rfl ?_
          exact got_bad (HD.out.trans (if_neg (by simp))) G6.below
        · go_wp2_with (go_at_call 99; refine (CI W5 Q1.row Q0.row).mono ?_; rintro e w6 ⟨rfl, L6⟩; have G6 := G5.under L6; clear CI c0 c1 c2 c3 c4 g0 g1 g2 g3 g4 r0 r1 r2 r3 r4 q0 q1 q2 q3 q4; obtain ⟨c0, c1, c2, c3, c4⟩ := blk5 G6.blk; obtain ⟨r0, r1, r2, r3, r4⟩ := blk5 G6.res; obtain ⟨⟨g0, g1, g2, g3, g4⟩, q0, q1, q2, q3, q4⟩ := G6.frees)
          refine bodyPost_ret (results_row2 rfl _ _ w.heap.size 56 #[.slice x1 sp.length y1, .slice x2 mk.length y2, .int .u64 trig, .int .u64 xr, .bool (decide (z = 1))] _ rfl (set5_blk G6.res _ _ _ _ _) Tryz.underlying56 rfl (by kernel_rfl)) rfl ?_
          have F := set5_fr w6 w.heap.size (.slice x1 sp.length y1) (.slice x2 mk.length y2) (.int .u64 trig) (.int .u64 xr) (.bool (decide (z = 1)))
          unfold AckPost
          rw [HD.out.trans (if_pos (by trivial))]
          exact ⟨x1, sp.length, y1, x2, mk.length, y2, rfl, ⟨rfl, l1, l2, l3, ((rowIn_under Q0 L6).kept F (fun k hk e => by omega)).mono (fun k _ hk => by omega)⟩, ⟨rfl, o1, o2, o3, ((rowIn_under Q1 L6).kept F (fun k hk e => by omega)).mono (fun k _ hk => by omega)⟩, F.below G6.below G6.below.size (by rintro k rfl; exact Nat.le_refl _)⟩
      · have hn4 : (t4 : Int) + 1 < (n : Int) := by
          have : 0 < r.length := List.length_pos_iff.2 f2
          omega
        have HX := Lib.hid (HD.out.trans (if_pos f2))
        clear hrl hZl
        go_wp2
        refine bodyPost_ret (results_row2 rfl _ _ w.heap.size 56 #[.slice none 0 0, .slice none 0 0, .int .u64 0, .int .u64 0, .bool false] _ rfl (set5_blk G5.res _ _ _ _ _) Tryz.underlying56 rfl (by kernel_rfl)) rfl ?_
        exact got_bad (HX.out) G5.below
theorem ref_get_ack (a : Option Addr) (n cap : Nat) (l : List Int) (w : World) (hn : l.length = n) (hc : n ≤ cap) (hr : n ≤ 140737488355328) (hb : Bytes l) (hz : Ints .u8 w a l) :
    Calls Tryz.prog 82 #[.slice a n cap] w (AckPost w l) := by
  match l, hn, hb, hz with
  | [], hn, hb, hz =>
    obtain rfl : n = 0 := hn.symm
    exact ref_ack_nil a cap w
  | x :: q, hn, hb, hz =>
    by_cases hx : x = 2
    · subst hx
      exact ref_ack_full a n cap _ w q rfl hn hc hr hb hz
    · exact ref_ack_kind a n cap _ w x q rfl hx hn hc hr hz
end Go.Proofs.YtkiloaebokkjbaaGreat.Ack

/-
  Contracts of ack's small functions: the reading of a byte, a kind, a flag, a number, a span; the writing of a number, a flag.
-/
set_option linter.unusedSimpArgs false
set_option linter.unusedVariables false
namespace Go.Proofs.YtkiloaebokkjbaaGreat.Ack
set_option linter.unusedVariables false
set_option maxRecDepth 20000
open Go.ChangeShapes Go.WideShapes Go.ChangeAt Go.RowKit
open Go.Proofs.YtkiloaebokkjbaaGreat.Base Go.Proofs.YtkiloaebokkjbaaGreat.OctPlain Go.Proofs.YtkiloaebokkjbaaGreat.Tab Go.Proofs.YtkiloaebokkjbaaGreat.Oct Go.Proofs.YtkiloaebokkjbaaGreat.SpanPlain
open Go.Proofs.YtkiloaebokkjbaaGreat.AckPlain (K putAck getAck getRow getSp putSp getNum comb Fit)

/-- The first byte, the error of reading it. -/
def byteV : List Int → Int | [] => 0 | x :: _ => x
def byteE : List Int → Int | [] => 2 | _ :: _ => 0
theorem byte_any {S : Nat → Prop} {w : World} {b : Nat} {l : List Int} (h : Rd S w b l) (hr : l.length ≤ 140737488355328) :
    Calls Tryz.prog 126 #[.pointer (some ⟨b, 0, none⟩)] w fun e w' => e = .returned (.tuple #[.int .u8 (byteV l), .int .i64 (byteE l)]) ∧ Rd S w' b (l.drop 1) ∧ Fr (fun k => k = b) w w' := by
  cases l with
  | nil =>
    have hc := take_short h 1 (by simp)
    go_enter Tryz.func126, Tryz.ntmps126
    go_wp2_with (go_at_call 129; refine hc.mono ?_; rintro e w1 ⟨rfl, rfl⟩)
    all_goals go_ret2
    all_goals exact ⟨rfl, h, Fr.refl _ _⟩
  | cons x q =>
    have hc := take_any h 1 1 rfl (by simp) hr
    go_enter Tryz.func126, Tryz.ntmps126
    go_wp2_with (go_at_call 129; refine hc.mono ?_; rintro e w1 ⟨a, cap, rfl, h1, h2, h3, R1, H1, F1⟩; obtain ⟨g, off, rfl, _, _, cx⟩ := R1 0 (.int .u8 x) rfl; have cx' : w1.cell? ⟨g, off, none⟩ = some (.int .u8 x) := cx; clear cx)
    all_goals go_ret2
    all_goals exact ⟨rfl, H1, F1⟩
/-- The error of reading the byte of a kind. -/
def kindE (k : Int) : List Int → Int | [] => 2 | x :: _ => if x = k then 0 else 4
theorem kind_any {S : Nat → Prop} {w : World} {b : Nat} {l : List Int} (h : Rd S w b l) (hr : l.length ≤ 140737488355328) (k : Int) :
    Calls Tryz.prog 111 #[.pointer (some ⟨b, 0, none⟩), .int .u8 k] w fun e w' => e = .returned (.int .i64 (kindE k l)) ∧ Rd S w' b (l.drop 1) ∧ Fr (fun k => k = b) w w' := by
  have hc := byte_any h hr
  cases l with
  | nil =>
    go_enter Tryz.func111, Tryz.ntmps111
    go_wp2_with (go_at_call 126; refine hc.mono ?_; rintro e w1 ⟨rfl, H1, F1⟩; simp only [byteV, byteE])
    all_goals go_ret
    all_goals exact ⟨rfl, H1, F1⟩
  | cons x q =>
    have hk : kindE k (x :: q) = if x = k then 0 else 4 := rfl
    by_cases hx : x = k
    · subst hx
      rw [if_pos rfl] at hk
      rw [hk]
      clear hk
      go_enter Tryz.func111, Tryz.ntmps111
      go_wp2_with (go_at_call 126; refine hc.mono ?_; rintro e w1 ⟨rfl, H1, F1⟩; simp only [byteV, byteE])
      all_goals go_ret
      all_goals exact ⟨rfl, H1, F1⟩
    · rw [if_neg hx] at hk
      rw [hk]
      clear hk
      go_enter Tryz.func111, Tryz.ntmps111
      go_wp2_with (go_at_call 126; refine hc.mono ?_; rintro e w1 ⟨rfl, H1, F1⟩; simp only [byteV, byteE])
      all_goals go_ret
      all_goals exact ⟨rfl, H1, F1⟩
/-- A flag read, its error. -/
def flagE : List Int → Int | [] => 2 | x :: _ => if 1 < x then 5 else 0
def flagV : List Int → Bool | [] => false | x :: _ => decide (x = 1)
theorem flag_any {S : Nat → Prop} {w : World} {b : Nat} {l : List Int} (h : Rd S w b l) (hr : l.length ≤ 140737488355328) :
    Calls Tryz.prog 114 #[.pointer (some ⟨b, 0, none⟩)] w fun e w' => e = .returned (.tuple #[.bool (flagV l), .int .i64 (flagE l)]) ∧ Rd S w' b (l.drop 1) ∧ Fr (fun k => k = b) w w' := by
  have hc := byte_any h hr
  cases l with
  | nil =>
    go_enter Tryz.func114, Tryz.ntmps114
    go_wp2_with (go_at_call 126; refine hc.mono ?_; rintro e w1 ⟨rfl, H1, F1⟩; simp only [byteV, byteE])
    all_goals go_ret2
    all_goals exact ⟨rfl, H1, F1⟩
  | cons x q =>
    have hk : flagE (x :: q) = if 1 < x then 5 else 0 := rfl
    have hv : flagV (x :: q) = decide (x = 1) := rfl
    by_cases hx : 1 < x
    · rw [if_pos hx] at hk
      rw [decide_eq_false (by omega)] at hv
      rw [hk, hv]
      clear hk hv
      go_enter Tryz.func114, Tryz.ntmps114
      go_wp2_with (go_at_call 126; refine hc.mono ?_; rintro e w1 ⟨rfl, H1, F1⟩; simp only [byteV, byteE])
      all_goals go_ret2
      all_goals exact ⟨rfl, H1, F1⟩
    · rw [if_neg hx] at hk
      rw [hk, hv]
      clear hk hv
      go_enter Tryz.func114, Tryz.ntmps114
      go_wp2_with (go_at_call 126; refine hc.mono ?_; rintro e w1 ⟨rfl, H1, F1⟩; simp only [byteV, byteE])
      all_goals go_ret2
      all_goals exact ⟨rfl, H1, F1⟩
/-- A number read from the least one on: it, its error. -/
def fromE (least : Int) (l : List Int) : Int := if (num l).2.2 ≠ 0 then (num l).2.2 else if M < least + (num l).1 then 5 else 0
def fromV (least : Int) (l : List Int) : Int := if (num l).2.2 ≠ 0 then 0 else if M < least + (num l).1 then 0 else least + (num l).1
theorem from_any {S : Nat → Prop} {w : World} {b : Nat} {l : List Int} (h : Rd S w b l) (hb : Bytes l) (hr : l.length ≤ 140737488355328) (least : Int) (l0 : 0 ≤ least) (l1 : least ≤ 4611686018427387905) :
    Calls Tryz.prog 145 #[.pointer (some ⟨b, 0, none⟩), .int .u64 least] w fun e w' => e = .returned (.tuple #[.int .u64 (fromV least l), .int .i64 (fromE least l)]) ∧ Rd S w' b (l.drop (num l).2.1) ∧ Fr (fun k => k = b) w w' := by
  have hc := num_any h hb hr
  have hv : fromV least l = if (num l).2.2 ≠ 0 then 0 else if M < least + (num l).1 then 0 else least + (num l).1 := rfl
  have he : fromE least l = if (num l).2.2 ≠ 0 then (num l).2.2 else if M < least + (num l).1 then 5 else 0 := rfl
  have bd := num_bd hb
  generalize fromV least l = v at hv ⊢
  generalize fromE least l = er at he ⊢
  generalize l.drop (num l).2.1 = q at hc ⊢
  generalize (num l).1 = x at *
  generalize (num l).2.2 = ne at *
  obtain ⟨b0, b1⟩ := bd
  unfold M at hv he
  clear h hb hr
  by_cases c1 : ne = 0
  · subst c1
    rw [if_neg (by simp)] at hv he
    by_cases c2 : 4611686018427387903 < least + x
    · rw [if_pos c2] at hv he
      subst hv he
      have ew : IntKind.u64.wrap (least + x) = least + x := by rw [IntKind.wrap_u64]; omega
      go_enter Tryz.func145, Tryz.ntmps145
      go_wp2_with (go_at_call 151; refine hc.mono ?_; rintro e w1 ⟨rfl, H1, F1⟩)
      all_goals go_ret2
      all_goals exact ⟨rfl, H1, F1⟩
    · rw [if_neg c2] at hv he
      subst hv he
      have ew : IntKind.u64.wrap (least + x) = least + x := by rw [IntKind.wrap_u64]; omega
      go_enter Tryz.func145, Tryz.ntmps145
      go_wp2_with (go_at_call 151; refine hc.mono ?_; rintro e w1 ⟨rfl, H1, F1⟩)
      all_goals go_ret2
      all_goals exact ⟨rfl, H1, F1⟩
  · rw [if_pos c1] at hv he
    subst hv he
    go_enter Tryz.func145, Tryz.ntmps145
    go_wp2_with (go_at_call 151; refine hc.mono ?_; rintro e w1 ⟨rfl, H1, F1⟩)
    all_goals go_ret2
    all_goals exact ⟨rfl, H1, F1⟩
theorem from_bd {least : Int} {l : List Int} (hb : Bytes l) (l0 : 0 ≤ least) : 0 ≤ fromV least l ∧ fromV least l ≤ 4611686018427387903 := by
  have bd := num_bd hb
  unfold fromV M
  split
  · omega
  · split <;> omega
/-- A span read, its error, the bytes behind it. -/
def spE (least : Int) (l : List Int) : Int := if fromE least l ≠ 0 then fromE least l else fromE (fromV least l) (l.drop (num l).2.1)
def spV (least : Int) (l : List Int) : Sp := if spE least l ≠ 0 then (0, 0) else (fromV least l, fromV (fromV least l) (l.drop (num l).2.1))
def spK (l : List Int) : Nat := (num l).2.1 + (num (l.drop (num l).2.1)).2.1
theorem rd_mono {S T : Nat → Prop} {w : World} {b : Nat} {l : List Int} (h : Rd S w b l) (hT : ∀ k, k < w.heap.size → S k → T k) : Rd T w b l := by
  obtain ⟨hS, a, cap, h1, h2, h3, h0, h4⟩ := h
  exact ⟨hT b h1.lt hS, a, cap, h1, h2, h3, h0, h4.mono fun k hk hs => ⟨hT k hk hs.1, hs.2⟩⟩
/-- Two cells of a block, one behind the other. -/
def set2 (w : World) (g : Nat) (v0 v1 : Value) : World := (w.setCell ⟨g, 0, none⟩ v0).setCell ⟨g, 1, none⟩ v1
theorem set2_blk {w : World} {g : Nat} {T : TypeId} {u0 u1 : Value} (h : Blk w g #[u0, u1] T) (v0 v1 : Value) : Blk (set2 w g v0 v1) g #[v0, v1] T := (h.set 0 v0).set 1 v1
theorem set2_fr (w : World) (g : Nat) (v0 v1 : Value) : Fr (fun k => k = g) w (set2 w g v0 v1) :=
  Fr.setCell (S := fun k => k = g) (p := ⟨g, 1, none⟩) (Fr.setCell (S := fun k => k = g) (p := ⟨g, 0, none⟩) (Fr.refl _ _) (fun _ => rfl) _) (fun _ => rfl) _
/-- What the reading of a span comes to, behind the store of its result. -/
theorem span_end {S : Nat → Prop} {w w2 : World} {b : Nat} {q : List Int} (H2 : Rd (fun k => S k ∧ k < w.heap.size) w2 b q) (F2 : Fr (fun k => k = b) w w2) (x y : Value) :
    Rd S (set2 w2 w.heap.size x y) b q ∧ Fr (fun k => k = b) w (set2 w2 w.heap.size x y) :=
  ⟨rd_mono (H2.kept (set2_fr _ _ _ _) (fun k hk e => by have := hk.2; omega)) fun k _ h => h.1, F2.trans (set2_fr _ _ _ _) fun k hk e => by omega⟩
theorem span_any {S : Nat → Prop} {w : World} {b : Nat} {l : List Int} (h : Rd S w b l) (hb : Bytes l) (hr : l.length ≤ 140737488355328) (least : Int) (l0 : 0 ≤ least) (l1 : least ≤ 4611686018427387905) :
    Calls Tryz.prog 127 #[.pointer (some ⟨b, 0, none⟩), .int .u64 least] w fun e w' => e = .returned (.tuple #[.agg #[.int .u64 (spV least l).1, .int .u64 (spV least l).2], .int .i64 (spE least l)]) ∧ (spE least l = 0 → Rd S w' b (l.drop (spK l))) ∧ Fr (fun k => k = b) w w' := by
  have hbl : b < w.heap.size := by obtain ⟨_, _, _, hB, _⟩ := h; exact hB.lt
  have hB0 := Blk.new w #[.int .u64 0, .int .u64 0] 119
  have hF0 : Fr (fun k => k = b) w (w.alloc (.cells #[.int .u64 0, .int .u64 0] 119)) := (Fr.refl _ _).alloc _
  have h0 : Rd (fun k => S k ∧ k < w.heap.size) (w.alloc (.cells #[.int .u64 0, .int .u64 0] 119)) b l := (rd_mono (T := fun k => S k ∧ k < w.heap.size) h (fun k hk hs => ⟨hs, hk⟩)).kept (T := fun _ => False) ((Fr.refl _ _).alloc _) (fun _ _ e => e)
  have hb2 := hb.drop (num l).2.1
  have hr2 : (l.drop (num l).2.1).length ≤ 140737488355328 := by rw [List.length_drop]; omega
  have he : spE least l = if fromE least l ≠ 0 then fromE least l else fromE (fromV least l) (l.drop (num l).2.1) := rfl
  have hv : spV least l = if spE least l ≠ 0 then (0, 0) else (fromV least l, fromV (fromV least l) (l.drop (num l).2.1)) := rfl
  have hk : l.drop (spK l) = (l.drop (num l).2.1).drop (num (l.drop (num l).2.1)).2.1 := by rw [List.drop_drop]; rfl
  have c1 := from_any h0 hb hr least l0 l1
  have bd := from_bd (least := least) hb l0
  have c2 := fun W (H : Rd (fun k => S k ∧ k < w.heap.size) W b (l.drop (num l).2.1)) => from_any H hb2 hr2 (fromV least l) bd.1 (by omega)
  rw [hk]
  clear hk h0
  generalize spV least l = v at hv ⊢
  generalize spE least l = er at he hv ⊢
  generalize fromV (fromV least l) (l.drop (num l).2.1) = y at *
  generalize fromE (fromV least l) (l.drop (num l).2.1) = e2 at *
  generalize (l.drop (num l).2.1).drop (num (l.drop (num l).2.1)).2.1 = q2 at *
  generalize l.drop (num l).2.1 = q1 at *
  generalize fromV least l = x at *
  generalize fromE least l = e1 at *
  clear bd hb hr hb2 hr2 h l0 l1
  by_cases z1 : e1 = 0
  · subst z1
    rw [if_neg (by simp)] at he
    subst he
    by_cases z2 : er = 0
    · subst z2
      rw [if_neg (by simp)] at hv
      subst hv
      go_enter Tryz.func127, Tryz.ntmps127
      go_wp2_with (first
        | (go_at_call 145; (with_reducible refine c1.mono ?_); rintro e w1 ⟨rfl, H1, F1⟩; clear c1; have B1 := hB0.kept F1 (by omega); have G1 := hF0.trans F1 (fun _ _ h => h); clear hB0 hF0 F1)
        | (go_at_call 145; refine (c2 _ H1).mono ?_; rintro e w2 ⟨rfl, H2, F2⟩; clear c2 H1; have B2 := B1.kept F2 (by omega); have G2 := G1.trans F2 (fun _ _ h => h); clear B1 G1 F2; have r0 := B2.cell 0; have r1 := B2.cell 1; have f0 := B2.free 0; have f1 := B2.free 1))
      refine bodyPost_ret (results_row2 rfl _ _ w.heap.size 119 #[.int .u64 x, .int .u64 y] _ rfl (set2_blk B2 _ _) Tryz.underlying119 rfl (by kernel_rfl)) rfl ?_
      have X := span_end H2 G2 (.int .u64 x) (.int .u64 y)
      exact ⟨rfl, fun _ => X.1, X.2⟩
    · rw [if_pos z2] at hv
      subst hv
      go_enter Tryz.func127, Tryz.ntmps127
      go_wp2_with (first
        | (go_at_call 145; (with_reducible refine c1.mono ?_); rintro e w1 ⟨rfl, H1, F1⟩; clear c1; have B1 := hB0.kept F1 (by omega); have G1 := hF0.trans F1 (fun _ _ h => h); clear hB0 hF0 F1)
        | (go_at_call 145; refine (c2 _ H1).mono ?_; rintro e w2 ⟨rfl, H2, F2⟩; clear c2 H1; have B2 := B1.kept F2 (by omega); have G2 := G1.trans F2 (fun _ _ h => h); clear B1 G1 F2; have r0 := B2.cell 0; have r1 := B2.cell 1; have f0 := B2.free 0; have f1 := B2.free 1))
      refine bodyPost_ret (results_row2 rfl _ _ w.heap.size 119 #[.int .u64 0, .int .u64 0] _ rfl (set2_blk B2 _ _) Tryz.underlying119 rfl (by kernel_rfl)) rfl ?_
      exact ⟨rfl, fun e => absurd e z2, (span_end H2 G2 (.int .u64 0) (.int .u64 0)).2⟩
  · rw [if_pos z1] at he
    subst he
    rw [if_pos z1] at hv
    subst hv
    go_enter Tryz.func127, Tryz.ntmps127
    go_wp2_with (go_at_call 145; (with_reducible refine c1.mono ?_); rintro e w2 ⟨rfl, H2, F2⟩; clear c1; have B2 := hB0.kept F2 (by omega); have G2 := hF0.trans F2 (fun _ _ h => h); clear hB0 hF0 F2; have r0 := B2.cell 0; have r1 := B2.cell 1; have f0 := B2.free 0; have f1 := B2.free 1)
    refine bodyPost_ret (results_row2 rfl _ _ w.heap.size 119 #[.int .u64 0, .int .u64 0] _ rfl (set2_blk B2 _ _) Tryz.underlying119 rfl (by kernel_rfl)) rfl ?_
    exact ⟨rfl, fun e => absurd e z1, (span_end H2 G2 (.int .u64 0) (.int .u64 0)).2⟩
theorem from_zero {least : Int} {l : List Int} (h : fromE least l = 0) : (num l).2.2 = 0 ∧ ¬ M < least + (num l).1 ∧ fromV least l = least + (num l).1 := by
  unfold fromE at h
  by_cases c : (num l).2.2 = 0
  · rw [if_neg (by simp [c])] at h
    by_cases d : M < least + (num l).1
    · rw [if_pos d] at h; omega
    · exact ⟨c, d, by unfold fromV; rw [if_neg (by simp [c]), if_neg d]⟩
  · rw [if_pos c] at h; exact absurd h c
theorem from_not {least : Int} {l : List Int} (h : fromE least l ≠ 0) : ((num l).2.2 ≠ 0 ∧ fromE least l = (num l).2.2) ∨ ((num l).2.2 = 0 ∧ M < least + (num l).1 ∧ fromE least l = 5) := by
  unfold fromE at h ⊢
  by_cases c : (num l).2.2 = 0
  · rw [if_neg (by simp [c])] at h ⊢
    by_cases d : M < least + (num l).1
    · exact Or.inr ⟨c, d, if_pos d⟩
    · rw [if_neg d] at h; exact absurd rfl h
  · exact Or.inl ⟨c, if_pos c⟩
/-- One more span read: what it comes to. -/
theorem sp_bad (pre : List Sp) (used m : Nat) {low : Int} {q : List Int} (hb : Bytes q) (h : spE low q ≠ 0) : comb pre used (getSp (m + 1) low q) = ([], 0, spE low q) := by
  have b1 := (num_bd hb).1
  by_cases a1 : fromE low q = 0
  · have hs : spE low q = fromE (fromV low q) (q.drop (num q).2.1) := if_neg (by simp [a1])
    obtain ⟨n1, n2, n3⟩ := from_zero a1
    rw [hs] at h ⊢
    rw [n3] at h ⊢
    rcases from_not h with ⟨m1, m2⟩ | ⟨m1, m2, m3⟩
    · rw [m2]
      exact AckPlain.comb_num2 pre used m n1 (by omega) m1
    · rw [m3]
      exact AckPlain.comb_high pre used m n1 (by omega) m1 (by omega)
  · have hs : spE low q = fromE low q := if_pos a1
    rw [hs]
    rcases from_not a1 with ⟨m1, m2⟩ | ⟨m1, m2, m3⟩
    · rw [m2]
      exact AckPlain.comb_num pre used m m1
    · rw [m3]
      exact AckPlain.comb_low pre used m m1 (by omega)
theorem sp_go (pre : List Sp) (used m : Nat) {low : Int} {q : List Int} (hb : Bytes q) (h : spE low q = 0) : comb pre used (getSp (m + 1) low q) = comb (pre ++ [spV low q]) (used + spK q) (getSp m ((spV low q).2 + 2) (q.drop (spK q))) := by
  have b1 := (num_bd hb).1
  have hv : spV low q = (fromV low q, fromV (fromV low q) (q.drop (num q).2.1)) := if_neg (by simp [h])
  have a1 : fromE low q = 0 := by
    by_cases c : fromE low q = 0
    · exact c
    · rw [show spE low q = fromE low q from if_pos c] at h; exact absurd h c
  rw [show spE low q = fromE (fromV low q) (q.drop (num q).2.1) from if_neg (by simp [a1])] at h
  obtain ⟨n1, n2, n3⟩ := from_zero a1
  rw [n3] at h hv
  obtain ⟨m1, m2, m3⟩ := from_zero h
  rw [m3] at hv
  rw [hv]
  have := AckPlain.comb_go pre used m (low := low) (x := (num q).1) (y := (num (q.drop (num q).2.1)).1) (q := q) (k1 := (num q).2.1) (k2 := (num (q.drop (num q).2.1)).2.1) (by rw [← n1]) (by omega) (by rw [← m1]) (by omega)
  rw [this, List.drop_drop]
  rfl
theorem sp_bd {low : Int} {q : List Int} (hb : Bytes q) (h0 : 0 ≤ low) : (0 ≤ (spV low q).1 ∧ (spV low q).1 ≤ 4611686018427387903) ∧ 0 ≤ (spV low q).2 ∧ (spV low q).2 ≤ 4611686018427387903 := by
  unfold spV
  have h1 := from_bd (least := low) hb h0
  have h2 := from_bd (least := fromV low q) (hb.drop (num q).2.1) h1.1
  split
  · exact ⟨⟨by simp, by simp⟩, by simp, by simp⟩
  · exact ⟨h1, h2⟩
theorem sp_len (q : List Int) : spK q ≤ q.length := by
  have a1 := num_len q
  have a2 := num_len (q.drop (num q).2.1)
  rw [List.length_drop] at a2
  unfold spK
  omega
theorem above_any (s : Sp) (h0 : 0 ≤ s.2) (h1 : s.2 ≤ 4611686018427387903) (w : World) :
    Calls Tryz.prog 128 #[.agg #[.int .u64 s.1, .int .u64 s.2]] w fun e w' => e = .returned (.int .u64 (s.2 + 2)) ∧ Below w.heap.size w w' := by
  obtain ⟨x, y⟩ := s
  dsimp only at h0 h1 ⊢
  have ew : IntKind.u64.wrap (y + 2) = y + 2 := by rw [IntKind.wrap_u64]; omega
  go_enter Tryz.func128, Tryz.ntmps128
  go_wp2
  all_goals go_ret
  all_goals exact ⟨rfl, (Below.refl _ _).alloc (Nat.le_refl _) _⟩
end Go.Proofs.YtkiloaebokkjbaaGreat.Ack

/-
  Contracts of ack's reading of a row and of all fields.
-/
set_option linter.unusedSimpArgs false
set_option linter.unusedVariables false
namespace Go.Proofs.YtkiloaebokkjbaaGreat.Ack
set_option linter.unusedVariables false
set_option maxRecDepth 20000
open Go.ChangeShapes Go.WideShapes Go.ChangeAt Go.RowKit
open Go.Proofs.YtkiloaebokkjbaaGreat.Base Go.Proofs.YtkiloaebokkjbaaGreat.OctPlain Go.Proofs.YtkiloaebokkjbaaGreat.Tab Go.Proofs.YtkiloaebokkjbaaGreat.Oct Go.Proofs.YtkiloaebokkjbaaGreat.SpanPlain
open Go.Proofs.YtkiloaebokkjbaaGreat.AckPlain (K putAck getAck getRow getSp putSp getNum comb Fit)

/-- What a reading of a row comes to. -/
def RdPost (S : Nat → Prop) (w : World) (b : Nat) (l : List Int) (R : List Sp × Nat × Int) : Ending → World → Prop := fun e w' => ∃ (a : Option Addr) (c : Nat), e = .returned (.tuple #[.slice a R.1.length c, .int .i64 R.2.2]) ∧
  (R.2.2 = 0 → Rd S w' b (l.drop R.2.1)) ∧ R.1.length ≤ c ∧ c ≤ maxLen ∧ (a = none → R.1.length = 0 ∧ c = 0) ∧ RowIn (fun k => w.heap.size ≤ k) w' a (flat R.1) ∧ Fr (fun k => k = b) w w'
theorem rd_bad {S : Nat → Prop} {w w' : World} {b : Nat} {l : List Int} {R : List Sp × Nat × Int} {e : Int} (h : R = ([], 0, e)) (he : e ≠ 0) (hF : Fr (fun k => k = b) w w') : RdPost S w b l R (.returned (.tuple #[.slice none 0 0, .int .i64 e])) w' := by
  subst h
  exact ⟨none, 0, rfl, fun h => absurd h he, Nat.le_refl _, Nat.zero_le _, (fun _ => ⟨rfl, rfl⟩), RowIn.nil _ _ _, hF⟩
theorem own_fr {T : Nat → Prop} {base : Nat} {w w' : World} {v : Value} {l : List Sp} (h : Base.Own base w v l) (hf : Fr T w w') (hn : ∀ k, base ≤ k → ¬ T k) : Base.Own base w' v l := ownsRow_fr h hf hn
set_option maxHeartbeats 2000000 in
theorem row_rd {S : Nat → Prop} {w : World} {b : Nat} {l : List Int} (h : Rd S w b l) (hb : Bytes l) (hr : l.length ≤ 140737488355328) (least : Int) (f0 : 0 ≤ least) (f1 : least ≤ 1) :
    Calls Tryz.prog 112 #[.pointer (some ⟨b, 0, none⟩), .int .i64 least] w (RdPost S w b l (getRow least l)) := by
  have hbl : b < w.heap.size := by obtain ⟨_, _, _, hB, _⟩ := h; exact hB.lt
  have hc := byte_any h hr
  cases l with
  | nil =>
    go_enter Tryz.func112, Tryz.ntmps112
    go_wp2_with (go_at_call 126; refine hc.mono ?_; rintro e w1 ⟨rfl, H1, F1⟩; simp only [byteV, byteE])
    all_goals go_ret2
    all_goals exact rd_bad (e := 2) rfl (by decide) F1
  | cons x q =>
    obtain ⟨x0, x1⟩ := hb.head
    have hbq := hb.tail
    have hrq : q.length ≤ 140737488355328 := by rw [List.length_cons] at hr; omega
    by_cases hx : x < least ∨ 32 < x
    · have hR : getRow least (x :: q) = ([], 0, 5) := by rw [getRow, if_pos hx]
      rw [hR]
      clear hR
      go_enter Tryz.func112, Tryz.ntmps112
      go_wp2_with (go_at_call 126; refine hc.mono ?_; rintro e w1 ⟨rfl, H1, F1⟩; simp only [byteV, byteE])
      all_goals go_ret2
      all_goals exact rd_bad (e := 5) rfl (by decide) F1
    · have hR : getRow least (x :: q) = if (getSp x.toNat 0 q).2.2 ≠ 0 then ([], 0, (getSp x.toNat 0 q).2.2) else ((getSp x.toNat 0 q).1, 1 + (getSp x.toNat 0 q).2.1, 0) := by rw [getRow, if_neg hx]
      obtain ⟨m, hm⟩ : ∃ m : Nat, x = m := ⟨x.toNat, by omega⟩
      subst hm
      rw [Int.toNat_natCast] at hR
      have hm32 : (m : Int) ≤ 32 := by omega
      generalize getRow least ((m : Int) :: q) = R at hR ⊢
      have HR := Lib.hid hR
      clear hR
      have HB : ∀ e, e ≠ 0 → getSp m 0 q = ([], 0, e) → R = ([], 0, e) := fun e he h => by rw [HR.out, h]; exact if_pos he
      have hxl : least ≤ (m : Int) := by omega
      go_enter Tryz.func112, Tryz.ntmps112
      go_wp2_with (go_at_call 126; refine hc.mono ?_; rintro e w1 ⟨rfl, H1, F1⟩; simp only [byteV, byteE]; have H1' := rd_mono (T := fun k => S k ∧ k < w1.heap.size) H1 (fun k hk hs => ⟨hs, hk⟩))
      go_loopw [8, 9, 30] (fun o lo i wr => ∃ (k t' : Nat) (low : Int) (pre : List Sp), k ≤ m ∧ i = .int .u8 k ∧ lo = .int .u64 low ∧ Base.Own w1.heap.size wr o pre ∧ pre.length = k ∧ t' ≤ q.length ∧ getSp m 0 q = comb pre t' (getSp (m - k) low (q.drop t')) ∧ 0 ≤ low ∧ low ≤ 4611686018427387905 ∧ Rd (fun k => S k ∧ k < w1.heap.size) wr b (q.drop t') ∧ Fr (fun k => k = b) w1 wr) (fun _ _ i _ => m - (intOf i).toNat)
      case atStart => exact ⟨0, 0, 0, [], Nat.zero_le _, rfl, rfl, Base.Own.nil _ _, rfl, Nat.zero_le _, by rw [Nat.sub_zero, List.drop_zero, AckPlain.comb_start], Int.le_refl _, by decide, H1', Fr.refl _ _⟩
      case round =>
        obtain ⟨k, t', low, pre, hk, rfl, rfl, hown, hpl, ht, hg, hlow, hlow2, hRd, hF⟩ := hrel
        by_cases hkm : k < m
        · obtain ⟨j, hj⟩ : ∃ j, m - k = j + 1 := ⟨m - k - 1, by omega⟩
          rw [hj] at hg
          have hkI : (k : Int) < (m : Int) := by omega
          have hbt := hbq.drop t'
          have hrt : (q.drop t').length ≤ 140737488355328 := by rw [List.length_drop]; omega
          have C := span_any hRd hbt hrt low hlow hlow2
          have hdd : (q.drop t').drop (spK (q.drop t')) = q.drop (t' + spK (q.drop t')) := by rw [List.drop_drop]
          have hsl := sp_len (q.drop t')
          rw [List.length_drop] at hsl
          have hsb := sp_bd (low := low) hbt hlow
          rw [hdd] at C
          by_cases hz : spE low (q.drop t') = 0
          · have hG := sp_go pre t' j hbt hz
            rw [← hg, hdd] at hG
            have hown1 := fun W (hW : Fr (fun k => k = b) wr W) => own_fr hown hW (fun k hk e => by have := F1.size; omega)
            rw [hz] at C
            generalize spV low (q.drop t') = s at *
            obtain ⟨u, v⟩ := s
            dsimp only at C hG hsb
            obtain ⟨⟨u0, u1⟩, v0, v1⟩ := hsb
            have HG := Lib.hid (show getSp m 0 q = comb (pre ++ [(u, v)]) (t' + spK (q.drop t')) (getSp (m - (k + 1)) (v + 2) (q.drop (t' + spK (q.drop t')))) by rw [hG, show m - (k + 1) = j by omega])
            have HT := Lib.hid (show t' + spK (q.drop t') ≤ q.length by omega)
            generalize t' + spK (q.drop t') = t2 at *
            have hpl' := Lib.hid hpl
            have hkN := Lib.hid hkm
            have hpk : pre.length ≤ 32 := by omega
            clear hG hg hdd hsl hz hbt hrt hj hkm hpl hown hRd HB HR hk
            go_wp2_with (first
              | (go_at_call 127; refine C.mono ?_; rintro e w2 ⟨rfl, H2, F2⟩; have H2' := H2 trivial; have hO2 := hown1 _ F2; have hs2 := Nat.le_trans hF.size F2.size; clear H2 C)
              | (at_builtin; refine wpl_add (W := w2.alloc (.cells #[.int .u64 u, .int .u64 v] 119)) (x := u) (y := v) rfl (.tmp 41) (.tmp 43) rfl rfl (hO2.alloc _) rfl (by simp) (by omega) (by simp; omega) ?_; intro v3 w3 A3; have A3h := Lib.hid A3; have c0 := A3.keep (b := w2.heap.size) (o := 0) (u := .int .u64 u) (by simp) (hO2.ne (Or.inl (Nat.le_refl _))); have c1 := A3.keep (b := w2.heap.size) (o := 1) (u := .int .u64 v) (by simp) (hO2.ne (Or.inl (Nat.le_refl _))); have L3 : Below w1.heap.size w2 w3 := A3.below ((Below.refl _ _).alloc hs2 _) (Nat.le_refl _); clear A3)
              | (go_at_call 128; refine (above_any (u, v) v0 v1 _).mono ?_; rintro e w4 ⟨rfl, L4⟩))
            all_goals go_roundw
            case rel => exact ⟨k + 1, t2, v + 2, _, hkN.out, by go_num, rfl, A3h.out.own.below L4, by rw [List.length_append, hpl'.out]; rfl, HT.out, HG.out, by omega, by omega, (H2'.below L3 (fun k hk => hk.2)).below L4 (fun k hk => by have := L3.size; have := hk.2; omega), ((hF.trans F2 (fun _ _ h => h)).trans (Fr.of_old (S := fun k => w1.heap.size ≤ k) L3 (fun k _ h => h)) (fun k hk h => by omega)).trans (Fr.of_below (S := fun k => k = b) L4) (fun _ _ h => h)⟩
            case measure => simp [intOf]; omega
          · have hX : R = ([], 0, spE low (q.drop t')) := HB _ hz (hg.trans (sp_bad _ _ _ hbt hz))
            have HX := Lib.hid hX
            generalize spE low (q.drop t') = er at *
            clear hX hg hdd hsl hbt hrt hj hkm hpl hown hRd HB HR hk hsb
            go_wp2_with (go_at_call 127; refine C.mono ?_; rintro e w2 ⟨rfl, H2, F2⟩)
            all_goals go_ret2
            all_goals exact rd_bad (e := er) HX.out hz (((F1.trans hF (fun _ _ h => h)).trans F2 (fun _ _ h => h)).alloc _)
        · obtain rfl : k = m := by omega
          rw [Nat.sub_self, AckPlain.comb_end] at hg
          have hR := HR.out
          rw [hg] at hR
          have hR' : R = (pre, 1 + t', 0) := hR.trans (if_neg (by simp))
          subst hR'
          obtain ⟨a, cap, rfl, h1, h2, h3, h4⟩ := hown.read
          clear hR hg HR HB hpl hown
          go_wp2
          all_goals go_ret2
          all_goals exact ⟨a, cap, rfl, fun _ => by rw [show (1 : Nat) + t' = t' + 1 by omega]; exact rd_mono hRd (fun k _ h => h.1), h1, h2, h3, h4.mono (fun k _ hk => Nat.le_trans F1.size hk), F1.trans hF (fun _ _ h => h)⟩
open Go.Proofs.YtkiloaebokkjbaaGreat.HeadPlain (wrd wrd_len wrd_bd)
theorem word_rd {S : Nat → Prop} {w : World} {b : Nat} {l : List Int} (h : Rd S w b l) (hb : Bytes l) (hr : l.length ≤ 140737488355328) :
    Calls Tryz.prog 113 #[.pointer (some ⟨b, 0, none⟩)] w fun e w' => e = .returned (.tuple #[.int .u64 (wrd l).1, .int .i64 (wrd l).2.2]) ∧ Rd S w' b (l.drop (wrd l).2.1) ∧ Fr (fun k => k = b) w w' := by
  by_cases h8 : l.length < 8
  · rw [show wrd l = (0, 0, 2) from if_pos h8]
    exact (word_short h h8).mono fun e w' ⟨he, hw⟩ => by subst hw; exact ⟨he, h, Fr.refl _ _⟩
  · rw [show wrd l = (val (l.take 8), 8, 0) from if_neg h8]
    exact word_any h hb (by omega) hr
theorem kind_bad {l : List Int} (h : kindE 2 l ≠ 0) : getAck l = (AckPlain.zero, kindE 2 l) := by
  cases l with
  | nil => rfl
  | cons x q =>
    have hk : kindE 2 (x :: q) = if x = 2 then 0 else 4 := rfl
    by_cases hx : x = 2
    · rw [hk, if_pos hx] at h; exact absurd rfl h
    · rw [hk, if_neg hx, getAck, if_pos hx]
theorem kind_ok {l : List Int} (h : kindE 2 l = 0) : ∃ q, l = 2 :: q := by
  cases l with
  | nil => cases h
  | cons x q =>
    have hk : kindE 2 (x :: q) = if x = 2 then 0 else 4 := rfl
    by_cases hx : x = 2
    · exact ⟨q, by rw [hx]⟩
    · rw [hk, if_neg hx] at h; cases h
theorem h5_bad (sp mk : List Sp) (trig xr : Int) {l : List Int} (h : flagE l ≠ 0) : AckPlain.h5 sp mk trig xr l = (AckPlain.zero, flagE l) := by
  cases l with
  | nil => rfl
  | cons x q =>
    have hk : flagE (x :: q) = if 1 < x then 5 else 0 := rfl
    by_cases hx : 1 < x
    · rw [hk, if_pos hx, AckPlain.h5, if_pos hx]
    · rw [hk, if_neg hx] at h; exact absurd rfl h
theorem h5_ok (sp mk : List Sp) (trig xr : Int) {l : List Int} (h : flagE l = 0) : AckPlain.h5 sp mk trig xr l = if l.drop 1 ≠ [] then (AckPlain.zero, 3) else if inside mk sp then (⟨sp, mk, trig, xr, flagV l⟩, 0) else (AckPlain.zero, 5) := by
  cases l with
  | nil => cases h
  | cons x q =>
    have hk : flagE (x :: q) = if 1 < x then 5 else 0 := rfl
    by_cases hx : 1 < x
    · rw [hk, if_pos hx] at h; cases h
    · rw [AckPlain.h5, if_neg hx]; rfl
/-- What the reading of all fields comes to. -/
def FdPost (S : Nat → Prop) (w : World) (b : Nat) (l : List Int) : Ending → World → Prop := fun e w' => ∃ (a : Option Addr) (n c : Nat) (a2 : Option Addr) (m d : Nat) (trig xor : Int) (par : Bool) (er : Int),
  e = .returned (.tuple #[.agg #[.slice a n c, .slice a2 m d, .int .u64 trig, .int .u64 xor, .bool par], .int .i64 er]) ∧ Fr (fun k => k = b) w w' ∧ (er ≠ 0 → getAck l = (AckPlain.zero, er)) ∧
  (er = 0 → ∃ (sp mk : List Sp) (r : List Int), getAck l = (if r ≠ [] then (AckPlain.zero, 3) else if inside mk sp then (⟨sp, mk, trig, xor, par⟩, 0) else (AckPlain.zero, 5)) ∧ Rd S w' b r ∧ good sp = true ∧ good mk = true ∧
    (sp.length = n ∧ n ≤ 32 ∧ n ≤ c ∧ c ≤ maxLen ∧ (a = none → n = 0 ∧ c = 0) ∧ RowIn (fun k => w.heap.size ≤ k) w' a (flat sp)) ∧ (mk.length = m ∧ m ≤ 32 ∧ m ≤ d ∧ d ≤ maxLen ∧ (a2 = none → m = 0 ∧ d = 0) ∧ RowIn (fun k => w.heap.size ≤ k) w' a2 (flat mk)))
/-- The fields being read: the result's block at the first world's end, two rows of the call's own. -/
structure Rf (b : Nat) (w0 w : World) (v0 v1 v2 v3 v4 : Value) (a : Option Addr) (xs : List Value) (a2 : Option Addr) (ys : List Value) : Prop where
  blk : Blk w w0.heap.size #[v0, v1, v2, v3, v4] 56
  fr : Fr (fun k => k = b) w0 w
  one : RowIn (fun k => w0.heap.size + 1 ≤ k) w a xs
  two : RowIn (fun k => w0.heap.size + 1 ≤ k) w a2 ys
  old : b < w0.heap.size
section
variable {b : Nat} {w0 w w' : World} {v0 v1 v2 v3 v4 : Value} {a a2 a' : Option Addr} {xs ys zs : List Value}
theorem Rf.call (h : Rf b w0 w v0 v1 v2 v3 v4 a xs a2 ys) (hF : Fr (fun k => k = b) w w') : Rf b w0 w' v0 v1 v2 v3 v4 a xs a2 ys :=
  ⟨h.blk.kept hF (by have := h.old; omega), h.fr.trans hF (fun _ _ h => h), h.one.kept hF (fun k hk e => by have := h.old; omega), h.two.kept hF (fun k hk e => by have := h.old; omega), h.old⟩
theorem Rf.size (h : Rf b w0 w v0 v1 v2 v3 v4 a xs a2 ys) : w0.heap.size + 1 ≤ w.heap.size := h.blk.lt
theorem Rf.row1 (h : Rf b w0 w v0 v1 v2 v3 v4 a xs a2 ys) (hF : Fr (fun k => k = b) w w') (hR : RowIn (fun k => w.heap.size ≤ k) w' a' zs) : Rf b w0 w' v0 v1 v2 v3 v4 a' zs a2 ys :=
  ⟨(h.call hF).blk, (h.call hF).fr, hR.mono (fun k _ hk => by have := h.size; omega), (h.call hF).two, h.old⟩
theorem Rf.row2 (h : Rf b w0 w v0 v1 v2 v3 v4 a xs a2 ys) (hF : Fr (fun k => k = b) w w') (hR : RowIn (fun k => w.heap.size ≤ k) w' a' zs) : Rf b w0 w' v0 v1 v2 v3 v4 a xs a' zs :=
  ⟨(h.call hF).blk, (h.call hF).fr, (h.call hF).one, hR.mono (fun k _ hk => by have := h.size; omega), h.old⟩
theorem fr_put (g : Nat) (i : Nat) (w : World) (u : Value) : Fr (fun k => k = g) w (w.setCell ⟨g, i, none⟩ u) := Fr.setCell (S := fun k => k = g) (Fr.refl _ _) (p := ⟨g, i, none⟩) (fun _ => rfl) _
theorem Rf.keep (h : Rf b w0 w v0 v1 v2 v3 v4 a xs a2 ys) (hF : Fr (fun k => k = w0.heap.size) w w') : Fr (fun k => k = b) w0 w' ∧ RowIn (fun k => w0.heap.size + 1 ≤ k) w' a xs ∧ RowIn (fun k => w0.heap.size + 1 ≤ k) w' a2 ys :=
  ⟨h.fr.trans hF (fun k hk e => by omega), h.one.kept hF (fun k hk e => by omega), h.two.kept hF (fun k hk e => by omega)⟩
theorem Rf.put0 (h : Rf b w0 w v0 v1 v2 v3 v4 a xs a2 ys) (u : Value) : Rf b w0 (w.setCell ⟨w0.heap.size, 0, none⟩ u) u v1 v2 v3 v4 a xs a2 ys :=
  have k := h.keep (fr_put _ 0 w u); ⟨h.blk.set 0 u, k.1, k.2.1, k.2.2, h.old⟩
theorem Rf.put1 (h : Rf b w0 w v0 v1 v2 v3 v4 a xs a2 ys) (u : Value) : Rf b w0 (w.setCell ⟨w0.heap.size, 1, none⟩ u) v0 u v2 v3 v4 a xs a2 ys :=
  have k := h.keep (fr_put _ 1 w u); ⟨h.blk.set 1 u, k.1, k.2.1, k.2.2, h.old⟩
theorem Rf.put2 (h : Rf b w0 w v0 v1 v2 v3 v4 a xs a2 ys) (u : Value) : Rf b w0 (w.setCell ⟨w0.heap.size, 2, none⟩ u) v0 v1 u v3 v4 a xs a2 ys :=
  have k := h.keep (fr_put _ 2 w u); ⟨h.blk.set 2 u, k.1, k.2.1, k.2.2, h.old⟩
theorem Rf.put3 (h : Rf b w0 w v0 v1 v2 v3 v4 a xs a2 ys) (u : Value) : Rf b w0 (w.setCell ⟨w0.heap.size, 3, none⟩ u) v0 v1 v2 u v4 a xs a2 ys :=
  have k := h.keep (fr_put _ 3 w u); ⟨h.blk.set 3 u, k.1, k.2.1, k.2.2, h.old⟩
theorem Rf.put4 (h : Rf b w0 w v0 v1 v2 v3 v4 a xs a2 ys) (u : Value) : Rf b w0 (w.setCell ⟨w0.heap.size, 4, none⟩ u) v0 v1 v2 v3 u a xs a2 ys :=
  have k := h.keep (fr_put _ 4 w u); ⟨h.blk.set 4 u, k.1, k.2.1, k.2.2, h.old⟩
theorem Rf.set5 (h : Rf b w0 w v0 v1 v2 v3 v4 a xs a2 ys) (u0 u1 u2 u3 u4 : Value) : Rf b w0 (set5 w w0.heap.size u0 u1 u2 u3 u4) u0 u1 u2 u3 u4 a xs a2 ys :=
  ((((h.put0 u0).put1 u1).put2 u2).put3 u3).put4 u4
end
theorem rd_put {S : Nat → Prop} {w0 w : World} {b : Nat} {l : List Int} (h : Rd (fun k => S k ∧ k < w0.heap.size) w b l) (i : Nat) (u : Value) : Rd (fun k => S k ∧ k < w0.heap.size) (w.setCell ⟨w0.heap.size, i, none⟩ u) b l :=
  h.kept (fr_put _ i w u) (fun k hk e => by have := hk.2; omega)
theorem fd_bad {S : Nat → Prop} {w w' : World} {b : Nat} {l : List Int} {a a2 : Option Addr} {n c m d : Nat} {trig xor : Int} {par : Bool} {er : Int} (h : getAck l = (AckPlain.zero, er)) (he : er ≠ 0) (hF : Fr (fun k => k = b) w w') :
    FdPost S w b l (.returned (.tuple #[.agg #[.slice a n c, .slice a2 m d, .int .u64 trig, .int .u64 xor, .bool par], .int .i64 er])) w' :=
  ⟨a, n, c, a2, m, d, trig, xor, par, er, rfl, hF, fun _ => h, fun e => absurd e he⟩
set_option maxHeartbeats 4000000 in
theorem fields_any {S : Nat → Prop} {w : World} {b : Nat} {l : List Int} (h : Rd S w b l) (hb : Bytes l) (hr : l.length ≤ 140737488355328) :
    Calls Tryz.prog 89 #[.pointer (some ⟨b, 0, none⟩)] w (FdPost S w b l) := by
  have hbl : b < w.heap.size := by obtain ⟨_, _, _, hB, _⟩ := h; exact hB.lt
  have R0 : Rf b w (w.alloc (.cells #[.slice none 0 0, .slice none 0 0, .int .u64 0, .int .u64 0, .bool false] 56)) (.slice none 0 0) (.slice none 0 0) (.int .u64 0) (.int .u64 0) (.bool false) none [] none [] :=
    ⟨Blk.new _ _ _, (Fr.refl _ _).alloc _, RowIn.nil _ _ _, RowIn.nil _ _ _, hbl⟩
  have h0 : Rd (fun k => S k ∧ k < w.heap.size) (w.alloc (.cells #[.slice none 0 0, .slice none 0 0, .int .u64 0, .int .u64 0, .bool false] 56)) b l := (rd_mono (T := fun k => S k ∧ k < w.heap.size) h (fun k hk hs => ⟨hs, hk⟩)).kept (T := fun _ => False) ((Fr.refl _ _).alloc _) (fun _ _ e => e)
  have hbd : ∀ t, Bytes (l.drop t) := fun t => hb.drop t
  have hrd : ∀ t, (l.drop t).length ≤ 140737488355328 := fun t => by rw [List.length_drop]; omega
  obtain ⟨⟨sp, k1, e1⟩, n1⟩ : ∃ r, getRow 1 (l.drop 1) = r := ⟨_, rfl⟩
  obtain ⟨t1, u1⟩ : ∃ t1, t1 = 1 + k1 := ⟨_, rfl⟩
  obtain ⟨⟨mk, k2, e2⟩, n2⟩ : ∃ r, getRow 0 (l.drop t1) = r := ⟨_, rfl⟩
  obtain ⟨t2, u2⟩ : ∃ t2, t2 = t1 + k2 := ⟨_, rfl⟩
  obtain ⟨⟨trig, k3, e3⟩, n3⟩ : ∃ r, wrd (l.drop t2) = r := ⟨_, rfl⟩
  obtain ⟨t3, u3⟩ : ∃ t3, t3 = t2 + k3 := ⟨_, rfl⟩
  obtain ⟨⟨xr, k4, e4⟩, n4⟩ : ∃ r, wrd (l.drop t3) = r := ⟨_, rfl⟩
  obtain ⟨t4, u4⟩ : ∃ t4, t4 = t3 + k4 := ⟨_, rfl⟩
  have HA := fun q (hq : l = 2 :: q) => AckPlain.ack_at hq n1 u1 n2 u2 n3 u3 n4 u4
  have d1 : (l.drop 1).drop k1 = l.drop t1 := by rw [List.drop_drop, u1]
  have d2 : (l.drop t1).drop k2 = l.drop t2 := by rw [List.drop_drop, u2]
  have d3 : (l.drop t2).drop k3 = l.drop t3 := by rw [List.drop_drop, u3]
  have d4 : (l.drop t3).drop k4 = l.drop t4 := by rw [List.drop_drop, u4]
  have c0 := kind_any h0 hr 2
  have c1 := fun W (H : Rd (fun k => S k ∧ k < w.heap.size) W b (l.drop 1)) => row_rd H (hbd 1) (hrd 1) 1 (by decide) (by decide)
  have c2 := fun W (H : Rd (fun k => S k ∧ k < w.heap.size) W b (l.drop t1)) => row_rd H (hbd t1) (hrd t1) 0 (by decide) (by decide)
  have c3 := fun W (H : Rd (fun k => S k ∧ k < w.heap.size) W b (l.drop t2)) => word_rd H (hbd t2) (hrd t2)
  have c4 := fun W (H : Rd (fun k => S k ∧ k < w.heap.size) W b (l.drop t3)) => word_rd H (hbd t3) (hrd t3)
  have c5 := fun W (H : Rd (fun k => S k ∧ k < w.heap.size) W b (l.drop t4)) => flag_any H (hrd t4)
  unfold RdPost at c1 c2
  rw [n1] at c1
  rw [n2] at c2
  rw [n3] at c3
  rw [n4] at c4
  dsimp only at c1 c2 c3 c4
  rw [d1] at c1
  rw [d2] at c2
  rw [d3] at c3
  rw [d4] at c4
  have g1 := fun (he : e1 = 0) => AckPlain.getRow_one (least := 1) (hbd 1) (by rw [n1, he])
  have g2 := fun (he : e2 = 0) => AckPlain.getRow_one (least := 0) (hbd t1) (by rw [n2, he])
  have X0 := fun (hk : kindE 2 l ≠ 0) => kind_bad hk
  have X1 : kindE 2 l = 0 → getAck l = if e1 ≠ 0 then (AckPlain.zero, e1) else if e2 ≠ 0 then (AckPlain.zero, e2) else if e3 ≠ 0 then (AckPlain.zero, e3) else if e4 ≠ 0 then (AckPlain.zero, e4) else AckPlain.h5 sp mk trig xr (l.drop t4) := fun hk => by
    obtain ⟨q, hq⟩ := kind_ok hk
    exact HA q hq
  have X2 := fun (hk : flagE (l.drop t4) ≠ 0) => h5_bad sp mk trig xr hk
  have X3 := fun (hk : flagE (l.drop t4) = 0) => h5_ok sp mk trig xr hk
  generalize kindE 2 l = e0 at *
  generalize flagE (l.drop t4) = e5 at *
  generalize flagV (l.drop t4) = par at *
  generalize (l.drop t4).drop 1 = q5 at *
  generalize l.drop t4 = q4 at *
  generalize l.drop t3 = q3 at *
  generalize l.drop t2 = q2 at *
  generalize l.drop t1 = q1 at *
  generalize l.drop 1 = q0 at *
  clear HA n1 n2 n3 n4 d1 d2 d3 d4 u1 u2 u3 u4 hbd hrd h0 h hb hr
  have hG0 : Hid (e0 ≠ 0 → getAck l = (AckPlain.zero, e0)) := Lib.hid X0
  have hG1 : Hid (e0 = 0 → e1 ≠ 0 → getAck l = (AckPlain.zero, e1)) := Lib.hid fun h0 h1 => by rw [X1 h0, if_pos h1]
  have hG2 : Hid (e0 = 0 → e1 = 0 → e2 ≠ 0 → getAck l = (AckPlain.zero, e2)) := Lib.hid fun h0 h1 h2 => by rw [X1 h0, if_neg (by simp [h1]), if_pos h2]
  have hG3 : Hid (e0 = 0 → e1 = 0 → e2 = 0 → e3 ≠ 0 → getAck l = (AckPlain.zero, e3)) := Lib.hid fun h0 h1 h2 h3 => by rw [X1 h0, if_neg (by simp [h1]), if_neg (by simp [h2]), if_pos h3]
  have hG4 : Hid (e0 = 0 → e1 = 0 → e2 = 0 → e3 = 0 → e4 ≠ 0 → getAck l = (AckPlain.zero, e4)) := Lib.hid fun h0 h1 h2 h3 h4 => by rw [X1 h0, if_neg (by simp [h1]), if_neg (by simp [h2]), if_neg (by simp [h3]), if_pos h4]
  have hG5 : Hid (e0 = 0 → e1 = 0 → e2 = 0 → e3 = 0 → e4 = 0 → (e5 ≠ 0 → getAck l = (AckPlain.zero, e5)) ∧ (e5 = 0 → getAck l = if q5 ≠ [] then (AckPlain.zero, 3) else if inside mk sp then (⟨sp, mk, trig, xr, par⟩, 0) else (AckPlain.zero, 5))) := Lib.hid fun h0 h1 h2 h3 h4 => by
    rw [X1 h0, if_neg (by simp [h1]), if_neg (by simp [h2]), if_neg (by simp [h3]), if_neg (by simp [h4])]
    exact ⟨X2, X3⟩
  have hg := Lib.hid (And.intro g1 g2)
  clear X0 X1 X2 X3 g1 g2
  by_cases z0 : e0 = 0
  · subst z0
    by_cases z1 : e1 = 0
    · subst z1
      by_cases z2 : e2 = 0
      · subst z2
        by_cases z3 : e3 = 0
        · subst z3
          by_cases z4 : e4 = 0
          · subst z4
            have hE := Lib.hid (hG5.out rfl rfl rfl rfl rfl)
            have hg' := Lib.hid (And.intro (hg.out.1 rfl) (hg.out.2 rfl))
            clear hG0 hG1 hG2 hG3 hG4 hG5 hg
            go_enter Tryz.func89, Tryz.ntmps89
            go_wp2_with (first
                  | (go_at_call 111; refine c0.mono ?_; rintro e w1 ⟨rfl, H1, F1⟩; have R1 := R0.call F1; clear R0 c0 F1)
                  | (go_at_call 112; (with_reducible refine (c1 _ H1).mono ?_); rintro e w2 ⟨a1, m1, rfl, H2, i1, i2, i3, RI, F2⟩; have R2 := R1.row1 F2 RI; clear R1 c1 F2 RI H1; obtain ⟨p0, p1, p2, p3, p4⟩ := blk5 R2.blk; have f0 := R2.blk.free 0; have f1 := R2.blk.free 1; have f2 := R2.blk.free 2; have f3 := R2.blk.free 3; have f4 := R2.blk.free 4)
                  | (go_at_call 112; refine (c2 _ (rd_put (H2 (by trivial)) 0 _)).mono ?_; rintro e w3 ⟨a2, m2, rfl, H3, j1, j2, j3, RJ, F3⟩; have R3 := (R2.put0 _).row2 F3 RJ; clear R2 c2 F3 RJ H2 p0 p1 p2 p3 p4 f0 f1 f2 f3 f4; obtain ⟨p0, p1, p2, p3, p4⟩ := blk5 R3.blk; have f0 := R3.blk.free 0; have f1 := R3.blk.free 1; have f2 := R3.blk.free 2; have f3 := R3.blk.free 3; have f4 := R3.blk.free 4)
                  | (go_at_call 113; (with_reducible refine (c3 _ (rd_put (H3 (by trivial)) 1 _)).mono ?_); rintro e w4 ⟨rfl, H4, F4⟩; have R4 := (R3.put1 _).call F4; clear R3 c3 F4 H3 p0 p1 p2 p3 p4 f0 f1 f2 f3 f4; obtain ⟨p0, p1, p2, p3, p4⟩ := blk5 R4.blk; have f0 := R4.blk.free 0; have f1 := R4.blk.free 1; have f2 := R4.blk.free 2; have f3 := R4.blk.free 3; have f4 := R4.blk.free 4)
                  | (go_at_call 113; refine (c4 _ (rd_put H4 2 _)).mono ?_; rintro e w5 ⟨rfl, H5, F5⟩; have R5 := (R4.put2 _).call F5; clear R4 c4 F5 H4 p0 p1 p2 p3 p4 f0 f1 f2 f3 f4; obtain ⟨p0, p1, p2, p3, p4⟩ := blk5 R5.blk; have f0 := R5.blk.free 0; have f1 := R5.blk.free 1; have f2 := R5.blk.free 2; have f3 := R5.blk.free 3; have f4 := R5.blk.free 4)
                  | (go_at_call 114; refine (c5 _ (rd_put H5 3 _)).mono ?_; rintro e w6 ⟨rfl, H6, F6⟩; have R6 := (R5.put3 _).call F6; clear R5 c5 F6 H5 p0 p1 p2 p3 p4 f0 f1 f2 f3 f4; obtain ⟨p0, p1, p2, p3, p4⟩ := blk5 R6.blk; have f0 := R6.blk.free 0; have f1 := R6.blk.free 1; have f2 := R6.blk.free 2; have f3 := R6.blk.free 3; have f4 := R6.blk.free 4))
            have X := (R6.put4 (.bool par)).set5 (.slice a1 sp.length m1) (.slice a2 mk.length m2) (.int .u64 trig) (.int .u64 xr) (.bool par)
            have Y := R6.keep ((fr_put _ 4 w6 (.bool par)).trans (set5_fr _ _ (.slice a1 sp.length m1) (.slice a2 mk.length m2) (.int .u64 trig) (.int .u64 xr) (.bool par)) (fun _ _ h => h))
            refine bodyPost_ret (results_row2 rfl _ _ w.heap.size 56 #[.slice a1 sp.length m1, .slice a2 mk.length m2, .int .u64 trig, .int .u64 xr, .bool par] _ rfl X.blk Tryz.underlying56 rfl (by kernel_rfl)) rfl ?_
            have Z := rd_mono ((rd_put H6 4 (.bool par)).kept (set5_fr _ _ (.slice a1 sp.length m1) (.slice a2 mk.length m2) (.int .u64 trig) (.int .u64 xr) (.bool par)) (T := fun k => k = w.heap.size) (fun k hk e => by have := hk.2; omega)) (T := S) (fun k _ h => h.1)
            obtain ⟨⟨y1, _, y2, _⟩, y3, _, y4, _⟩ := hg'.out
            exact ⟨a1, sp.length, m1, a2, mk.length, m2, trig, xr, par, e5, rfl, X.fr, hE.out.1, fun z => ⟨sp, mk, q5, hE.out.2 z, Z, y1, y3, ⟨rfl, by omega, i1, i2, i3, X.one.mono (fun k _ hk => by omega)⟩, rfl, by omega, j1, j2, j3, X.two.mono (fun k _ hk => by omega)⟩⟩
          · have hE := Lib.hid (hG4.out rfl rfl rfl rfl z4)
            clear hG0 hG1 hG2 hG3 hG4 hG5 hg c5
            go_enter Tryz.func89, Tryz.ntmps89
            go_wp2_with (first
                  | (go_at_call 111; refine c0.mono ?_; rintro e w1 ⟨rfl, H1, F1⟩; have R1 := R0.call F1; clear R0 c0 F1)
                  | (go_at_call 112; (with_reducible refine (c1 _ H1).mono ?_); rintro e w2 ⟨a1, m1, rfl, H2, i1, i2, i3, RI, F2⟩; have R2 := R1.row1 F2 RI; clear R1 c1 F2 RI H1; obtain ⟨p0, p1, p2, p3, p4⟩ := blk5 R2.blk; have f0 := R2.blk.free 0; have f1 := R2.blk.free 1; have f2 := R2.blk.free 2; have f3 := R2.blk.free 3; have f4 := R2.blk.free 4)
                  | (go_at_call 112; refine (c2 _ (rd_put (H2 (by trivial)) 0 _)).mono ?_; rintro e w3 ⟨a2, m2, rfl, H3, j1, j2, j3, RJ, F3⟩; have R3 := (R2.put0 _).row2 F3 RJ; clear R2 c2 F3 RJ H2 p0 p1 p2 p3 p4 f0 f1 f2 f3 f4; obtain ⟨p0, p1, p2, p3, p4⟩ := blk5 R3.blk; have f0 := R3.blk.free 0; have f1 := R3.blk.free 1; have f2 := R3.blk.free 2; have f3 := R3.blk.free 3; have f4 := R3.blk.free 4)
                  | (go_at_call 113; (with_reducible refine (c3 _ (rd_put (H3 (by trivial)) 1 _)).mono ?_); rintro e w4 ⟨rfl, H4, F4⟩; have R4 := (R3.put1 _).call F4; clear R3 c3 F4 H3 p0 p1 p2 p3 p4 f0 f1 f2 f3 f4; obtain ⟨p0, p1, p2, p3, p4⟩ := blk5 R4.blk; have f0 := R4.blk.free 0; have f1 := R4.blk.free 1; have f2 := R4.blk.free 2; have f3 := R4.blk.free 3; have f4 := R4.blk.free 4)
                  | (go_at_call 113; refine (c4 _ (rd_put H4 2 _)).mono ?_; rintro e w5 ⟨rfl, H5, F5⟩; have R5 := (R4.put2 _).call F5; clear R4 c4 F5 H4 p0 p1 p2 p3 p4 f0 f1 f2 f3 f4; obtain ⟨p0, p1, p2, p3, p4⟩ := blk5 R5.blk; have f0 := R5.blk.free 0; have f1 := R5.blk.free 1; have f2 := R5.blk.free 2; have f3 := R5.blk.free 3; have f4 := R5.blk.free 4))
            have X := (R5.put3 (.int .u64 xr)).set5 (.slice a1 sp.length m1) (.slice a2 mk.length m2) (.int .u64 trig) (.int .u64 xr) (.bool false)
            refine bodyPost_ret (results_row2 rfl _ _ w.heap.size 56 #[.slice a1 sp.length m1, .slice a2 mk.length m2, .int .u64 trig, .int .u64 xr, .bool false] _ rfl X.blk Tryz.underlying56 rfl (by kernel_rfl)) rfl ?_
            exact fd_bad hE.out z4 X.fr
        · have hE := Lib.hid (hG3.out rfl rfl rfl z3)
          clear hG0 hG1 hG2 hG3 hG4 hG5 hg c4 c5
          go_enter Tryz.func89, Tryz.ntmps89
          go_wp2_with (first
                | (go_at_call 111; refine c0.mono ?_; rintro e w1 ⟨rfl, H1, F1⟩; have R1 := R0.call F1; clear R0 c0 F1)
                | (go_at_call 112; (with_reducible refine (c1 _ H1).mono ?_); rintro e w2 ⟨a1, m1, rfl, H2, i1, i2, i3, RI, F2⟩; have R2 := R1.row1 F2 RI; clear R1 c1 F2 RI H1; obtain ⟨p0, p1, p2, p3, p4⟩ := blk5 R2.blk; have f0 := R2.blk.free 0; have f1 := R2.blk.free 1; have f2 := R2.blk.free 2; have f3 := R2.blk.free 3; have f4 := R2.blk.free 4)
                | (go_at_call 112; refine (c2 _ (rd_put (H2 (by trivial)) 0 _)).mono ?_; rintro e w3 ⟨a2, m2, rfl, H3, j1, j2, j3, RJ, F3⟩; have R3 := (R2.put0 _).row2 F3 RJ; clear R2 c2 F3 RJ H2 p0 p1 p2 p3 p4 f0 f1 f2 f3 f4; obtain ⟨p0, p1, p2, p3, p4⟩ := blk5 R3.blk; have f0 := R3.blk.free 0; have f1 := R3.blk.free 1; have f2 := R3.blk.free 2; have f3 := R3.blk.free 3; have f4 := R3.blk.free 4)
                | (go_at_call 113; (with_reducible refine (c3 _ (rd_put (H3 (by trivial)) 1 _)).mono ?_); rintro e w4 ⟨rfl, H4, F4⟩; have R4 := (R3.put1 _).call F4; clear R3 c3 F4 H3 p0 p1 p2 p3 p4 f0 f1 f2 f3 f4; obtain ⟨p0, p1, p2, p3, p4⟩ := blk5 R4.blk; have f0 := R4.blk.free 0; have f1 := R4.blk.free 1; have f2 := R4.blk.free 2; have f3 := R4.blk.free 3; have f4 := R4.blk.free 4))
          have X := (R4.put2 (.int .u64 trig)).set5 (.slice a1 sp.length m1) (.slice a2 mk.length m2) (.int .u64 trig) (.int .u64 0) (.bool false)
          refine bodyPost_ret (results_row2 rfl _ _ w.heap.size 56 #[.slice a1 sp.length m1, .slice a2 mk.length m2, .int .u64 trig, .int .u64 0, .bool false] _ rfl X.blk Tryz.underlying56 rfl (by kernel_rfl)) rfl ?_
          exact fd_bad hE.out z3 X.fr
      · have hE := Lib.hid (hG2.out rfl rfl z2)
        clear hG0 hG1 hG2 hG3 hG4 hG5 hg c3 c4 c5
        go_enter Tryz.func89, Tryz.ntmps89
        go_wp2_with (first
              | (go_at_call 111; refine c0.mono ?_; rintro e w1 ⟨rfl, H1, F1⟩; have R1 := R0.call F1; clear R0 c0 F1)
              | (go_at_call 112; (with_reducible refine (c1 _ H1).mono ?_); rintro e w2 ⟨a1, m1, rfl, H2, i1, i2, i3, RI, F2⟩; have R2 := R1.row1 F2 RI; clear R1 c1 F2 RI H1; obtain ⟨p0, p1, p2, p3, p4⟩ := blk5 R2.blk; have f0 := R2.blk.free 0; have f1 := R2.blk.free 1; have f2 := R2.blk.free 2; have f3 := R2.blk.free 3; have f4 := R2.blk.free 4)
              | (go_at_call 112; refine (c2 _ (rd_put (H2 (by trivial)) 0 _)).mono ?_; rintro e w3 ⟨a2, m2, rfl, H3, j1, j2, j3, RJ, F3⟩; have R3 := (R2.put0 _).row2 F3 RJ; clear R2 c2 F3 RJ H2 p0 p1 p2 p3 p4 f0 f1 f2 f3 f4; obtain ⟨p0, p1, p2, p3, p4⟩ := blk5 R3.blk; have f0 := R3.blk.free 0; have f1 := R3.blk.free 1; have f2 := R3.blk.free 2; have f3 := R3.blk.free 3; have f4 := R3.blk.free 4))
        have X := (R3.put1 (.slice a2 mk.length m2)).set5 (.slice a1 sp.length m1) (.slice a2 mk.length m2) (.int .u64 0) (.int .u64 0) (.bool false)
        refine bodyPost_ret (results_row2 rfl _ _ w.heap.size 56 #[.slice a1 sp.length m1, .slice a2 mk.length m2, .int .u64 0, .int .u64 0, .bool false] _ rfl X.blk Tryz.underlying56 rfl (by kernel_rfl)) rfl ?_
        exact fd_bad hE.out z2 X.fr
    · have hE := Lib.hid (hG1.out rfl z1)
      clear hG0 hG1 hG2 hG3 hG4 hG5 hg c2 c3 c4 c5
      go_enter Tryz.func89, Tryz.ntmps89
      go_wp2_with (first
            | (go_at_call 111; refine c0.mono ?_; rintro e w1 ⟨rfl, H1, F1⟩; have R1 := R0.call F1; clear R0 c0 F1)
            | (go_at_call 112; (with_reducible refine (c1 _ H1).mono ?_); rintro e w2 ⟨a1, m1, rfl, H2, i1, i2, i3, RI, F2⟩; have R2 := R1.row1 F2 RI; clear R1 c1 F2 RI H1; obtain ⟨p0, p1, p2, p3, p4⟩ := blk5 R2.blk; have f0 := R2.blk.free 0; have f1 := R2.blk.free 1; have f2 := R2.blk.free 2; have f3 := R2.blk.free 3; have f4 := R2.blk.free 4))
      have X := (R2.put0 (.slice a1 sp.length m1)).set5 (.slice a1 sp.length m1) (.slice none 0 0) (.int .u64 0) (.int .u64 0) (.bool false)
      refine bodyPost_ret (results_row2 rfl _ _ w.heap.size 56 #[.slice a1 sp.length m1, .slice none 0 0, .int .u64 0, .int .u64 0, .bool false] _ rfl X.blk Tryz.underlying56 rfl (by kernel_rfl)) rfl ?_
      exact fd_bad hE.out z1 X.fr
  · have hE := Lib.hid (hG0.out  z0)
    clear hG0 hG1 hG2 hG3 hG4 hG5 hg c1 c2 c3 c4 c5
    go_enter Tryz.func89, Tryz.ntmps89
    go_wp2_with (first
          | (go_at_call 111; refine c0.mono ?_; rintro e w1 ⟨rfl, H1, F1⟩; have R1 := R0.call F1; clear R0 c0 F1; obtain ⟨p0, p1, p2, p3, p4⟩ := blk5 R1.blk; have f0 := R1.blk.free 0; have f1 := R1.blk.free 1; have f2 := R1.blk.free 2; have f3 := R1.blk.free 3; have f4 := R1.blk.free 4))
    have X := R1.set5 (.slice none 0 0) (.slice none 0 0) (.int .u64 0) (.int .u64 0) (.bool false)
    refine bodyPost_ret (results_row2 rfl _ _ w.heap.size 56 #[.slice none 0 0, .slice none 0 0, .int .u64 0, .int .u64 0, .bool false] _ rfl X.blk Tryz.underlying56 rfl (by kernel_rfl)) rfl ?_
    exact fd_bad hE.out z0 X.fr
end Go.Proofs.YtkiloaebokkjbaaGreat.Ack
