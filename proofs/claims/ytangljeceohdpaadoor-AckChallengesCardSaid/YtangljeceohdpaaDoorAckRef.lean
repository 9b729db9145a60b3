/-
  Contracts of the reference's small functions on acknowledgments.
-/
import Derived.Test.YtangljeceohdpaaDoorRows
import Derived.Test.YtangljeceohdpaaDoorAckStep
import Derived.Test.YtangljeceohdpaaDoorAckRow
import Derived.Test.YtangljeceohdpaaDoorOctRef
import Derived.Test.YtangljeceohdpaaDoorSpanOwn
import Derived.Test.YtangljeceohdpaaDoorSpanRef
import Derived.Test.YtangljeceohdpaaDoorSpanRef3
import Derived.Deep.Cut
import Derived.Laws.ResultCell
namespace Go.Proofs.YtangljeceohdpaaDoor.Ack
set_option linter.unusedVariables false
set_option maxRecDepth 20000
open Go.ChangeShapes Go.WideShapes Go.ChangeAt Go.RowKit
open Go.Proofs.YtangljeceohdpaaDoor.Base Go.Proofs.YtangljeceohdpaaDoor.OctPlain Go.Proofs.YtangljeceohdpaaDoor.Tab Go.Proofs.YtangljeceohdpaaDoor.Oct Go.Proofs.YtangljeceohdpaaDoor.SpanPlain Go.Proofs.YtangljeceohdpaaDoor.SpanRef
open Go.Proofs.YtangljeceohdpaaDoor.AckPlain (K putAck getAck getRow getSp putSp getNum comb Fit)

/-- A block of five cells. -/
theorem blk5 {w : World} {b : Nat} {v0 v1 v2 v3 v4 : Value} {T : TypeId} (h : Blk w b #[v0, v1, v2, v3, v4] T) :
    w.cell? ⟨b, 0, none⟩ = some v0 ∧ w.cell? ⟨b, 1, none⟩ = some v1 ∧ w.cell? ⟨b, 2, none⟩ = some v2 ∧ w.cell? ⟨b, 3, none⟩ = some v3 ∧ w.cell? ⟨b, 4, none⟩ = some v4 :=
  ⟨h.cell 0, h.cell 1, h.cell 2, h.cell 3, h.cell 4⟩
theorem ref_same_ack (x : K) (a1 b1 a2 b2 : Option Addr) (n1 c1 m1 d1 n2 c2 m2 d2 : Nat) (w : World) (hn1 : x.spans.length = n1) (hn2 : x.spans.length = n2) (hm1 : x.marked.length = m1) (hm2 : x.marked.length = m2)
    (hs : x.spans.length ≤ 140737488355328) (ht : x.marked.length ≤ 140737488355328) (h1 : Spans w a1 x.spans) (h2 : Spans w b1 x.marked) (h3 : Spans w a2 x.spans) (h4 : Spans w b2 x.marked) :
    Calls Tryd.prog 15 #[.agg #[.slice a1 n1 c1, .slice b1 m1 d1, .int .u64 x.trigger, .int .u64 x.xor, .bool x.parity], .agg #[.slice a2 n2 c2, .slice b2 m2 d2, .int .u64 x.trigger, .int .u64 x.xor, .bool x.parity]] w fun e w' => e = .returned (.bool true) ∧ Below w.heap.size w w' := by
  have C1 := fun W z y => SpanRef.same_any a1 a2 n1 n2 c1 c2 x.spans x.spans W hn1 hn2 (by omega) (by omega) z y
  have C2 := fun W z y => SpanRef.same_any b1 b2 m1 m2 d1 d2 x.marked x.marked W hm1 hm2 (by omega) (by omega) z y
  rw [decide_eq_true rfl] at C1 C2
  have hB1 := (Blk.new w #[.slice a1 n1 c1, .slice b1 m1 d1, .int .u64 x.trigger, .int .u64 x.xor, .bool x.parity] 25).alloc (.cells #[.slice a2 n2 c2, .slice b2 m2 d2, .int .u64 x.trigger, .int .u64 x.xor, .bool x.parity] 25)
  have hB2 := Blk.new (w.alloc (.cells #[.slice a1 n1 c1, .slice b1 m1 d1, .int .u64 x.trigger, .int .u64 x.xor, .bool x.parity] 25)) #[.slice a2 n2 c2, .slice b2 m2 d2, .int .u64 x.trigger, .int .u64 x.xor, .bool x.parity] 25
  have hL : Below w.heap.size w ((w.alloc (.cells #[.slice a1 n1 c1, .slice b1 m1 d1, .int .u64 x.trigger, .int .u64 x.xor, .bool x.parity] 25)).alloc (.cells #[.slice a2 n2 c2, .slice b2 m2 d2, .int .u64 x.trigger, .int .u64 x.xor, .bool x.parity] 25)) := ((Below.refl _ _).alloc (Nat.le_refl _) _).alloc (by simp) _
  rw [World.size_alloc] at hB2
  clear hn1 hn2 hm1 hm2
  go_enter Tryd.func15, Tryd.ntmps15
  go_upto_region 1 with fail
  generalize (w.alloc (.cells #[.slice a1 n1 c1, .slice b1 m1 d1, .int .u64 x.trigger, .int .u64 x.xor, .bool x.parity] 25)).alloc (.cells #[.slice a2 n2 c2, .slice b2 m2 d2, .int .u64 x.trigger, .int .u64 x.xor, .bool x.parity] 25) = W at hB1 hB2 hL ⊢
  obtain ⟨p0, p1, p2, p3, p4⟩ := blk5 hB1
  obtain ⟨q0, q1, q2, q3, q4⟩ := blk5 hB2
  go_wp2_with (first
    | (go_at_call 34; (with_reducible refine (C1 W (h1.below hL) (h3.below hL)).mono ?_); rintro e w1 ⟨rfl, L1⟩; clear C1 p0 p1 p2 p3 p4 q0 q1 q2 q3 q4; have M1 := Base.next hL L1; have hC1 := hB1.below L1 hB1.lt; have hC2 := hB2.below L1 hB2.lt; clear hB1 hB2; obtain ⟨p0, p1, p2, p3, p4⟩ := blk5 hC1; obtain ⟨q0, q1, q2, q3, q4⟩ := blk5 hC2)
    | (go_at_call 34; refine (C2 w1 (h2.below M1) (h4.below M1)).mono ?_; rintro e w2 ⟨rfl, L2⟩; clear C2 p0 p1 p2 p3 p4 q0 q1 q2 q3 q4; have M2 := Base.next M1 L2; have hD1 := hC1.below L2 hC1.lt; have hD2 := hC2.below L2 hC2.lt; clear hC1 hC2; obtain ⟨p0, p1, p2, p3, p4⟩ := blk5 hD1; obtain ⟨q0, q1, q2, q3, q4⟩ := blk5 hD2))
  all_goals go_ret
  all_goals exact ⟨by simp, M2⟩
theorem ref_getnum (a : Option Addr) (n cap : Nat) (l : List Int) (w : World) (hn : l.length = n) (hc : n ≤ cap) (hr : n ≤ 140737488355328) (hb : Bytes l) (hz : Ints .u8 w a l) :
    Calls Tryd.prog 19 #[.slice a n cap] w fun e w' => e = .returned (.tuple #[.int .u64 (getNum l).1, .int .i64 (getNum l).2]) ∧ w = w' := by
  cases l with
  | nil =>
    obtain rfl : n = 0 := hn.symm
    rw [getNum]
    go_enter Tryd.func19, Tryd.ntmps19
    go_wp2
    all_goals go_ret2
    all_goals exact ⟨rfl, rfl⟩
  | cons x q =>
    obtain ⟨g, go, rfl, hgl, cx⟩ := hz 0 (.int .u8 x) rfl
    have cx' : w.cell? ⟨g, go, none⟩ = some (.int .u8 x) := cx
    clear cx
    have hlq : q.length + 1 = n := hn
    have C := ref_num_at (some ⟨g, go, none⟩) n cap 1 1 (x :: q) w hn rfl (by omega) hr hb hz
    rw [show (x :: q).drop 1 = q from rfl] at C
    have hk := num_len q
    have hD : q.drop (num q).2.1 ≠ [] ↔ ((num q).2.1 : Int) + 1 < (n : Int) := by
      rw [ne_eq, List.drop_eq_nil_iff]
      omega
    have HG := Lib.hid (show getNum (x :: q) = if x ≠ 3 then (0, 4) else if (num q).2.2 ≠ 0 then (0, (num q).2.2) else if ((num q).2.1 : Int) + 1 < (n : Int) then (0, 3) else ((num q).1, 0) by
      rw [getNum]
      simp only [hD])
    have hk' : ((num q).2.1 : Int) + 1 ≤ (n : Int) := by omega
    have hbd := num_bd hb.tail
    rw [show ((1 : Nat) : Int) + ((num q).2.1 : Int) = 1 + ((num q).2.1 : Int) by omega] at C
    generalize (num q).1 = v at *
    generalize (num q).2.1 = k at *
    generalize (num q).2.2 = er at *
    clear hD hk hlq hn
    have hn1 : (1 : Int) ≤ (n : Int) := by omega
    go_enter Tryd.func19, Tryd.ntmps19
    go_wp2_with (go_at_call 40; refine C.mono ?_; rintro e w' ⟨rfl, rfl⟩)
    all_goals go_ret2
    all_goals refine ⟨?_, rfl⟩
    all_goals rw [HG.out]
    · rw [if_pos (by simpa using (show (x != 3) = true by assumption))]
      rfl
    · rw [if_neg (by simpa using (show (x != 3) = false by assumption)), if_pos (by simpa using (show (er != 0) = true by assumption))]
      rfl
    · rw [if_neg (by simpa using (show (x != 3) = false by assumption)), if_neg (by simpa using (show (er != 0) = false by assumption)), if_pos (by omega)]
      rfl
    · rw [if_neg (by simpa using (show (x != 3) = false by assumption)), if_neg (by simpa using (show (er != 0) = false by assumption)), if_neg (by omega)]
      rfl
theorem ref_may_ack (x : K) (a b : Option Addr) (n c m d : Nat) (w : World) (hn : x.spans.length = n) (hm : x.marked.length = m) (hn' : n ≤ 9223372036854775807) (hm' : m ≤ 9223372036854775807) (hf : Fits x.spans) (hg : Fits x.marked) (hs : Spans w a x.spans) (ht : Spans w b x.marked) :
    Calls Tryd.prog 10 #[.agg #[.slice a n c, .slice b m d, .int .u64 x.trigger, .int .u64 x.xor, .bool x.parity]] w fun e w' => e = .returned (.bool (AckPlain.may x)) ∧ Below w.heap.size w w' := by
  have hE := Lib.hid (show AckPlain.may x = (decide (1 ≤ (n : Int)) && decide ((n : Int) ≤ 32) && decide ((m : Int) ≤ 32) && good x.spans && good x.marked && inside x.marked x.spans) by unfold AckPlain.may; rw [hn, hm])
  have G1 := fun W h z => SpanRef.ref_good a n c x.spans W hn h hf z
  have G2 := fun W h z => SpanRef.ref_good b m d x.marked W hm h hg z
  have G3 := fun W h1 h2 z y => SpanRef.ref_inside b a m n d c x.marked x.spans W hm hn h1 h2 z y
  have hB := Blk.new w #[.slice a n c, .slice b m d, .int .u64 x.trigger, .int .u64 x.xor, .bool x.parity] 25
  have hL : Below w.heap.size w (w.alloc (.cells #[.slice a n c, .slice b m d, .int .u64 x.trigger, .int .u64 x.xor, .bool x.parity] 25)) := (Below.refl _ _).alloc (Nat.le_refl _) _
  generalize AckPlain.may x = v at *
  generalize good x.spans = g1 at *
  generalize good x.marked = g2 at *
  generalize inside x.marked x.spans = g3 at *
  clear hn hm
  go_enter Tryd.func10, Tryd.ntmps10
  go_upto_region 1 with fail
  generalize w.alloc (.cells #[.slice a n c, .slice b m d, .int .u64 x.trigger, .int .u64 x.xor, .bool x.parity] 25) = W at hB hL ⊢
  obtain ⟨p0, p1, p2, p3, p4⟩ := blk5 hB
  by_cases h1 : (1 : Int) ≤ (n : Int) ∧ (n : Int) ≤ 32 ∧ (m : Int) ≤ 32
  · obtain ⟨h1, h2, h3⟩ := h1
    rw [decide_eq_true h1, decide_eq_true h2, decide_eq_true h3] at hE
    cases g1
    all_goals go_wp2_with (first
      | (go_at_call 24; (with_reducible refine (G1 W (by omega) (hs.below hL)).mono ?_); rintro e w1 ⟨rfl, L1⟩; clear G1 p0 p1 p2 p3 p4; have M1 := Base.next hL L1; have B1 := hB.below L1 hB.lt; clear hB; obtain ⟨p0, p1, p2, p3, p4⟩ := blk5 B1; cases g2)
      | (go_at_call 24; refine (G2 w1 (by omega) (ht.below M1)).mono ?_; rintro e w2 ⟨rfl, L2⟩; clear G2 p0 p1 p2 p3 p4; have M2 := Base.next M1 L2; have B2 := B1.below L2 B1.lt; clear B1; obtain ⟨p0, p1, p2, p3, p4⟩ := blk5 B2)
      | (go_at_call 25; refine (G3 w2 (by omega) (by omega) (ht.below M2) (hs.below M2)).mono ?_; rintro e w3 ⟨rfl, L3⟩; clear G3; have M3 := Base.next M2 L3))
    all_goals go_ret
    all_goals first
      | exact ⟨Base.ret_bool (by rw [hE.out]; simp), M3⟩
      | exact ⟨Base.ret_bool (by rw [hE.out]; simp), M2⟩
      | exact ⟨Base.ret_bool (by rw [hE.out]; simp), M1⟩
  · have hv : (decide (1 ≤ (n : Int)) && decide ((n : Int) ≤ 32) && decide ((m : Int) ≤ 32)) = false := by
      rw [Bool.eq_false_iff]
      intro h
      simp only [Bool.and_eq_true, decide_eq_true_eq] at h
      exact h1 ⟨h.1.1, h.1.2, h.2⟩
    have hv' : v = false := by rw [hE.out, hv]; rfl
    subst hv'
    clear hE hv G1 G2 G3
    go_wp2
    all_goals first
      | (go_ret; exact ⟨rfl, hL⟩)
      | (exfalso; omega)
end Go.Proofs.YtangljeceohdpaaDoor.Ack
