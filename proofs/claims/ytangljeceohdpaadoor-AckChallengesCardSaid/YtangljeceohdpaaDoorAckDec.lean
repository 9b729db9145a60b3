/-
  Contracts of ack.May, Decode, Number.
-/
import Derived.Test.YtangljeceohdpaaDoorAckGet
import Derived.Test.YtangljeceohdpaaDoorSpan2
namespace Go.Proofs.YtangljeceohdpaaDoor.Ack
set_option linter.unusedVariables false
set_option maxRecDepth 20000
open Go.ChangeShapes Go.WideShapes Go.ChangeAt Go.RowKit
open Go.Proofs.YtangljeceohdpaaDoor.Base Go.Proofs.YtangljeceohdpaaDoor.OctPlain Go.Proofs.YtangljeceohdpaaDoor.Tab Go.Proofs.YtangljeceohdpaaDoor.Oct Go.Proofs.YtangljeceohdpaaDoor.SpanPlain
open Go.Proofs.YtangljeceohdpaaDoor.AckPlain (K putAck getAck getRow getSp putSp getNum comb Fit)

theorem may_any (x : K) (a b : Option Addr) (n c m d : Nat) (w : World) (hn : x.spans.length = n) (hm : x.marked.length = m) (hn' : n ≤ 9223372036854775807) (hm' : m ≤ 9223372036854775807) (hf : Fits x.spans) (hg : Fits x.marked) (hs : Spans w a x.spans) (ht : Spans w b x.marked) :
    Calls Tryd.prog 11 #[.agg #[.slice a n c, .slice b m d, .int .u64 x.trigger, .int .u64 x.xor, .bool x.parity]] w fun e w' => e = .returned (.bool (AckPlain.may x)) ∧ Below w.heap.size w w' := by
  have hE := Lib.hid (show AckPlain.may x = (decide (1 ≤ (n : Int)) && decide ((n : Int) ≤ 32) && decide ((m : Int) ≤ 32) && (good x.marked && good x.spans && inside x.marked x.spans)) by
    unfold AckPlain.may; rw [hn, hm, Bool.eq_iff_iff]; simp only [Bool.and_eq_true, decide_eq_true_eq]
    constructor
    · rintro ⟨⟨⟨⟨⟨h1, h2⟩, h3⟩, h4⟩, h5⟩, h6⟩; exact ⟨⟨⟨h1, h2⟩, h3⟩, ⟨h5, h4⟩, h6⟩
    · rintro ⟨⟨⟨h1, h2⟩, h3⟩, ⟨h5, h4⟩, h6⟩; exact ⟨⟨⟨⟨⟨h1, h2⟩, h3⟩, h4⟩, h5⟩, h6⟩)
  have G := fun W h1 h2 z y => Span.within_any b a m n d c x.marked x.spans W hm hn h1 h2 hg hf z y
  have hB := Blk.new w #[.slice a n c, .slice b m d, .int .u64 x.trigger, .int .u64 x.xor, .bool x.parity] 25
  have hL : Below w.heap.size w (w.alloc (.cells #[.slice a n c, .slice b m d, .int .u64 x.trigger, .int .u64 x.xor, .bool x.parity] 25)) := (Below.refl _ _).alloc (Nat.le_refl _) _
  generalize AckPlain.may x = v at *
  generalize (good x.marked && good x.spans && inside x.marked x.spans) = g at *
  clear hn hm
  go_enter Tryd.func11, Tryd.ntmps11
  go_upto_region 1 with fail
  generalize w.alloc (.cells #[.slice a n c, .slice b m d, .int .u64 x.trigger, .int .u64 x.xor, .bool x.parity] 25) = W at hB hL ⊢
  obtain ⟨p0, p1, p2, p3, p4⟩ := blk5 hB
  by_cases h1 : (1 : Int) ≤ (n : Int) ∧ (n : Int) ≤ 32 ∧ (m : Int) ≤ 32
  · obtain ⟨h1, h2, h3⟩ := h1
    rw [decide_eq_true h1, decide_eq_true h2, decide_eq_true h3] at hE
    go_wp2_with (go_at_call 26; refine (G W (by omega) (by omega) (ht.below hL) (hs.below hL)).mono ?_; rintro e w3 ⟨rfl, L3⟩; clear G; have M3 := Base.next hL L3)
    all_goals go_ret
    all_goals exact ⟨Base.ret_bool (by rw [hE.out]; simp), M3⟩
  · have hv : (decide (1 ≤ (n : Int)) && decide ((n : Int) ≤ 32) && decide ((m : Int) ≤ 32)) = false := by
      rw [Bool.eq_false_iff]
      intro h
      simp only [Bool.and_eq_true, decide_eq_true_eq] at h
      exact h1 ⟨h.1.1, h.1.2, h.2⟩
    have hv' : v = false := by rw [hE.out, hv]; rfl
    subst hv'
    clear hE hv G
    go_wp2
    all_goals first
      | (go_ret; exact ⟨rfl, hL⟩)
      | (exfalso; omega)
theorem number_any (a : Option Addr) (n cap : Nat) (l : List Int) (w : World) (hn : l.length = n) (hc : n ≤ cap) (hr : n ≤ 140737488355328) (h0 : a = none → n = 0 ∧ cap = 0) (hb : Bytes l) (hz : Ints .u8 w a l) :
    Calls Tryd.prog 18 #[.slice a n cap] w fun e w' => e = .returned (.tuple #[.int .u64 (getNum l).1, .int .i64 (getNum l).2]) ∧ Below w.heap.size w w' := by
  have hlr : l.length ≤ 140737488355328 := by omega
  have C0 := new_any a n cap l w hn hc hr h0 hz
  have C1 := fun S W b (H : Rd S W b l) => kind_any H hlr 3
  have C2 := fun S W b (H : Rd S W b (l.drop 1)) => num_any H (hb.drop 1) (by rw [List.length_drop]; omega)
  have C3 := fun S W b (H : Rd S W b ((l.drop 1).drop (num (l.drop 1)).2.1)) => left_any H
  have hB : ∀ {w1 w2 : World} {b : Nat}, Below w.heap.size w w1 → w.heap.size ≤ b → Fr (fun k => k = b) w1 w2 → Below w.heap.size w w2 := fun hL hb hF => hF.below hL hL.size (by rintro k rfl; exact hb)
  cases l with
  | nil =>
    rw [getNum]
    go_enter Tryd.func18, Tryd.ntmps18
    go_wp2_with (first
      | (go_at_call 29; refine C0.mono ?_; rintro e w1 ⟨b, rfl, H1, L1⟩; have hbn := H1.1.1; clear C0)
      | (go_at_call 38; refine (C1 _ _ _ H1).mono ?_; rintro e w2 ⟨rfl, H2, F2⟩; have L2 := hB L1 hbn F2; clear C1; simp only [kindE]))
    all_goals go_ret2
    all_goals exact ⟨rfl, L2⟩
  | cons x q =>
    have hk : kindE 3 (x :: q) = if x = 3 then 0 else 4 := rfl
    have hG : getNum (x :: q) = if x ≠ 3 then (0, 4) else if (num q).2.2 ≠ 0 then (0, (num q).2.2) else if q.drop (num q).2.1 ≠ [] then (0, 3) else ((num q).1, 0) := rfl
    simp only [List.drop_succ_cons, List.drop_zero] at C1 C2 C3
    by_cases hx : x = 3
    · rw [if_pos hx] at hk
      rw [if_neg (by simp [hx])] at hG
      rw [hk] at C1
      generalize getNum (x :: q) = G at hG ⊢
      generalize q.drop (num q).2.1 = r at *
      generalize (num q).1 = v at *
      generalize (num q).2.2 = er at *
      clear hk hn
      by_cases he : er = 0
      · subst he
        rw [if_neg (by simp)] at hG
        cases r with
        | nil =>
          rw [if_neg (by simp)] at hG
          subst hG
          go_enter Tryd.func18, Tryd.ntmps18
          go_wp2_with (first
            | (go_at_call 29; refine C0.mono ?_; rintro e w1 ⟨b, rfl, H1, L1⟩; have hbn := H1.1.1; clear C0)
            | (go_at_call 38; refine (C1 _ _ _ H1).mono ?_; rintro e w2 ⟨rfl, H2, F2⟩; have L2 := hB L1 hbn F2; clear C1)
            | (go_at_call 39; refine (C2 _ _ _ H2).mono ?_; rintro e w3 ⟨rfl, H3, F3⟩; have L3 := hB L2 hbn F3; clear C2)
            | (go_at_call 31; refine (C3 _ _ _ H3).mono ?_; rintro e w' ⟨rfl, rfl⟩))
          all_goals go_ret2
          all_goals exact ⟨rfl, L3⟩
        | cons y r =>
          rw [if_pos (by simp)] at hG
          subst hG
          have hlen : (0 : Int) < ((y :: r).length : Int) := by rw [List.length_cons]; omega
          generalize (y :: r).length = len at *
          go_enter Tryd.func18, Tryd.ntmps18
          go_wp2_with (first
            | (go_at_call 29; refine C0.mono ?_; rintro e w1 ⟨b, rfl, H1, L1⟩; have hbn := H1.1.1; clear C0)
            | (go_at_call 38; refine (C1 _ _ _ H1).mono ?_; rintro e w2 ⟨rfl, H2, F2⟩; have L2 := hB L1 hbn F2; clear C1)
            | (go_at_call 39; refine (C2 _ _ _ H2).mono ?_; rintro e w3 ⟨rfl, H3, F3⟩; have L3 := hB L2 hbn F3; clear C2)
            | (go_at_call 31; refine (C3 _ _ _ H3).mono ?_; rintro e w' ⟨rfl, rfl⟩))
          all_goals go_ret2
          all_goals exact ⟨rfl, L3⟩
      · rw [if_pos he] at hG
        subst hG
        go_enter Tryd.func18, Tryd.ntmps18
        go_wp2_with (first
          | (go_at_call 29; refine C0.mono ?_; rintro e w1 ⟨b, rfl, H1, L1⟩; have hbn := H1.1.1; clear C0)
          | (go_at_call 38; refine (C1 _ _ _ H1).mono ?_; rintro e w2 ⟨rfl, H2, F2⟩; have L2 := hB L1 hbn F2; clear C1)
          | (go_at_call 39; refine (C2 _ _ _ H2).mono ?_; rintro e w3 ⟨rfl, H3, F3⟩; have L3 := hB L2 hbn F3; clear C2))
        all_goals go_ret2
        all_goals exact ⟨rfl, L3⟩
    · rw [if_neg hx] at hk
      rw [if_pos hx] at hG
      rw [hk] at C1
      rw [hG]
      clear hk hG hn C2 C3
      go_enter Tryd.func18, Tryd.ntmps18
      go_wp2_with (first
        | (go_at_call 29; refine C0.mono ?_; rintro e w1 ⟨b, rfl, H1, L1⟩; have hbn := H1.1.1; clear C0)
        | (go_at_call 38; refine (C1 _ _ _ H1).mono ?_; rintro e w2 ⟨rfl, H2, F2⟩; have L2 := hB L1 hbn F2; clear C1))
      all_goals go_ret2
      all_goals exact ⟨rfl, L2⟩
/-- A result of Decode that is none. -/
theorem ack_none {w w' : World} {l : List Int} {er : Int} (h : getAck l = (AckPlain.zero, er)) (hL : Below w.heap.size w w') : AckPost w l (.returned (.tuple #[.agg #[.slice none 0 0, .slice none 0 0, .int .u64 0, .int .u64 0, .bool false], .int .i64 er])) w' := by
  unfold AckPost
  rw [h]
  exact ⟨none, 0, 0, none, 0, 0, rfl, ⟨rfl, Nat.le_refl _, Nat.zero_le _, (fun _ => ⟨rfl, rfl⟩), RowIn.nil _ _ _⟩, ⟨rfl, Nat.le_refl _, Nat.zero_le _, (fun _ => ⟨rfl, rfl⟩), RowIn.nil _ _ _⟩, hL⟩
set_option maxHeartbeats 1000000 in
theorem decode_any (a : Option Addr) (n cap : Nat) (l : List Int) (w : World) (hn : l.length = n) (hc : n ≤ cap) (hr : n ≤ 140737488355328) (h0 : a = none → n = 0 ∧ cap = 0) (hb : Bytes l) (hz : Ints .u8 w a l) :
    Calls Tryd.prog 13 #[.slice a n cap] w (AckPost w l) := by
  have hlr : l.length ≤ 140737488355328 := by omega
  have C0 := new_any a n cap l (w.alloc (.cells #[.slice none 0 0, .slice none 0 0, .int .u64 0, .int .u64 0, .bool false] 25)) hn hc hr h0 (Row.alloc hz _)
  have C1 := fun S W b (H : Rd S W b l) => fields_any H hb hlr
  have B0 := Blk.new w #[.slice none 0 0, .slice none 0 0, .int .u64 0, .int .u64 0, .bool false] 25
  have L0 : Below w.heap.size w (w.alloc (.cells #[.slice none 0 0, .slice none 0 0, .int .u64 0, .int .u64 0, .bool false] 25)) := (Below.refl _ _).alloc (Nat.le_refl _) _
  clear hn hz
  go_enter Tryd.func13, Tryd.ntmps13
  go_upto_region 1 with fail
  generalize hW : w.alloc (.cells #[.slice none 0 0, .slice none 0 0, .int .u64 0, .int .u64 0, .bool false] 25) = W at *
  go_upto_region 3 with (first
    | (go_at_call 29; refine C0.mono ?_; rintro e w1 ⟨b, rfl, H1, L1⟩; have B1 := B0.below L1 B0.lt; have M1 := Base.next L0 L1; have hbn := H1.1.1; clear C0)
    | (go_at_call 30; refine (C1 _ _ _ H1).mono ?_; rintro e w2 ⟨a1, n1, c1, a2, n2, c2, trig, xr, par, er, rfl, F2, X1, X2⟩))
  have hWs : W.heap.size = w.heap.size + 1 := by rw [← hW]; simp
  have hs1 := L1.size
  have hs2 := F2.size
  have hs2' := (B1.kept F2 (by omega)).lt
  obtain ⟨g, hg⟩ : ∃ g, w2.heap.size = g := ⟨_, rfl⟩
  have hgr : ¬ g = w.heap.size := by omega
  have hrg : ¬ w.heap.size = g := by omega
  have P5 := Blk.new w2 #[.slice a1 n1 c1, .slice a2 n2 c2, .int .u64 trig, .int .u64 xr, .bool par] 25
  have Pr := (B1.kept F2 (by omega)).alloc (.cells #[.slice a1 n1 c1, .slice a2 n2 c2, .int .u64 trig, .int .u64 xr, .bool par] 25)
  have M2 : Below w.heap.size w w2 := F2.below M1 M1.size (by rintro k rfl; omega)
  have M3 : Below w.heap.size w (w2.alloc (.cells #[.slice a1 n1 c1, .slice a2 n2 c2, .int .u64 trig, .int .u64 xr, .bool par] 25)) := M2.alloc M2.size _
  have LA : Below w2.heap.size w2 (w2.alloc (.cells #[.slice a1 n1 c1, .slice a2 n2 c2, .int .u64 trig, .int .u64 xr, .bool par] 25)) := (Below.refl _ _).alloc (Nat.le_refl _) _
  rw [hg] at P5 ⊢
  generalize w2.alloc (.cells #[.slice a1 n1 c1, .slice a2 n2 c2, .int .u64 trig, .int .u64 xr, .bool par] 25) = w3 at P5 Pr M3 LA ⊢
  obtain ⟨p0, p1, p2, p3, p4⟩ := blk5 P5
  obtain ⟨r0, r1, r2, r3, r4⟩ := blk5 Pr
  have f0 := Pr.free 0
  have f1 := Pr.free 1
  have f2 := Pr.free 2
  have f3 := Pr.free 3
  have f4 := Pr.free 4
  clear C1 B0 L0 H1 B1 M1 L1 F2 hb hlr
  by_cases z : er = 0
  · subst z
    obtain ⟨sp, mk, r, hG, hR, g1, g2, ⟨i1, i2, i3, i4, i5, i6⟩, j1, j2, j3, j4, j5, j6⟩ := X2 rfl
    clear X1 X2
    have hR3 := hR.below LA (fun k hk => by omega)
    have CL := left_any hR3
    by_cases hr0 : r = []
    · subst hr0
      rw [if_neg (by simp)] at hG
      have CW := Span.within_any a2 a1 n2 n1 c2 c1 mk sp w3 j1 i1 (by omega) (by omega) (Fits.of_good g2) (Fits.of_good g1) (Row.below j6.row LA) (Row.below i6.row LA)
      rw [g2, g1] at CW
      cases hi : inside mk sp with
      | false =>
        rw [hi] at hG CW
        have hE := Lib.hid hG
        clear hG i1 j1 hi
        go_wp2_with (first
          | (go_at_call 31; refine CL.mono ?_; rintro e w' ⟨rfl, rfl⟩)
          | (go_at_call 26; refine CW.mono ?_; rintro e w4 ⟨rfl, L4⟩; have B4 := Pr.below L4 Pr.lt; have M4 := Base.next M3 L4; clear p0 p1 p2 p3 p4 r0 r1 r2 r3 r4 f0 f1 f2 f3 f4; obtain ⟨r0, r1, r2, r3, r4⟩ := blk5 B4; have f0 := B4.free 0; have f1 := B4.free 1; have f2 := B4.free 2; have f3 := B4.free 3; have f4 := B4.free 4))
        refine bodyPost_ret (results_row2 rfl _ _ w.heap.size 25 #[.slice none 0 0, .slice none 0 0, .int .u64 0, .int .u64 0, .bool false] _ rfl (set5_blk B4 _ _ _ _ _) Tryd.underlying25 rfl (by kernel_rfl)) rfl ?_
        exact ack_none (by rw [hE.out]; rfl) ((set5_fr _ _ _ _ _ _ _).below M4 M4.size (by rintro k rfl; exact Nat.le_refl _))
      | true =>
        rw [hi] at hG CW
        have hE := Lib.hid hG
        have hi1 := Lib.hid i1
        have hj1 := Lib.hid j1
        clear hG i1 j1 hi
        go_wp2_with (first
          | (go_at_call 31; refine CL.mono ?_; rintro e w' ⟨rfl, rfl⟩)
          | (go_at_call 26; refine CW.mono ?_; rintro e w4 ⟨rfl, L4⟩; have B4 := Pr.below L4 Pr.lt; have B5 := P5.below L4 P5.lt; have M4 := Base.next M3 L4; clear p0 p1 p2 p3 p4 r0 r1 r2 r3 r4 f0 f1 f2 f3 f4; obtain ⟨r0, r1, r2, r3, r4⟩ := blk5 B4; obtain ⟨p0, p1, p2, p3, p4⟩ := blk5 B5; have f0 := B4.free 0; have f1 := B4.free 1; have f2 := B4.free 2; have f3 := B4.free 3; have f4 := B4.free 4))
        refine bodyPost_ret (results_row2 rfl _ _ w.heap.size 25 #[.slice a1 n1 c1, .slice a2 n2 c2, .int .u64 trig, .int .u64 xr, .bool par] _ rfl (set5_blk B4 _ _ _ _ _) Tryd.underlying25 rfl (by kernel_rfl)) rfl ?_
        have F := set5_fr w4 w.heap.size (.slice a1 n1 c1) (.slice a2 n2 c2) (.int .u64 trig) (.int .u64 xr) (.bool par)
        unfold AckPost
        rw [hE.out]
        exact ⟨a1, n1, c1, a2, n2, c2, rfl,
          ⟨hi1.out, i3, i4, i5, ((rowIn_under (rowIn_under i6 LA) L4).kept F (fun k hk e => by omega)).mono (fun k _ hk => by omega)⟩,
          ⟨hj1.out, j3, j4, j5, ((rowIn_under (rowIn_under j6 LA) L4).kept F (fun k hk e => by omega)).mono (fun k _ hk => by omega)⟩, F.below M4 M4.size (by rintro k rfl; exact Nat.le_refl _)⟩
    · rw [if_pos hr0] at hG
      have hlen : (0 : Int) < (r.length : Int) := by cases r with | nil => exact absurd rfl hr0 | cons y r => rw [List.length_cons]; omega
      generalize r.length = len at *
      have hE := Lib.hid hG
      clear hG i1 j1 hr0
      go_wp2_with (go_at_call 31; refine CL.mono ?_; rintro e w' ⟨rfl, rfl⟩)
      refine bodyPost_ret (results_row2 rfl _ _ w.heap.size 25 #[.slice none 0 0, .slice none 0 0, .int .u64 0, .int .u64 0, .bool false] _ rfl (set5_blk Pr _ _ _ _ _) Tryd.underlying25 rfl (by kernel_rfl)) rfl ?_
      exact ack_none hE.out ((set5_fr _ _ _ _ _ _ _).below M3 M3.size (by rintro k rfl; exact Nat.le_refl _))
  · have hE := Lib.hid (X1 z)
    clear X1 X2
    go_wp2
    refine bodyPost_ret (results_row2 rfl _ _ w.heap.size 25 #[.slice none 0 0, .slice none 0 0, .int .u64 0, .int .u64 0, .bool false] _ rfl (set5_blk Pr _ _ _ _ _) Tryd.underlying25 rfl (by kernel_rfl)) rfl ?_
    exact ack_none hE.out ((set5_fr _ _ _ _ _ _ _).below M3 M3.size (by rintro k rfl; exact Nat.le_refl _))
end Go.Proofs.YtangljeceohdpaaDoor.Ack
