/-
  Contract of the reference's CheckAck.
-/
import Derived.Test.YtlnncfjfphkkdaaProofRef
set_option linter.unusedSimpArgs false
set_option linter.unusedVariables false
namespace Go.Proofs.Ytlnncfjfphkkdaa.Led
set_option linter.unusedVariables false
set_option maxRecDepth 20000
open Go.ChangeShapes Go.WideShapes Go.ChangeAt Go.RowKit
open Go.Proofs.Ytlnncfjfphkkdaa.Base Go.Proofs.Ytlnncfjfphkkdaa.LedPlain Go.Proofs.Ytlnncfjfphkkdaa.SpanPlain Go.Proofs.Ytlnncfjfphkkdaa.SpanRef
open Go.Proofs.Ytlnncfjfphkkdaa.AckPlain (K)

set_option maxHeartbeats 4000000 in
theorem ref_check_ack {S : Nat → Prop} {w : World} {b : Nat} {g : Lg} (h : Rf S w b g) (x : K) (p q : Option Addr) (n c m d : Nat) (hn : x.spans.length = n) (hm : x.marked.length = m) (hn' : n ≤ 9223372036854775807) (hm' : m ≤ 9223372036854775807) (hf : Fits x.spans) (hg : Fits x.marked) (hs : Spans w p x.spans) (ht : Spans w q x.marked) :
    Calls Try.prog 15 #[.pointer (some ⟨b, 0, none⟩), .agg #[.slice p n c, .slice q m d, .int .u64 x.trigger, .int .u64 x.xor, .bool x.parity]] w fun e w' => e = .returned (.tuple #[.int .i64 (checkG g x).1, .int .u64 (checkG g x).2]) ∧ Below w.heap.size w w' := by
  have hlow := low_le g
  have hnl : (g.l.length : Int) ≤ 4611686018427387904 := by have := h.ok.n1; have := h.ok.l1; omega
  generalize hres : checkG g x = res
  obtain ⟨r0, r1⟩ := res
  replace hres := Lib.hid hres
  go_enter Try.func15, Try.ntmps15
  go_upto_region 1 with fail
  refine some_world ?_
  intro V hV
  obtain ⟨hB, hL⟩ : Blk V w.heap.size #[.slice p n c, .slice q m d, .int .u64 x.trigger, .int .u64 x.xor, .bool x.parity] 37 ∧ Below w.heap.size w V := by
    subst hV
    exact ⟨Blk.new _ _ _, (Below.refl _ _).alloc (Nat.le_refl _) _⟩
  clear hV
  have hR := h.below hL
  have hs1 : Spans V p x.spans := Row.below hs hL
  have ht1 : Spans V q x.marked := Row.below ht hL
  have CM := AckMay.ref_may_ack x p q n c m d V hn hm (by omega) (by omega) hf hg hs1 ht1
  obtain ⟨z0, z1, z2, z3, z4⟩ := AckMay.blk5 hB
  cases hmay : AckPlain.may x with
  | false =>
    have hv : checkG g x = (1, 0) := by unfold checkG; rw [if_pos hmay]
    rw [hres.out] at hv
    injection hv with hv1 hv2
    subst hv1
    subst hv2
    rw [hmay] at CM
    go_wp2_with (go_at_call 53; refine CM.mono ?_; rintro e u1 ⟨rfl, L1⟩; have M1 := hL.trans (L1.mono hL.size))
    go_ret2
    exact ⟨rfl, M1⟩
  | true =>
    replace hn' : n ≤ 140737488355328 := hn ▸ (Nat.le_trans (may_le hmay).1 (by decide))
    replace hm' : m ≤ 140737488355328 := hm ▸ (Nat.le_trans (may_le hmay).2 (by decide))
    rw [hmay] at CM
    have hv : (r0, r1) = if belowB x.spans (lowN g) = true then (2, 0) else midG g x := by rw [← hres.out]; unfold checkG; rw [if_neg (by rw [hmay]; decide)]
    go_upto_region 3 with (go_at_call 53; refine CM.mono ?_; rintro e u1 ⟨rfl, L1⟩; have M1 := hL.trans (L1.mono hL.size); have B1 := hB.below L1 hB.lt; have R1 := hR.below L1; have s1 : Spans u1 p x.spans := Row.below hs1 L1; have t1 : Spans u1 q x.marked := Row.below ht1 L1)
    clear CM hmay z0 z1 z2 z3 z4 hs1 ht1 hR hB hL L1
    have y0 : u1.cell? ⟨w.heap.size, 0, none⟩ = some (.slice p n c) := B1.cell 0
    have CL := fun v : In (Lt u1) => ref_low (R1.below v.h)
    have CB := fun v : In (Lt u1) => ref_below p n c x.spans (lowN g) v.w hn hn' (Row.below s1 v.h)
    have e0 := fun v : In (Lt u1) => inCell v y0
    generalize hlw : (lowN g : Int) = low at CL CB hv
    cases hbl : belowB x.spans low with
    | true =>
      rw [hbl, if_pos rfl] at hv
      injection hv with hv1 hv2
      subst hv1
      subst hv2
      rw [hbl] at CB
      refine wp_region_in (Lt u1) (Lt.drew u1) (by kernel_rfl) (by kernel_rfl) ?_
      repeat (go_big_quiet_step (first
        | (go_at_call 17; refine in_below (v := .int .u64 low) ?_; exact CL _)
        | (go_at_call 41; refine in_same (v := .bool true) ?_; exact CB _)))
      refine wpQuiet_nil ?_
      rintro u2 ⟨⟨_, hw2⟩, rfl⟩
      have hw2 : Below u1.heap.size u1 u2 := hw2
      go_wp2
      go_ret2
      exact ⟨rfl, M1.trans (hw2.mono M1.size)⟩
    | false =>
      rw [hbl, if_neg (by decide)] at hv
      rw [hbl] at CB
      refine wp_region_in (Lt u1) (Lt.drew u1) (by kernel_rfl) (by kernel_rfl) ?_
      repeat (go_big_quiet_step (first
        | (go_at_call 17; refine in_below (v := .int .u64 low) ?_; exact CL _)
        | (go_at_call 41; refine in_same (v := .bool false) ?_; exact CB _)))
      refine wpQuiet_nil ?_
      rintro u2 ⟨⟨_, hw2⟩, rfl⟩
      have hw2 : Below u1.heap.size u1 u2 := hw2
      have M2 := M1.trans (hw2.mono M1.size)
      have B2 := B1.below hw2 B1.lt
      have R2 := R1.below hw2
      have s2 : Spans u2 p x.spans := Row.below s1 hw2
      have t2 : Spans u2 q x.marked := Row.below t1 hw2
      have hl0 : 0 ≤ low ∧ low ≤ 4611686018427387904 := by omega
      have hlk := Lib.hid hlw
      have HV := Lib.hid hv
      clear CL CB e0 y0 R1 B1 s1 t1 M1 hw2 hbl hres hv hlw
      subst hn
      go_wp2
      go_loopw [6] (fun i wr => ∃ k : Nat, k ≤ x.spans.length ∧ i = .int .i64 k ∧ aheadT g.l.length (x.spans.drop k) = aheadT g.l.length x.spans ∧ Below u2.heap.size u2 wr) (fun i _ => x.spans.length - (intOf i).toNat)
      case atStart => exact ⟨0, Nat.zero_le _, rfl, rfl, Below.refl _ _⟩
      case round =>
        obtain ⟨k, hk, rfl, hF, hL⟩ := hrel
        have hMr := Base.next M2 hL
        have Rr := R2.below hL
        have Br := B2.below hL B2.lt
        have hc0 : wr.cell? ⟨w.heap.size, 0, none⟩ = some (.slice p x.spans.length c) := Br.cell 0
        have sr : Spans wr p x.spans := Row.below s2 hL
        by_cases hlt : k < x.spans.length
        · rw [aheadT_step hlt] at hF
          have hkI : (k : Int) < (x.spans.length : Int) := by omega
          obtain ⟨b', off', rfl, hb', c0, c1⟩ := sr.at_ hlt
          generalize (x.spans.getD k (0, 0)).1 = lo at *
          generalize (x.spans.getD k (0, 0)).2 = hi at *
          have CN := fun v : In (Lt wr) => ref_next (Rr.below v.h)
          have e0 := fun v : In (Lt wr) => inCell v hc0
          have e1 := fun v : In (Lt wr) => inCell v c0
          have e2 := fun v : In (Lt wr) => inCell v c1
          go_upto_region 8 with fail
          by_cases hab : (g.l.length : Int) ≤ hi
          · rw [if_pos hab] at hF
            have hv := HV.out
            rw [mid_some hF.symm] at hv
            injection hv with hv1 hv2
            generalize hmx : max lo (g.l.length : Int) = mx at *
            subst hv1
            subst hv2
            refine wp_region_in (Lt wr) (Lt.drew wr) (by kernel_rfl) (by kernel_rfl) ?_
            repeat (go_big_quiet_step ((go_at_call 42; exact in_same (CN _))))
            refine wpQuiet_nil ?_
            rintro u3 ⟨⟨_, hw3⟩, rfl⟩
            have hw3 : Below wr.heap.size wr u3 := hw3
            have M3 := Base.next hMr hw3
            have R3 := Rr.below hw3
            have CN := fun v : In (Lt u3) => ref_next (R3.below v.h)
            have e0 := fun v : In (Lt u3) => inCell v (e0 ⟨u3, hw3⟩)
            have e1 := fun v : In (Lt u3) => inCell v (e1 ⟨u3, hw3⟩)
            go_upto_region 9 with fail
            have hmx' : (if lo < (g.l.length : Int) then (g.l.length : Int) else lo) = r1 := by rw [← hmx]; omega
            clear hmx hF HV hab
            refine wp_region_in (Lt u3) (Lt.drew u3) (by kernel_rfl) (by kernel_rfl) ?_
            repeat (go_big_quiet_step ((go_at_call 42; exact in_same (CN _))))
            refine wpQuiet_nil ?_
            rintro u4 ⟨⟨_, hw4⟩, rfl⟩
            have hw4 : Below u3.heap.size u3 u4 := hw4
            go_wp2
            go_ret2
            exact ⟨rfl, Base.next M3 hw4⟩
          · rw [if_neg hab] at hF
            refine wp_region_in (Lt wr) (Lt.drew wr) (by kernel_rfl) (by kernel_rfl) ?_
            repeat (go_big_quiet_step ((go_at_call 42; exact in_same (CN _))))
            refine wpQuiet_nil ?_
            rintro u3 ⟨⟨_, hw3⟩, rfl⟩
            have hw3 : Below wr.heap.size wr u3 := hw3
            go_wp2
            all_goals go_roundw
            case rel => exact ⟨k + 1, by omega, by go_num, hF, Base.next hL hw3⟩
            case measure => simp [intOf]; omega
        · obtain rfl : k = x.spans.length := by omega
          rw [List.drop_eq_nil_of_le (Nat.le_refl _)] at hF
          have hv := HV.out
          rw [mid_none hF.symm] at hv
          have HV := Lib.hid hv
          clear hv hF
          have CW := ref_low Rr
          rw [hlk.out] at CW
          have tr : Spans wr q x.marked := Row.below t2 hL
          go_wp2_with (go_at_call 17; refine CW.mono ?_; rintro e u3 ⟨rfl, L3⟩; have M3 := hMr.trans (L3.mono hMr.size); have B3 := Br.below L3 Br.lt; have R3 := Rr.below L3; have s3 : Spans u3 p x.spans := Row.below sr L3; have t3 : Spans u3 q x.marked := Row.below tr L3)
          clear CW hc0 sr tr Rr Br hMr hL L3
          go_loopw [7] (fun i wr => ∃ k : Nat, k ≤ g.l.length ∧ i = .int .i64 k ∧ skipT x.spans (g.l.drop k) = skipT x.spans (allS g) ∧ Below u3.heap.size u3 wr) (fun i _ => g.l.length - (intOf i).toNat)
          case atStart => exact ⟨lowN g, hlow, by rw [hlk.out], rfl, Below.refl _ _⟩
          case round =>
            obtain ⟨k, hk, rfl, hF, hL⟩ := hrel
            have hMr := Base.next M3 hL
            have hRr := R3.below hL
            obtain ⟨a, cap, c0, c1, c2, h1, h2, hz⟩ := hRr.read
            have hb := hRr.lt
            unfold maxLen at h2
            have Br := B3.below hL B3.lt
            obtain ⟨z0, z1, z2, z3, z4⟩ := AckMay.blk5 Br
            have sr : Spans wr p x.spans := Row.below s3 hL
            have tr : Spans wr q x.marked := Row.below t3 hL
            by_cases hlt : k < g.l.length
            · rw [skipT_step hlt] at hF
              have hlI : (k : Int) < (g.l.length : Int) := by omega
              obtain ⟨b', off', rfl, hb', e0, e1, e2, e3, e4, e5, e6, e7⟩ := hz.at_ hlt
              generalize g.l.getD k Z8 = s at *
              have CH := fun v : In (Lt wr) => ref_has p x.spans.length c x.spans s.pn v.w rfl hn' (Row.below sr v.h)
              obtain ⟨s0, s1, s2, s3', s4, s5, s6', s7⟩ := s
              simp only at e0 e7 CH hF
              have d0 := fun v : In (Lt wr) => inCell v e0
              have d7 := fun v : In (Lt wr) => inCell v e7
              have y0 := fun v : In (Lt wr) => inCell v z0
              have x2 := fun v : In (Lt wr) => inCell v c2
              clear e1 e2 e3 e4 e5 e6 z1 z2 z3 z4 c0 c1 tr
              go_upto_region 13 with fail
              by_cases t1 : s7 = 4
              · subst t1
                cases hh : has x.spans s0 with
                | true =>
                  rw [hh, if_pos ⟨rfl, rfl⟩] at hF
                  rw [hh] at CH
                  have hv := HV.out
                  rw [tail_some hF.symm] at hv
                  injection hv with hv1 hv2
                  subst hv1
                  subst hv2
                  clear hF HV
                  refine wp_region_in (Lt wr) (Lt.drew wr) (by kernel_rfl) (by kernel_rfl) ?_
                  repeat (go_big_quiet_step ((go_at_call 22; exact in_same (CH _))))
                  refine wpQuiet_nil ?_
                  rintro u4 ⟨⟨_, hw4⟩, rfl⟩
                  have hw4 : Below wr.heap.size wr u4 := hw4
                  have M4 := Base.next hMr hw4
                  have e0 := fun v : In (Lt u4) => inCell v (d0 ⟨u4, hw4⟩)
                  have e2 := fun v : In (Lt u4) => inCell v (x2 ⟨u4, hw4⟩)
                  go_upto_region 14 with fail
                  refine wp_region_in (Lt u4) (Lt.drew u4) (by kernel_rfl) (by kernel_rfl) ?_
                  repeat (go_big_quiet_step (fail))
                  refine wpQuiet_nil ?_
                  rintro u5 ⟨⟨_, hw5⟩, rfl⟩
                  have hw5 : Below u4.heap.size u4 u5 := hw5
                  go_wp2
                  go_ret2
                  exact ⟨rfl, Base.next M4 hw5⟩
                | false =>
                  rw [hh, if_neg (fun e => by cases e.2)] at hF
                  rw [hh] at CH
                  refine wp_region_in (Lt wr) (Lt.drew wr) (by kernel_rfl) (by kernel_rfl) ?_
                  repeat (go_big_quiet_step ((go_at_call 22; exact in_same (CH _))))
                  refine wpQuiet_nil ?_
                  rintro u4 ⟨⟨_, hw4⟩, rfl⟩
                  have hw4 : Below wr.heap.size wr u4 := hw4
                  go_wp2
                  all_goals go_roundw
                  case rel => exact ⟨k + 1, by omega, by go_num, hF, Base.next hL hw4⟩
                  case measure => simp [intOf]; omega
              · have ht1 : (s7 == 4) = false := by simpa using t1
                rw [if_neg (fun e => t1 e.1)] at hF
                refine wp_region_in (Lt wr) (Lt.drew wr) (by kernel_rfl) (by kernel_rfl) ?_
                repeat (go_big_quiet_step ((go_at_call 22; exact in_same (CH _))))
                refine wpQuiet_nil ?_
                rintro u4 ⟨⟨_, hw4⟩, rfl⟩
                have hw4 : Below wr.heap.size wr u4 := hw4
                go_wp2
                all_goals go_roundw
                case rel => exact ⟨k + 1, by omega, by go_num, hF, Base.next hL hw4⟩
                case measure => simp [intOf]; omega
            · obtain rfl : k = g.l.length := by omega
              rw [List.drop_eq_nil_of_le (Nat.le_refl _)] at hF
              have hv := HV.out
              rw [tail_none hF.symm] at hv
              injection hv with hv1 hv2
              subst hv2
              have CS := ref_sum hRr p q x.spans.length c m d x.spans x.marked rfl hm hn' hm' hf hg sr tr
              have hlw : lastW g x = if (sumG g x.spans x.marked).1 ≠ x.xor then 6 else if (sumG g x.spans x.marked).2.1 ≠ x.parity then 7 else 0 := rfl
              rw [hlw] at hv1
              clear hF HV hlw c0 c1
              generalize sumG g x.spans x.marked = sm at *
              obtain ⟨q0, q1, q2⟩ := sm
              simp only at hv1 CS
              by_cases t1 : q0 = x.xor
              · rw [if_neg (by simpa using t1)] at hv1
                by_cases t2 : q1 = x.parity
                · rw [if_neg (by simpa using t2)] at hv1
                  subst hv1
                  subst t1
                  subst t2
                  go_wp2_with (go_at_call 11; refine CS.mono ?_; rintro e u4 ⟨rfl, L4⟩; have M4 := hMr.trans (L4.mono hMr.size); obtain ⟨y0, y1, y2, y3, y4⟩ := AckMay.blk5 (Br.below L4 Br.lt))
                  go_ret2
                  exact ⟨rfl, M4⟩
                · rw [if_pos t2] at hv1
                  subst hv1
                  subst t1
                  generalize x.parity = xp at *
                  have t3 : (!q1 == xp) = true := by revert t2; cases q1 <;> cases xp <;> decide
                  go_wp2_with (go_at_call 11; refine CS.mono ?_; rintro e u4 ⟨rfl, L4⟩; have M4 := hMr.trans (L4.mono hMr.size); obtain ⟨y0, y1, y2, y3, y4⟩ := AckMay.blk5 (Br.below L4 Br.lt))
                  go_ret2
                  exact ⟨rfl, M4⟩
              · rw [if_pos t1] at hv1
                subst hv1
                go_wp2_with (go_at_call 11; refine CS.mono ?_; rintro e u4 ⟨rfl, L4⟩; have M4 := hMr.trans (L4.mono hMr.size); obtain ⟨y0, y1, y2, y3, y4⟩ := AckMay.blk5 (Br.below L4 Br.lt))
                go_ret2
                exact ⟨rfl, M4⟩
end Go.Proofs.Ytlnncfjfphkkdaa.Led
