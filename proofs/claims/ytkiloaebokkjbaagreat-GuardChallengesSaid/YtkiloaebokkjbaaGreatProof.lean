/-
  Contracts of proof.Sum and proof.Check.
-/
import Derived.Test.YtkiloaebokkjbaaGreatM23
import Derived.Test.YtkiloaebokkjbaaGreatM17
import Derived.Test.YtkiloaebokkjbaaGreatM24
import Derived.Test.YtkiloaebokkjbaaGreatM19
import Derived.Test.YtkiloaebokkjbaaGreatM9
import Derived.Test.YtkiloaebokkjbaaGreatHop
set_option linter.unusedSimpArgs false
set_option linter.unusedVariables false
namespace Go.Proofs.YtkiloaebokkjbaaGreat.Led
set_option linter.unusedVariables false
set_option maxRecDepth 20000
open Go.ChangeShapes Go.WideShapes Go.ChangeAt Go.RowKit
open Go.Proofs.YtkiloaebokkjbaaGreat.Base Go.Proofs.YtkiloaebokkjbaaGreat.LedPlain Go.Proofs.YtkiloaebokkjbaaGreat.SpanPlain Go.Proofs.YtkiloaebokkjbaaGreat.SpanRef
open Go.Proofs.YtkiloaebokkjbaaGreat.AckPlain (K)

set_option maxHeartbeats 4000000 in
theorem sum_any {S : Nat → Prop} {w : World} {a : Addr} {g : Lg} (h : Led S w a g) (hgl : g.l.length ≤ 1000000) (p q : Option Addr) (n c m d : Nat) (cl mk : List Sp) (hn : cl.length = n) (hm : mk.length = m) (hn' : n ≤ 8796093021952) (hm' : m ≤ 8796093021952) (hf : Fits cl) (hg : Fits mk) (hs : Spans w p cl) (ht : Spans w q mk) (hmd : m ≤ d := by omega) :
    Calls Tryz.prog 119 #[.pointer (some a), .slice p n c, .slice q m d] w fun e w' => e = .returned (.tuple #[.int .u64 (sumG g cl mk).1, .bool (sumG g cl mk).2.1, .bool (sumG g cl mk).2.2]) ∧ Below w.heap.size w w' := by
  have hr := Below.refl w.heap.size w
  have CM := fun V (hV : Below w.heap.size w V) => Span.good_any q m d mk V hm (by omega) hg (Row.below ht hV)
  have CK := fun V (hV : Below w.heap.size w V) => kept_any (h.below hV)
  have CW := fun (V : World) (pk : Option Addr) (ck : Nat) (hV : Below w.heap.size w V) (hk : Spans V pk (keptL g)) => Span.within_any p pk n (keptL g).length c ck cl (keptL g) V hn rfl (by omega) (by have := kept_len1 g; omega) hf (Fits.of_good (kept_good h.ok)) (Row.below hs hV) hk
  cases hgm : good mk with
  | false =>
    have hv : sumG g cl mk = (0, false, false) := by
      unfold sumG
      simp [hgm]
    rw [hv]
    rw [hgm] at CM
    go_enter Tryz.func119, Tryz.ntmps119
    go_wp2_with (go_at_call 115; refine (CM _ hr).mono ?_; rintro e u1 ⟨rfl, L1⟩)
    go_ret3
    exact ⟨rfl, L1⟩
  | true =>
    rw [hgm] at CM
    cases hin : (good cl && good (keptL g) && inside cl (keptL g)) with
    | false =>
      rw [sum_out h.ok hin]
      rw [hin] at CW
      go_enter Tryz.func119, Tryz.ntmps119
      go_wp2_with (first
        | (go_at_call 115; refine (CM _ hr).mono ?_; rintro e u1 ⟨rfl, L1⟩)
        | (go_at_call 134; refine (CK _ L1).mono ?_; rintro e u2 ⟨pk, ck, rfl, hk, L2⟩; have M2 := Base.next L1 L2)
        | (go_at_call 91; refine (CW _ _ _ M2 hk).mono ?_; rintro e u3 ⟨rfl, L3⟩; have M3 := Base.next M2 L3))
      go_ret3
      exact ⟨rfl, M3⟩
    | true =>
      obtain ⟨hgc, hlin, hval⟩ := sum_in h.ok hin hgm
      rw [hin] at CW
      have hw : ∀ k, k < (allS g).length → 0 ≤ ((allS g).getD k Z8).pn ∧ ((allS g).getD k Z8).pn ≤ 18446744073709551615 := fun k hk => by
        have := (all_at h.ok hk).2
        unfold Words at this
        omega
      have hal : (allS g).length ≤ 1000000 := by unfold allS; rw [List.length_drop]; omega
      have CA := fun V (hV : Below w.heap.size w V) => all_any (h.below hV) hgl
      have CS := fun (V : World) (z : Option Addr) (c0 : Nat) (hV : Below w.heap.size w V) (hz : Sents V z (allS g)) => skipped_any z (allS g).length c0 p n c cl V rfl hal hn (by omega) hf hgc hw hz (Row.below hs hV)
      cases hsk : skipT cl (allS g) with
      | some x =>
        rw [hval, skip_sum _ _ _ hsk]
        rw [hsk] at CS
        clear hw hlin hin hval hgc hgm hsk
        go_enter Tryz.func119, Tryz.ntmps119
        go_wp2_with (first
          | (go_at_call 115; refine (CM _ hr).mono ?_; rintro e u1 ⟨rfl, L1⟩)
          | (go_at_call 134; refine (CK _ L1).mono ?_; rintro e u2 ⟨pk, ck, rfl, hk, L2⟩; have M2 := Base.next L1 L2)
          | (go_at_call 91; refine (CW _ _ _ M2 hk).mono ?_; rintro e u3 ⟨rfl, L3⟩; have M3 := Base.next M2 L3)
          | (go_at_call 16; refine (CA _ M3).mono ?_; rintro e u4 ⟨pz, cz, rfl, hc1, hc2, hrow, L4⟩; have M4 := Base.next M3 L4; have z4 : Sents u4 pz (allS g) := hrow.row)
          | (go_at_call 118; refine (CS _ _ _ M4 z4).mono ?_; rintro e u5 ⟨rfl, L5⟩; have M5 := Base.next M4 L5))
        go_ret3
        exact ⟨rfl, M5⟩
      | none =>
        have hFi : Fine g cl mk := ⟨hgc, hgm, hlin, skip_live _ hsk⟩
        rw [hsk] at CS
        have hok := h.ok
        have hres : (sumG g cl mk).2.2 = true := hFi.is
        have hnw := nonces_w hok
        have hnl : (nonces (allS g)).length = (allS g).length := by unfold nonces; rw [List.length_map]
        have hcl : (coins mk (allS g)).length = (allS g).length := by unfold coins; rw [List.length_map]
        have hsl : (FoldPlain.sums (nonces (allS g))).length = (allS g).length + 1 := by unfold FoldPlain.sums; rw [FoldPlain.pre_len, hnl]
        have hol : (FoldPlain.odds (coins mk (allS g))).length = (allS g).length + 1 := by unfold FoldPlain.odds; rw [FoldPlain.opre_len, hcl]
        have CN := fun (V : World) (z : Option Addr) (c0 : Nat) (hz : Sents V z (allS g)) => nonces_any z (allS g).length c0 V rfl hal hz
        have CC := fun (V : World) (z : Option Addr) (c0 : Nat) (hV : Below w.heap.size w V) (hz : Sents V z (allS g)) => coins_any z (allS g).length c0 q m d mk (lowN g) V rfl hal hm (by omega) hmd hgm (fun k hk => (all_at hok hk).1) (by omega) (by have := low_le g; omega) hz (Row.below ht hV)
        have CX := fun (V : World) (z : Option Addr) (c0 : Nat) (hc : (allS g).length ≤ c0) (hz : Ints .u64 V z (nonces (allS g))) => Fold.xors_any z (allS g).length c0 (nonces (allS g)) V hnl hc (by omega) hnw hz
        have CO := fun (V : World) (z : Option Addr) (c0 : Nat) (hc : (allS g).length ≤ c0) (hz : Bools V z (coins mk (allS g))) => Fold.odds_any z (allS g).length c0 (coins mk (allS g)) V hcl hc (by omega) hz
        rw [hres]
        clear hw hin hval hsk hnl hcl hgm
        have hbd : ∀ k, k < cl.length → (lowN g : Int) ≤ (cl.getD k (0, 0)).1 ∧ (cl.getD k (0, 0)).1 ≤ (cl.getD k (0, 0)).2 ∧ (cl.getD k (0, 0)).2 < (g.l.length : Int) := fun k hk => by
          have hg1 := good_get hgc hk
          have h1 := hlin (cl.getD k (0, 0)).1 (has_more (k + 1) _ (by rw [has_take hk, decide_eq_true (Int.le_refl _), decide_eq_true hg1.2.1, Bool.true_and, Bool.or_true]))
          have h2 := hlin (cl.getD k (0, 0)).2 (has_more (k + 1) _ (by rw [has_take hk, decide_eq_true (Int.le_refl _), decide_eq_true hg1.2.1, Bool.true_and, Bool.or_true]))
          exact ⟨h1.1, hg1.2.1, h2.2⟩
        go_enter Tryz.func119, Tryz.ntmps119
        go_wp2_with (first
          | (go_at_call 115; refine (CM _ hr).mono ?_; rintro e u1 ⟨rfl, L1⟩)
          | (go_at_call 134; refine (CK _ L1).mono ?_; rintro e u2 ⟨pk, ck, rfl, hk, L2⟩; have M2 := Base.next L1 L2)
          | (go_at_call 91; refine (CW _ _ _ M2 hk).mono ?_; rintro e u3 ⟨rfl, L3⟩; have M3 := Base.next M2 L3)
          | (go_at_call 16; refine (CA _ M3).mono ?_; rintro e u4 ⟨pz, cz, rfl, hc1, hc2, hrow, L4⟩; have M4 := Base.next M3 L4; have z4 : Sents u4 pz (allS g) := hrow.row; clear hrow)
          | (go_at_call 118; refine (CS _ _ _ M4 z4).mono ?_; rintro e u5 ⟨rfl, L5⟩; have M5 := Base.next M4 L5; have z5 := z4.below L5; clear z4)
          | (go_at_call 136; refine (CN _ _ _ z5).mono ?_; rintro e u6 ⟨p6, c6, rfl, k6, i6, L6⟩; have M6 := Base.next M5 L6; have z6 := z5.below L6; clear z5)
          | (go_at_call 135; refine (CX _ _ _ k6 i6).mono ?_; rintro e u7 ⟨p7, c7, rfl, k7, k7', k7'', r7, L7⟩; have M7 := Base.next M6 L7; have z7 := z6.below L7; have x7 : Ints .u64 u7 p7 (FoldPlain.sums (nonces (allS g))) := r7.row; clear z6 r7 k7'')
          | (go_at_call 138; refine (CC _ _ _ M7 z7).mono ?_; rintro e u8 ⟨p8, c8, rfl, k8, i8, L8⟩; have M8 := Base.next M7 L8; have x8 := x7.below L8; clear z7 x7)
          | (go_at_call 137; refine (CO _ _ _ k8 i8).mono ?_; rintro e u9 ⟨p9, c9, rfl, k9, k9', k9'', r9, L9⟩; have M9 := Base.next M8 L9; have x9 := x8.below L9; have y9 : Bools u9 p9 (FoldPlain.odds (coins mk (allS g))) := r9.row; clear x8 r9 k9''))
        clear CM CK CW CA CS CN CC CX CO hk L1 L2 L3 L4 L5 L6 L7 L8 L9 M2 M3 M4 M5 M6 M7 M8 hc1 hc2 k6 i6 k8 i8
        have hR9 := h.below M9
        have s9 : Spans u9 p cl := Row.below hs M9
        have hend : sumG g (cl.take n) mk = sumG g cl mk := by rw [List.take_of_length_le (by omega)]
        have hst : sumG g (cl.take 0) mk = (0, false, true) := none_sum hFi.gm
        have hmx : (g.l.length : Int) ≤ 1000000 := by omega
        go_loopw [14, 15, 56, 17, 18, 19, 20, 21, 22, 23] (fun x o i _ _ _ _ _ _ _ wr => ∃ k : Nat, k ≤ n ∧ x = .int .u64 (sumG g (cl.take k) mk).1 ∧ o = .bool (sumG g (cl.take k) mk).2.1 ∧ i = .int .i64 k ∧ Below u9.heap.size u9 wr) (fun _ _ i _ _ _ _ _ _ _ _ => n - (intOf i).toNat)
        case atStart => exact ⟨0, Nat.zero_le _, by rw [hst], by rw [hst], rfl, Below.refl _ _⟩
        case round =>
          obtain ⟨k, hk, rfl, rfl, rfl, hL⟩ := hrel
          have hRr := hR9.below hL
          have hLw := Base.next M9 hL
          by_cases hlt : k < n
          · have hlI : (k : Int) < (n : Int) := by omega
            obtain ⟨m1, m2⟩ := more_sum hok hFi (k := k) (by omega)
            obtain ⟨b1, b2, b3⟩ := hbd k (by omega)
            obtain ⟨bb, off, rfl, hbb, f0, f1⟩ := (s9.below hL).at_ (show k < cl.length by omega)
            clear hbd hend hst
            generalize cl.getD k (0, 0) = s at *
            obtain ⟨lo, hi⟩ := s
            simp only at m1 m2 b1 b2 b3 f0 f1
            have CV := fun V (hV : Below u9.heap.size u9 V) => Fold.over_any p7 ((allS g).length + 1) c7 (FoldPlain.sums (nonces (allS g))) (lo - lowN g) (hi - lowN g + 1) V hsl (by omega) (FoldPlain.pre_w hnw _) (by omega) (by omega) (by omega) (by omega) (Row.below x9 hV)
            have CD := fun V (hV : Below u9.heap.size u9 V) => Fold.odd_any p9 ((allS g).length + 1) c9 (FoldPlain.odds (coins mk (allS g))) (lo - lowN g) (hi - lowN g + 1) V hol (by omega) (by omega) (by omega) (by omega) (by omega) (Row.below y9 hV)
            have hlo0 : 0 ≤ (lowN g : Int) := by omega
            have CL := fun (W : World) (hW : Below u9.heap.size u9 W) (v : In (Lt W)) => low_any ((hR9.below hW).below v.h)
            generalize (lowN g : Int) = low at *
            generalize FoldPlain.overV (FoldPlain.sums (nonces (allS g))) (lo - low) (hi - low + 1) = ov at *
            generalize FoldPlain.oddV (FoldPlain.odds (coins mk (allS g))) (lo - low) (hi - low + 1) = od at *
            generalize FoldPlain.overB ((allS g).length + 1 : Nat) (lo - low) (hi - low + 1) = ob at *
            generalize hX1 : (sumG g (cl.take (k + 1)) mk).1 = X1 at *
            generalize hO1 : (sumG g (cl.take (k + 1)) mk).2.1 = O1 at *
            have HX := Lib.hid hX1
            have HO := Lib.hid hO1
            clear hX1 hO1
            generalize (sumG g (cl.take k) mk).1 = X at *
            generalize (sumG g (cl.take k) mk).2.1 = O at *
            replace m1 : bits .xor .u64 X ov = X1 := m1.symm
            subst m2
            have ew1 : IntKind.u64.wrap (lo - low) = lo - low := by rw [IntKind.wrap_u64]; omega
            have ew2 : IntKind.u64.wrap (hi - low) = hi - low := by rw [IntKind.wrap_u64]; omega
            have ew3 : IntKind.i64.wrap (lo - low) = lo - low := by rw [IntKind.wrap_i64]; omega
            have ew4 : IntKind.i64.wrap (hi - low) = hi - low := by rw [IntKind.wrap_i64]; omega
            have ew5 : IntKind.i64.wrap (hi - low + 1) = hi - low + 1 := by rw [IntKind.wrap_i64]; omega
            go_upto_region 13 with fail
            have hB := Blk.new wr #[.int .u64 lo, .int .u64 hi] 119
            have hL1 := hL.alloc hL.size (.cells #[.int .u64 lo, .int .u64 hi] 119)
            generalize wr.alloc (.cells #[.int .u64 lo, .int .u64 hi] 119) = W at *
            have y0 : W.cell? ⟨wr.heap.size, 0, none⟩ = some (.int .u64 lo) := hB.cell 0
            have y1 : W.cell? ⟨wr.heap.size, 1, none⟩ = some (.int .u64 hi) := hB.cell 1
            have e0 := fun v : In (Lt W) => inCell v y0
            have e1 := fun v : In (Lt W) => inCell v y1
            have CLW := CL W hL1
            clear y0 y1 CL
            refine wp_region_in (Lt W) (Lt.drew W) (by kernel_rfl) (by kernel_rfl) ?_
            repeat (go_big_quiet_step (first | (go_at_call 41; refine in_below (v := .int .u64 low) ?_; exact CLW _)))
            refine wpQuiet_nil ?_
            rintro w2 ⟨⟨_, hw2⟩, rfl⟩
            have hw2 : Below W.heap.size W w2 := hw2
            have M2 := hL1.trans (hw2.mono hL1.size)
            clear e0 e1 CLW
            go_wp2_with (first
              | (go_at_call 139; refine (CV _ M2).mono ?_; rintro e u3 ⟨rfl, L3⟩; have M3 := M2.trans (L3.mono M2.size))
              | (go_at_call 140; refine (CD _ M3).mono ?_; rintro e u4 ⟨rfl, L4⟩; have M4 := M3.trans (L4.mono M3.size)))
            all_goals go_roundw
            case rel => exact ⟨k + 1, by omega, by rw [HX.out], by rw [HO.out]; cases O <;> cases od <;> rfl, by go_num, M4⟩
            case measure => simp [intOf]; omega
          · obtain rfl : k = n := by omega
            rw [hend]
            go_wp2
            go_ret3
            exact ⟨rfl, hLw⟩
set_option maxHeartbeats 4000000 in
theorem check_any {S : Nat → Prop} {w : World} {a : Addr} {g : Lg} (h : Led S w a g) (hgl : g.l.length ≤ 1000000) (x : K) (p q : Option Addr) (n c m d : Nat) (hn : x.spans.length = n) (hm : x.marked.length = m) (hn' : n ≤ 9223372036854775807) (hm' : m ≤ 9223372036854775807) (hf : Fits x.spans) (hg : Fits x.marked) (hs : Spans w p x.spans) (ht : Spans w q x.marked) (hmd : m ≤ d := by omega) :
    Calls Tryz.prog 96 #[.pointer (some a), .agg #[.slice p n c, .slice q m d, .int .u64 x.trigger, .int .u64 x.xor, .bool x.parity]] w fun e w' => e = .returned (.tuple #[.int .i64 (checkG g x).1, .int .u64 (checkG g x).2]) ∧ Below w.heap.size w w' := by
  have hE := Lib.hid (show checkG g x = if AckPlain.may x = false then (1, 0) else if belowB x.spans (lowN g) = true then (2, 0) else midG g x from rfl)
  go_enter Tryz.func96, Tryz.ntmps96
  go_upto_region 1 with fail
  have hB := Blk.new w #[.slice p n c, .slice q m d, .int .u64 x.trigger, .int .u64 x.xor, .bool x.parity] 56
  have hL := (Below.refl w.heap.size w).alloc (Nat.le_refl _) (.cells #[.slice p n c, .slice q m d, .int .u64 x.trigger, .int .u64 x.xor, .bool x.parity] 56)
  have hR := h.below hL
  have hs1 : Spans (w.alloc (.cells #[.slice p n c, .slice q m d, .int .u64 x.trigger, .int .u64 x.xor, .bool x.parity] 56)) p x.spans := Row.below hs hL
  have ht1 : Spans (w.alloc (.cells #[.slice p n c, .slice q m d, .int .u64 x.trigger, .int .u64 x.xor, .bool x.parity] 56)) q x.marked := Row.below ht hL
  generalize w.alloc (.cells #[.slice p n c, .slice q m d, .int .u64 x.trigger, .int .u64 x.xor, .bool x.parity] 56) = V at *
  have CM := AckOk.may_any x p q n c m d V hn hm (by omega) (by omega) hf hg hs1 ht1
  obtain ⟨z0, z1, z2, z3, z4⟩ := AckMay.blk5 hB
  cases hmay : AckPlain.may x with
  | false =>
    rw [hmay] at CM hE
    go_wp2_with (go_at_call 92; refine CM.mono ?_; rintro e u1 ⟨rfl, L1⟩; have M1 := hL.trans (L1.mono hL.size))
    go_ret2
    exact ⟨by rw [hE.out]; rfl, M1⟩
  | true =>
    have hn32 : n ≤ 32 := hn ▸ (may_le hmay).1
    have hm32 : m ≤ 32 := hm ▸ (may_le hmay).2
    obtain ⟨hgd, hne⟩ : good x.spans = true ∧ 0 < x.spans.length := by
      have e := hmay
      unfold AckPlain.may at e
      simp only [Bool.and_eq_true, decide_eq_true_eq] at e
      exact ⟨e.1.1.2, by omega⟩
    rw [hmay] at CM hE
    go_upto_region 3 with (go_at_call 92; refine CM.mono ?_; rintro e u1 ⟨rfl, L1⟩; have M1 := hL.trans (L1.mono hL.size); have B1 := hB.below L1 hB.lt; have R1 := hR.below L1; have s1 : Spans u1 p x.spans := Row.below hs1 L1; have t1 : Spans u1 q x.marked := Row.below ht1 L1)
    clear CM hmay z0 z1 z2 z3 z4 hs1 ht1 hR hB hL hn' hm'
    obtain ⟨pb, po, rfl, hpb, c0, -⟩ := s1.at_ (i := 0) hne
    have hbl := below_first hne (lowN g)
    rw [hbl] at hE
    clear hbl
    simp only [Nat.zero_mul, Nat.add_zero] at c0
    have hnI : (0 : Int) < (n : Int) := by omega
    generalize hx0 : (x.spans.getD 0 (0, 0)).1 = lo at *
    clear hx0
    have y0 : u1.cell? ⟨w.heap.size, 0, none⟩ = some (.slice (some ⟨pb, po, none⟩) n c) := B1.cell 0
    have CL := fun v : In (Lt u1) => low_any (R1.below v.h)
    have e0 := fun v : In (Lt u1) => inCell v y0
    have e1 := fun v : In (Lt u1) => inCell v c0
    generalize hlw : (lowN g : Int) = low at *
    cases hbl : decide (lo < low) with
    | true =>
      have hbl' := of_decide_eq_true hbl
      rw [hbl] at hE
      refine wp_region_in (Lt u1) (Lt.drew u1) (by kernel_rfl) (by kernel_rfl) ?_
      repeat (go_big_quiet_step (first | (go_at_call 41; refine in_below (v := .int .u64 low) ?_; exact CL _)))
      refine wpQuiet_nil ?_
      rintro u2 ⟨⟨_, hw2⟩, rfl⟩
      have hw2 : Below u1.heap.size u1 u2 := hw2
      go_wp2
      go_ret2
      exact ⟨by rw [hE.out]; rfl, M1.trans (hw2.mono M1.size)⟩
    | false =>
      have hbl' := of_decide_eq_false hbl
      rw [hbl] at hE
      refine wp_region_in (Lt u1) (Lt.drew u1) (by kernel_rfl) (by kernel_rfl) ?_
      repeat (go_big_quiet_step (first | (go_at_call 41; refine in_below (v := .int .u64 low) ?_; exact CL _)))
      refine wpQuiet_nil ?_
      rintro u2 ⟨⟨_, hw2⟩, rfl⟩
      have hw2 : Below u1.heap.size u1 u2 := hw2
      have M2 := M1.trans (hw2.mono M1.size)
      have B2 := B1.below hw2 B1.lt
      have R2 := R1.below hw2
      have s2 : Spans u2 (some ⟨pb, po, none⟩) x.spans := Row.below s1 hw2
      have t2 : Spans u2 q x.marked := Row.below t1 hw2
      have HE := Lib.hid (show checkG g x = midG g x by rw [hE.out]; rfl)
      clear CL e0 e1 c0 y0 R1 B1 s1 t1 M1 hw2 hE hbl hbl' L1 hlw
      go_upto_region 5 with fail
      have y0 : u2.cell? ⟨w.heap.size, 0, none⟩ = some (.slice (some ⟨pb, po, none⟩) n c) := B2.cell 0
      have CN := fun v : In (Lt u2) => next_any (R2.below v.h)
      have e0 := fun v : In (Lt u2) => inCell v y0
      refine wp_region_rest (C := fun w' => ∃ p : In (Lt u2), w' = p.w) 4 2 (by kernel_rfl) (by kernel_rfl) (by kernel_rfl) (by kernel_rfl) (by kernel_rfl) ⟨⟨u2.drew, Lt.drew u2⟩, rfl⟩ ?_
      simp only [List.toList_toArray, List.take_succ_cons, List.take_zero]
      repeat (go_big_quiet_step (first | (go_at_call 42; refine in_below (v := .int .u64 g.l.length) ?_; exact CN _)))
      refine wpQuiet_nil ?_
      rintro u3 ⟨⟨_, hw3⟩, rfl⟩
      have hw3 : Below u2.heap.size u2 u3 := hw3
      have M3 := M2.trans (hw3.mono M2.size)
      have B3 := B2.below hw3 B2.lt
      have R3 := R2.below hw3
      have s3 : Spans u3 (some ⟨pb, po, none⟩) x.spans := Row.below s2 hw3
      have t3 : Spans u3 q x.marked := Row.below t2 hw3
      clear e0 CN y0 hw3 B2 R2 s2 t2 M2
      have CF := Span.from_any (some ⟨pb, po, none⟩) n c x.spans (g.l.length : Int) u3 hn (by omega) hf s3
      rw [hgd] at CF
      simp only [if_true] at CF
      refine wpAny_of_held (S := fun _ => True) _ _ _ _ ?_
      refine held_call (i := 4) (f := 117) (args := #[.slice (some ⟨pb, po, none⟩) n c, .int .u64 g.l.length]) rfl (by kernel_rfl) (by kernel_rfl) (by kernel_rfl) (CF.mono ?_)
      rintro e u4 ⟨v, rfl, hO, L4⟩
      obtain ⟨fp, fc, rfl, hfc, hfc', _, hfr⟩ := hO.read
      refine ⟨_, rfl, trivial, ?_⟩
      refine held_one (i := 5) (v := .slice fp (fromS x.spans (g.l.length : Int)).length fc) (w' := u4) rfl (by kernel_rfl) (by kernel_rfl) (by kernel_rfl) trivial ?_
      refine held_done (by kernel_rfl) ?_
      have M4 := M3.trans (L4.mono M3.size)
      have B4 := B3.below L4 B3.lt
      have R4 := R3.below L4
      have s4 : Spans u4 (some ⟨pb, po, none⟩) x.spans := Row.below s3 L4
      have t4 : Spans u4 q x.marked := Row.below t3 L4
      have f4 : Spans u4 fp (fromS x.spans (g.l.length : Int)) := hfr.row
      have hfl := from_len x.spans (g.l.length : Int)
      have hfirst := fun h => ahead_first (nx := (g.l.length : Int)) (l := x.spans) h
      have hnot := fun h => ahead_not (nx := (g.l.length : Int)) (l := x.spans) h
      clear CF hO hfr B3 R3 s3 t3 M3 L4
      generalize fromS x.spans (g.l.length : Int) = F at *
      rcases F with _ | ⟨y, F⟩
      · have HE2 := Lib.hid (HE.out.trans (mid_none (hnot rfl)))
        clear hnot hfirst f4 HE
        go_upto_region 8 with fail
        have y0 : u4.cell? ⟨w.heap.size, 0, none⟩ = some (.slice (some ⟨pb, po, none⟩) n c) := B4.cell 0
        have hS : Below u4.heap.size u4 u4.drew := Base.drew1 (Below.refl _ _)
        have hok := h.ok
        have hal : (allS g).length ≤ 1000000 := by unfold allS; rw [List.length_drop]; omega
        have hw : ∀ k, k < (allS g).length → 0 ≤ ((allS g).getD k Z8).pn ∧ ((allS g).getD k Z8).pn ≤ 18446744073709551615 := fun k hk => by
          have := (all_at hok hk).2
          unfold Words at this
          omega
        have CA := all_any (R4.below hS) hgl
        refine held_start (fun u => Below u4.heap.size u4 u) (by kernel_rfl) ?_
        refine held_take (i := 0) (v := .pointer (some a)) rfl (by kernel_rfl) (by kernel_rfl) (by kernel_rfl) (fun _ _ _ h => h) (by kernel_rfl) hS (fun _ _ => by kernel_rfl) ?_
        refine held_take (i := 2) (v := .pointer (some ⟨w.heap.size, 0, none⟩)) rfl (by kernel_rfl) (by kernel_rfl) (by kernel_rfl) (fun _ _ _ h => h) (by kernel_rfl) hS (fun _ _ => by kernel_rfl) ?_
        refine held_take (i := 3) (v := .slice (some ⟨pb, po, none⟩) n c) rfl (by kernel_rfl) (by kernel_rfl) (by kernel_rfl) (fun _ _ _ h => h) (by kernel_rfl) hS (fun _ hu => Hop.lb_any 54 (.tmp 42) rfl (by kernel_rfl) (by kernel_rfl) (keepCell hu y0)) ?_
        refine held_call (i := 1) (f := 16) (args := #[.pointer (some a)]) rfl (by kernel_rfl) (by kernel_rfl) (by kernel_rfl) (CA.mono ?_)
        rintro e u5 ⟨pz, cz, rfl, hc1, hc2, hrow, L5⟩
        replace L5 := Base.undrew L5
        refine ⟨_, rfl, L5, ?_⟩
        have z5 : Sents u5 pz (allS g) := hrow.row
        have CS := skipped_any pz (allS g).length cz (some ⟨pb, po, none⟩) n c x.spans u5 rfl hal hn (by omega) hf hgd hw z5 (Row.below s4 L5)
        refine held_call (i := 4) (f := 118) (args := #[.slice pz (allS g).length cz, .slice (some ⟨pb, po, none⟩) n c]) rfl (by kernel_rfl) (by kernel_rfl) (by kernel_rfl) (CS.mono ?_)
        rintro e u6 ⟨rfl, L6⟩
        have L6' := Base.next L5 L6
        refine ⟨_, rfl, L6', ?_⟩
        have M6 := M4.trans (L6'.mono M4.size)
        have B6 := B4.below L6' B4.lt
        have R6 := R4.below L6'
        have s6 : Spans u6 (some ⟨pb, po, none⟩) x.spans := Row.below s4 L6'
        have t6 : Spans u6 q x.marked := Row.below t4 L6'
        refine held_take (i := 5) (v := .tuple #[.int .u64 ((skipT x.spans (allS g)).getD 0), .bool (skipT x.spans (allS g)).isSome]) rfl (by kernel_rfl) (by kernel_rfl) (by kernel_rfl) (fun _ _ _ h => h) (by kernel_rfl) L6' (fun _ _ => by kernel_rfl) ?_
        refine held_take (i := 6) (v := .int .u64 ((skipT x.spans (allS g)).getD 0)) rfl (by kernel_rfl) (by kernel_rfl) (by kernel_rfl) (fun _ _ _ h => h) (by kernel_rfl) L6' (fun _ _ => by kernel_rfl) ?_
        refine held_take (i := 7) (v := .bool (skipT x.spans (allS g)).isSome) rfl (by kernel_rfl) (by kernel_rfl) (by kernel_rfl) (fun _ _ _ h => h) (by kernel_rfl) L6' (fun _ _ => by kernel_rfl) ?_
        refine held_take (i := 8) (v := .int .u64 ((skipT x.spans (allS g)).getD 0)) rfl (by kernel_rfl) (by kernel_rfl) (by kernel_rfl) (fun _ _ _ h => h) (by kernel_rfl) L6' (fun _ _ => by kernel_rfl) ?_
        refine held_take (i := 9) (v := .bool (skipT x.spans (allS g)).isSome) rfl (by kernel_rfl) (by kernel_rfl) (by kernel_rfl) (fun _ _ _ h => h) (by kernel_rfl) L6' (fun _ _ => by kernel_rfl) ?_
        refine held_done (by kernel_rfl) ?_
        clear CS CA hS hw L6' L6 L5 hrow z5 s4 t4 B4 R4 M4 y0
        cases hsk : skipT x.spans (allS g) with
        | some y =>
          go_wp2
          go_ret2
          exact ⟨by rw [HE2.out, tail_some hsk]; rfl, M6⟩
        | none =>
          have CS := fun V (hV : Below u6.heap.size u6 V) => sum_any (R6.below hV) hgl (some ⟨pb, po, none⟩) q n c m d x.spans x.marked hn hm (by omega) (by omega) hf hg (Row.below s6 hV) (Row.below t6 hV) hmd
          have hlw : lastW g x = if (sumG g x.spans x.marked).1 ≠ x.xor then 6 else if (sumG g x.spans x.marked).2.1 ≠ x.parity then 7 else 0 := rfl
          have HV := Lib.hid (HE2.out.trans ((tail_none hsk).trans (by rw [hlw])) : checkG g x = (if (sumG g x.spans x.marked).1 ≠ x.xor then 6 else if (sumG g x.spans x.marked).2.1 ≠ x.parity then 7 else 0, 0))
          clear hlw HE2
          generalize sumG g x.spans x.marked = sm at *
          obtain ⟨r0, r1, r2⟩ := sm
          simp only at CS
          obtain ⟨y0, y1, y2, y3, y4⟩ := AckMay.blk5 B6
          by_cases h1 : r0 = x.xor
          · subst h1
            cases hpr : x.parity <;> cases r1 <;> (
              go_wp2_with (go_at_call 119; refine (CS _ (Below.refl _ _)).mono ?_; rintro e u7 ⟨rfl, L7⟩; have B7 := B6.below L7 B6.lt; rw [hpr] at B7; obtain ⟨v0, v1, v2, v3, v4⟩ := AckMay.blk5 B7)
              go_ret2
              exact ⟨by rw [HV.out]; simp [hpr], M6.trans (L7.mono M6.size)⟩)
          · have h1' : (r0 != x.xor) = true := by simpa using h1
            go_wp2_with (go_at_call 119; refine (CS _ (Below.refl _ _)).mono ?_; rintro e u7 ⟨rfl, L7⟩; have B7 := B6.below L7 B6.lt; obtain ⟨v0, v1, v2, v3, v4⟩ := AckMay.blk5 B7)
            go_ret2
            exact ⟨by rw [HV.out]; simp [h1], M6.trans (L7.mono M6.size)⟩
      · have HE2 := Lib.hid (HE.out.trans (mid_some (hfirst (by simp))))
        clear HE hfirst hnot
        obtain ⟨fb, fo, rfl, _, c0, -⟩ := f4.at_ (i := 0) (by simp)
        simp only [Nat.zero_mul, Nat.add_zero, List.getD_cons_zero] at c0
        go_upto_region 7 with fail
        go_quiet (fail)
        go_wp2
        go_ret2
        exact ⟨by rw [HE2.out]; rfl, Base.drawn M4 _⟩
end Go.Proofs.YtkiloaebokkjbaaGreat.Led
