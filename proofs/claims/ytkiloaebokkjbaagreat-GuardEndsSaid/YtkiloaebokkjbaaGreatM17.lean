/-
  Several texts in one: TrigRef, ProofRef, ProofRef2.
-/
import Derived.Test.YtkiloaebokkjbaaGreatM16
import Derived.Test.YtkiloaebokkjbaaGreatAckMay
import Derived.Test.YtkiloaebokkjbaaGreatM5
import Derived.Test.YtkiloaebokkjbaaGreatM6
import Derived.Test.YtkiloaebokkjbaaGreatSpanRef
/-
  Contracts of the reference's Look.
-/
set_option linter.unusedSimpArgs false
set_option linter.unusedVariables false
namespace Go.Proofs.YtkiloaebokkjbaaGreat.Led
set_option linter.unusedVariables false
set_option maxRecDepth 20000
open Go.ChangeShapes Go.WideShapes Go.ChangeAt Go.RowKit
open Go.Proofs.YtkiloaebokkjbaaGreat.Base Go.Proofs.YtkiloaebokkjbaaGreat.LedPlain Go.Proofs.YtkiloaebokkjbaaGreat.SpanPlain Go.Proofs.YtkiloaebokkjbaaGreat.SpanRef
open Go.Proofs.YtkiloaebokkjbaaGreat.AckPlain (K)

theorem ref_below (a : Option Addr) (n cap : Nat) (l : List Sp) (low : Int) (w : World) (hn : l.length = n) (hm : n ≤ 140737488355328) (hz : Spans w a l) :
    Calls Tryz.prog 59 #[.slice a n cap, .int .u64 low] w fun e w' => e = .returned (.bool (belowB l low)) ∧ w = w' := by
  subst hn
  cases l with
  | nil =>
    go_enter Tryz.func59, Tryz.ntmps59
    go_wp2
    all_goals go_ret
    all_goals exact ⟨rfl, rfl⟩
  | cons s l =>
    obtain ⟨b, off, rfl, hb, c0, _⟩ := hz.at_ (i := 0) (by simp)
    have hv : belowB (s :: l) low = decide (s.1 < low) := by unfold belowB; simp
    rw [hv]
    clear hv
    simp only [List.getD_cons_zero, Nat.zero_mul, Nat.add_zero] at c0
    have hl : (0 : Int) < ((s :: l).length : Int) := by simp
    go_enter Tryz.func59, Tryz.ntmps59
    go_wp2
    all_goals go_ret
    all_goals exact ⟨rfl, rfl⟩
set_option maxHeartbeats 2000000 in
theorem ref_look {S : Nat → Prop} {w : World} {b : Nat} {g : Lg} (h : Rf S w b g) (x : K) (p q : Option Addr) (n c m d : Nat) (hn : x.spans.length = n) (hm : x.marked.length = m) (hn' : n ≤ 9223372036854775807) (hm' : m ≤ 9223372036854775807) (hf : Fits x.spans) (hg : Fits x.marked) (hs : Spans w p x.spans) (ht : Spans w q x.marked) :
    Calls Tryz.prog 27 #[.pointer (some ⟨b, 0, none⟩), .agg #[.slice p n c, .slice q m d, .int .u64 x.trigger, .int .u64 x.xor, .bool x.parity]] w fun e w' => e = .returned (.tuple #[.int .u64 (lookG g x).1, .int .i64 (lookG g x).2]) ∧ Below w.heap.size w w' := by
  have hE := Lib.hid (show lookG g x = if AckPlain.may x = false then (0, 1) else if belowB x.spans (lowN g) = true then (0, 2) else firstT x (g.l.drop (lowN g)) from rfl)
  have hlow := low_le g
  have hnl : (g.l.length : Int) ≤ 4611686018427387904 := by have := h.ok.n1; have := h.ok.l1; omega
  go_enter Tryz.func27, Tryz.ntmps27
  go_upto_region 1 with fail
  have hB := Blk.new w #[.slice p n c, .slice q m d, .int .u64 x.trigger, .int .u64 x.xor, .bool x.parity] 56
  have hL := (Below.refl w.heap.size w).alloc (Nat.le_refl _) (.cells #[.slice p n c, .slice q m d, .int .u64 x.trigger, .int .u64 x.xor, .bool x.parity] 56)
  have hR := h.below hL
  have hs1 : Spans (w.alloc (.cells #[.slice p n c, .slice q m d, .int .u64 x.trigger, .int .u64 x.xor, .bool x.parity] 56)) p x.spans := Row.below hs hL
  have ht1 : Spans (w.alloc (.cells #[.slice p n c, .slice q m d, .int .u64 x.trigger, .int .u64 x.xor, .bool x.parity] 56)) q x.marked := Row.below ht hL
  generalize w.alloc (.cells #[.slice p n c, .slice q m d, .int .u64 x.trigger, .int .u64 x.xor, .bool x.parity] 56) = V at *
  have CM := AckMay.ref_may_ack x p q n c m d V hn hm (by omega) (by omega) hf hg hs1 ht1
  obtain ⟨z0, z1, z2, z3, z4⟩ := AckMay.blk5 hB
  cases hmay : AckPlain.may x with
  | false =>
    rw [hmay] at CM hE
    go_wp2_with (go_at_call 62; refine CM.mono ?_; rintro e u1 ⟨rfl, L1⟩; have M1 := hL.trans (L1.mono hL.size))
    go_ret2
    exact ⟨by rw [hE.out]; rfl, M1⟩
  | true =>
    replace hn' : n ≤ 140737488355328 := hn ▸ (Nat.le_trans (may_le hmay).1 (by decide))
    rw [hmay] at CM hE
    go_upto_region 3 with (go_at_call 62; refine CM.mono ?_; rintro e u1 ⟨rfl, L1⟩; have M1 := hL.trans (L1.mono hL.size); have B1 := hB.below L1 hB.lt; have R1 := hR.below L1; have s1 : Spans u1 p x.spans := Row.below hs1 L1)
    clear CM hmay z0 z1 z2 z3 z4 hs1 ht1 hR hB hL
    have y0 : u1.cell? ⟨w.heap.size, 0, none⟩ = some (.slice p n c) := B1.cell 0
    have CL := fun v : In (Lt u1) => ref_low (R1.below v.h)
    have CB := fun v : In (Lt u1) => ref_below p n c x.spans (lowN g) v.w hn hn' (Row.below s1 v.h)
    have e0 := fun v : In (Lt u1) => inCell v y0
    generalize hlw : (lowN g : Int) = low at *
    cases hbl : belowB x.spans low with
    | true =>
      rw [hbl] at CB hE
      refine wp_region_in (Lt u1) (Lt.drew u1) (by kernel_rfl) (by kernel_rfl) ?_
      repeat (go_big_quiet_step (first | (go_at_call 53; refine in_below (v := .int .u64 low) ?_; exact CL _) | (go_at_call 59; refine in_same (v := .bool true) ?_; exact CB _)))
      refine wpQuiet_nil ?_
      rintro u2 ⟨⟨_, hw2⟩, rfl⟩
      have hw2 : Below u1.heap.size u1 u2 := hw2
      go_wp2
      go_ret2
      exact ⟨by rw [hE.out]; rfl, M1.trans (hw2.mono M1.size)⟩
    | false =>
      rw [hbl] at CB hE
      refine wp_region_in (Lt u1) (Lt.drew u1) (by kernel_rfl) (by kernel_rfl) ?_
      repeat (go_big_quiet_step (first | (go_at_call 53; refine in_below (v := .int .u64 low) ?_; exact CL _) | (go_at_call 59; refine in_same (v := .bool false) ?_; exact CB _)))
      refine wpQuiet_nil ?_
      rintro u2 ⟨⟨_, hw2⟩, rfl⟩
      have hw2 : Below u1.heap.size u1 u2 := hw2
      have M2 := M1.trans (hw2.mono M1.size)
      have B2 := B1.below hw2 B1.lt
      have R2 := R1.below hw2
      have s2 : Spans u2 p x.spans := Row.below s1 hw2
      have CW := ref_low R2
      rw [hlw] at CW
      have hR0 : firstT x (g.l.drop (lowN g)) = lookG g x := by rw [hE.out]; rfl
      have hlk : (lowN g : Int) = low := hlw
      clear CL CB e0 y0 R1 B1 s1 M1 hw2 hE hbl L1
      generalize hres : lookG g x = res at *
      have HRES := Lib.hid hres
      clear hres
      go_wp2_with (go_at_call 53; refine CW.mono ?_; rintro e u3 ⟨rfl, L3⟩; have M3 := M2.trans (L3.mono M2.size); have B3 := B2.below L3 B2.lt; have R3 := R2.below L3; have s3 : Spans u3 p x.spans := Row.below s2 L3)
      clear CW B2 R2 s2 M2
      go_loopw [6, 7] (fun i _ wr => ∃ k : Nat, k ≤ g.l.length ∧ i = .int .i64 k ∧ firstT x (g.l.drop k) = res ∧ Below u3.heap.size u3 wr) (fun i _ _ => g.l.length - (intOf i).toNat)
      case atStart => exact ⟨lowN g, hlow, by rw [hlk], hR0, Below.refl _ _⟩
      case round =>
        obtain ⟨k, hk, rfl, hF, hL⟩ := hrel
        have hMr := M3.trans (hL.mono M3.size)
        have hRr := R3.below hL
        obtain ⟨a, cap, c0, c1, c2, h1, h2, hz⟩ := hRr.read
        have hb := hRr.lt
        unfold maxLen at h2
        obtain ⟨z0, z1, z2, z3, z4⟩ := AckMay.blk5 (B3.below hL B3.lt)
        have hnw := (B3.below hL B3.lt).lt
        have sr : Spans wr p x.spans := Row.below s3 hL
        by_cases hlt : k < g.l.length
        · rw [firstT_step hlt] at hF
          have hlI : (k : Int) < (g.l.length : Int) := by omega
          obtain ⟨b', off', rfl, hb', e0, e1, e2, e3, e4, e5, e6, e7⟩ := hz.at_ hlt
          generalize g.l.getD k Z8 = s at *
          have CH := fun V (hV : Below wr.heap.size wr V) => ref_has p n c x.spans s.pn V hn hn' (Row.below sr hV)
          obtain ⟨s0, s1, s2, s3', s4, s5, s6, s7⟩ := s
          simp only at e0 e1 e2 e3 e4 e5 e6 e7 CH
          have hnm : namesB x ⟨s0, s1, s2, s3', s4, s5, s6, s7⟩ = (decide (s7 ≠ 4) && !s6 && (s3' == x.trigger) && has x.spans s0) := rfl
          rw [hnm] at hF
          clear hnm c0 c1
          have hA := (Below.refl wr.heap.size wr).alloc (Nat.le_refl _) (.cells #[.int .u64 s0, .int .u64 s1, .int .u64 s2, .int .u64 s3', .int .u64 s4, .bool s5, .bool s6, .int .i64 s7] 76)
          have fin : (decide (s7 ≠ 4) && !s6 && (s3' == x.trigger) && has x.spans s0) = false → firstT x (g.l.drop (k + 1)) = res := fun e => by rw [e] at hF; exact hF
          by_cases t1 : s7 = 4
          · have hF2 := fin (by rw [t1]; rfl)
            clear fin hF CH
            go_wp2
            all_goals go_roundw
            case rel => exact ⟨k + 1, by omega, by go_num, hF2, hL.alloc hL.size _⟩
            case measure => simp [intOf]; omega
          · cases s6 with
            | true =>
              have hF2 := fin (by simp)
              clear fin hF CH
              go_wp2
              all_goals go_roundw
              case rel => exact ⟨k + 1, by omega, by go_num, hF2, hL.alloc hL.size _⟩
              case measure => simp [intOf]; omega
            | false =>
              by_cases t2 : s3' = x.trigger
              · subst t2
                cases hh : has x.spans s0 with
                | true =>
                  rw [hh] at CH hF
                  have hF3 : (s0, (0 : Int)) = res := by rw [← hF]; simp [t1]
                  clear fin hF
                  subst hF3
                  go_wp2_with (go_at_call 61; refine (CH _ hA).mono ?_; rintro e u9 ⟨rfl, rfl⟩)
                  go_ret2
                  exact ⟨by rw [HRES.out]; rfl, hMr.trans (hA.mono hMr.size)⟩
                | false =>
                  rw [hh] at CH
                  have hF2 := fin (by rw [hh]; simp)
                  clear fin hF
                  go_wp2_with (go_at_call 61; refine (CH _ hA).mono ?_; rintro e u9 ⟨rfl, rfl⟩)
                  all_goals go_roundw
                  case rel => exact ⟨k + 1, by omega, by go_num, hF2, hL.alloc hL.size _⟩
                  case measure => simp [intOf]; omega
              · have hF2 := fin (by rw [show (s3' == x.trigger) = false by simpa using t2]; simp)
                clear fin hF CH
                go_wp2
                all_goals go_roundw
                case rel => exact ⟨k + 1, by omega, by go_num, hF2, hL.alloc hL.size _⟩
                case measure => simp [intOf]; omega
        · obtain rfl : k = g.l.length := by omega
          rw [List.drop_eq_nil_of_le (Nat.le_refl _)] at hF
          obtain rfl : ((0 : Int), (3 : Int)) = res := hF
          go_wp2
          go_ret2
          exact ⟨by rw [HRES.out]; rfl, hMr⟩
end Go.Proofs.YtkiloaebokkjbaaGreat.Led

/-
  Contracts of the reference's Sum and CheckAck.
-/
set_option linter.unusedSimpArgs false
set_option linter.unusedVariables false
namespace Go.Proofs.YtkiloaebokkjbaaGreat.Led
set_option linter.unusedVariables false
set_option maxRecDepth 20000
open Go.ChangeShapes Go.WideShapes Go.ChangeAt Go.RowKit
open Go.Proofs.YtkiloaebokkjbaaGreat.Base Go.Proofs.YtkiloaebokkjbaaGreat.LedPlain Go.Proofs.YtkiloaebokkjbaaGreat.SpanPlain Go.Proofs.YtkiloaebokkjbaaGreat.SpanRef
open Go.Proofs.YtkiloaebokkjbaaGreat.AckPlain (K)

theorem some_world {P : Program} {c : Code} {Q : Exit → Act → World → Prop} {a : Act} {w : World} (h : ∀ W, W = w → c.wp P Q a W) : c.wp P Q a w := h w rfl
set_option maxHeartbeats 4000000 in
theorem ref_sum {S : Nat → Prop} {w : World} {b : Nat} {g : Lg} (h : Rf S w b g) (p q : Option Addr) (n c m d : Nat) (cl mk : List Sp) (hn : cl.length = n) (hm : mk.length = m) (hn' : n ≤ 140737488355328) (hm' : m ≤ 140737488355328) (hf : Fits cl) (hg : Fits mk) (hs : Spans w p cl) (ht : Spans w q mk) :
    Calls Tryz.prog 26 #[.pointer (some ⟨b, 0, none⟩), .slice p n c, .slice q m d] w fun e w' => e = .returned (.tuple #[.int .u64 (sumG g cl mk).1, .bool (sumG g cl mk).2.1, .bool (sumG g cl mk).2.2]) ∧ Below w.heap.size w w' := by
  have hlow := low_le g
  have hnl : (g.l.length : Int) ≤ 4611686018427387904 := by have := h.ok.n1; have := h.ok.l1; omega
  have G1 := fun V (hV : Below w.heap.size w V) => ref_good p n c cl V hn hn' hf (Row.below hs hV)
  have G2 := fun V (hV : Below w.heap.size w V) => ref_good q m d mk V hm hm' hg (Row.below ht hV)
  have CL := fun V (hV : Below w.heap.size w V) => ref_low (h.below hV)
  have CN := fun V (hV : Below w.heap.size w V) => ref_next (h.below hV)
  have CB := fun V (hV : Below w.heap.size w V) => ref_below p n c cl (lowN g) V hn hn' (Row.below hs hV)
  have hr := Below.refl w.heap.size w
  cases hgc : good cl with
  | false =>
    have hv : sumG g cl mk = (0, false, false) := by unfold sumG; rw [if_pos hgc]
    rw [hv]
    rw [hgc] at G1
    go_enter Tryz.func26, Tryz.ntmps26
    go_wp2_with (go_at_call 58; (with_reducible refine (G1 _ hr).mono ?_); rintro e u1 ⟨rfl, L1⟩)
    go_ret3
    exact ⟨rfl, L1⟩
  | true =>
    rw [hgc] at G1
    have A1 := fun V (hV : Below w.heap.size w V) => G1 V hV
    cases hgm : good mk with
    | false =>
      have hv : sumG g cl mk = (0, false, false) := by unfold sumG; rw [if_neg (by rw [hgc]; decide), if_pos hgm]
      rw [hv]
      rw [hgm] at G2
      go_enter Tryz.func26, Tryz.ntmps26
      go_wp2_with (first
          | (go_at_call 58; (with_reducible refine (G1 _ hr).mono ?_); rintro e u1 ⟨rfl, L1⟩; clear G1)
          | (go_at_call 58; (with_reducible refine (G2 _ L1).mono ?_); rintro e u2 ⟨rfl, L2⟩; have M2 := Base.next L1 L2))
      go_ret3
      exact ⟨rfl, M2⟩
    | true =>
      rw [hgm] at G2
      generalize hlw : (lowN g : Int) = low at CL CB
      cases hbl : belowB cl low with
      | true =>
        have hv : sumG g cl mk = (0, false, false) := by unfold sumG; rw [if_neg (by rw [hgc]; decide), if_neg (by rw [hgm]; decide), hlw, if_pos hbl]
        rw [hv]
        rw [hbl] at CB
        go_enter Tryz.func26, Tryz.ntmps26
        go_wp2_with (first
          | (go_at_call 58; (with_reducible refine (G1 _ hr).mono ?_); rintro e u1 ⟨rfl, L1⟩; clear G1)
          | (go_at_call 58; (with_reducible refine (G2 _ L1).mono ?_); rintro e u2 ⟨rfl, L2⟩; have M2 := Base.next L1 L2)
          | (go_at_call 53; (with_reducible refine (CL _ M2).mono ?_); rintro e u3 ⟨rfl, L3⟩; have M3 := Base.next M2 L3)
          | (go_at_call 59; (with_reducible refine (CB _ M3).mono ?_); rintro e u4 ⟨rfl, rfl⟩))
        go_ret3
        exact ⟨rfl, M3⟩
      | false =>
        rw [hbl] at CB
        have hv : sumG g cl mk = if aboveB cl g.l.length = true then (0, false, false) else sumT cl mk (g.l.drop (lowN g)) 0 false := by unfold sumG allS; rw [if_neg (by rw [hgc]; decide), if_neg (by rw [hgm]; decide), hlw, if_neg (by rw [hbl]; decide)]
        generalize hres : sumG g cl mk = res at *
        obtain ⟨r0, r1, r2⟩ := res
        replace hres := Lib.hid hres
        replace hv := Lib.hid hv
        have hlk := Lib.hid hlw
        have hge : cl = [] ∨ 0 < cl.length := by cases cl with | nil => exact .inl rfl | cons _ _ => exact .inr (by simp)
        go_enter Tryz.func26, Tryz.ntmps26
        go_upto_region 4 with (first
          | (go_at_call 58; (with_reducible refine (G1 _ hr).mono ?_); rintro e u1 ⟨rfl, L1⟩; clear G1)
          | (go_at_call 58; (with_reducible refine (G2 _ L1).mono ?_); rintro e u2 ⟨rfl, L2⟩; have M2 := Base.next L1 L2)
          | (go_at_call 53; (with_reducible refine (CL _ M2).mono ?_); rintro e u3 ⟨rfl, L3⟩; have M3 := Base.next M2 L3)
          | (go_at_call 59; (with_reducible refine (CB _ M3).mono ?_); rintro e u4 ⟨rfl, rfl⟩))
        have R3 := h.below M3
        have CN3 := fun v : In (Lt u3) => ref_next (R3.below v.h)
        rcases hge with hnil | hgt
        · have hz0 : (n : Int) = 0 := by rw [← hn, hnil]; rfl
          have hA : aboveB cl g.l.length = false := by unfold aboveB; rw [hnil]; rfl
          rw [hA] at hv
          have hF0 : sumT cl mk (g.l.drop (lowN g)) 0 false = (r0, r1, r2) := hv.out.symm
          clear hA hnil
          refine wp_region_in (Lt u3) (Lt.drew u3) (by kernel_rfl) (by kernel_rfl) ?_
          repeat (go_big_quiet_step ((go_at_call 60; exact in_same (CN3 _))))
          refine wpQuiet_nil ?_
          rintro u5 ⟨⟨_, hw5⟩, rfl⟩
          have hw5 : Below u3.heap.size u3 u5 := hw5
          have M5 := Base.next M3 hw5
          have CW := CL u5 M5
          clear CN3 R3 CN CB A1 G2 hv hw5 L1 L2 L3 M2 M3 hgc hgm hbl hf hg
          go_wp2_with ((go_at_call 53; refine CW.mono ?_; rintro e u6 ⟨rfl, L6⟩; have M6 := Base.next M5 L6))
          clear CW CL M5 L6
          have R6 := h.below M6
          have s6 : Spans u6 _ cl := Row.below hs M6
          have t6 : Spans u6 q mk := Row.below ht M6
          go_loopw [10, 11, 12, 13] (fun x o i _ wr => ∃ (k : Nat) (X : Int) (O : Bool), k ≤ g.l.length ∧ x = .int .u64 X ∧ o = .bool O ∧ i = .int .i64 k ∧ sumT cl mk (g.l.drop k) X O = (r0, r1, r2) ∧ Below u6.heap.size u6 wr) (fun _ _ i _ _ => g.l.length - (intOf i).toNat)
          case atStart => exact ⟨lowN g, 0, false, hlow, rfl, rfl, by rw [hlk.out], hF0, Below.refl _ _⟩
          case round =>
            obtain ⟨k, X, O, hk, rfl, rfl, rfl, hF, hL⟩ := hrel
            have hMr := Base.next M6 hL
            have hRr := R6.below hL
            obtain ⟨a, cap, c0, c1, c2, h1, h2, hz⟩ := hRr.read
            have hb := hRr.lt
            unfold maxLen at h2
            have sr : Spans wr _ cl := Row.below s6 hL
            have tr : Spans wr q mk := Row.below t6 hL
            by_cases hlt : k < g.l.length
            · rw [sumT_step hlt] at hF
              have hlI : (k : Int) < (g.l.length : Int) := by omega
              obtain ⟨b', off', rfl, hb', e0, e1, e2, e3, e4, e5, e6, e7⟩ := hz.at_ hlt
              generalize g.l.getD k Z8 = s at *
              have CH1 := fun V (hV : Below wr.heap.size wr V) => ref_has _ _ c cl s.pn V hn hn' (Row.below sr hV)
              have CH2 := fun V (hV : Below wr.heap.size wr V) => ref_has q m d mk s.pn V hm hm' (Row.below tr hV)
              obtain ⟨s0, s1, s2, s3', s4, s5, s6', s7⟩ := s
              simp only at e0 e1 e2 e3 e4 e5 e6 e7 CH1 CH2 hF
              clear c0 c1
              have hA := (Below.refl wr.heap.size wr).alloc (Nat.le_refl _) (.cells #[.int .u64 s0, .int .u64 s1, .int .u64 s2, .int .u64 s3', .int .u64 s4, .bool s5, .bool s6', .int .i64 s7] 76)
              cases hh : has cl s0 with
              | false =>
                rw [hh] at CH1
                rw [if_pos hh] at hF
                go_wp2_with ((go_at_call 61; (with_reducible refine (CH1 _ hA).mono ?_); rintro e u9 ⟨rfl, rfl⟩))
                all_goals go_roundw
                case rel => exact ⟨k + 1, X, O, by omega, rfl, rfl, by go_num, hF, hL.alloc hL.size _⟩
                case measure => simp [intOf]; omega
              | true =>
                rw [hh] at CH1
                rw [if_neg (by rw [hh]; decide)] at hF
                by_cases t1 : s7 = 4
                · rw [if_pos t1] at hF
                  subst t1
                  injection hF with f1 f2
                  injection f2 with f2 f3
                  subst f1
                  subst f2
                  subst f3
                  go_wp2_with ((go_at_call 61; (with_reducible refine (CH1 _ hA).mono ?_); rintro e u9 ⟨rfl, rfl⟩))
                  go_ret3
                  exact ⟨rfl, hMr.trans (hA.mono hMr.size)⟩
                · rw [if_neg t1] at hF
                  have hx : bits .xor .u64 X s3' = xr X s3' := rfl
                  cases s5 with
                  | false =>
                    rw [Bool.false_and, if_neg (by decide)] at hF
                    generalize xr X s3' = X' at *
                    go_wp2_with ((go_at_call 61; (with_reducible refine (CH1 _ hA).mono ?_); rintro e u9 ⟨rfl, rfl⟩))
                    all_goals go_roundw
                    case rel => exact ⟨k + 1, X', O, by omega, rfl, rfl, by go_num, hF, hL.alloc hL.size _⟩
                    case measure => simp [intOf]; omega
                  | true =>
                    cases hm2 : has mk s0 with
                    | true =>
                      rw [hm2] at CH2
                      rw [Bool.true_and, hm2, if_neg (by decide)] at hF
                      generalize xr X s3' = X' at *
                      go_wp2_with (first
                        | (go_at_call 61; (with_reducible refine (CH1 _ hA).mono ?_); rintro e u9 ⟨rfl, rfl⟩)
                        | (go_at_call 61; (with_reducible refine (CH2 _ hA).mono ?_); rintro e u9 ⟨rfl, rfl⟩))
                      all_goals go_roundw
                      case rel => exact ⟨k + 1, X', O, by omega, rfl, rfl, by go_num, hF, hL.alloc hL.size _⟩
                      case measure => simp [intOf]; omega
                    | false =>
                      rw [hm2] at CH2
                      simp only [Bool.true_and, hm2, Bool.not_false, if_true] at hF
                      generalize xr X s3' = X' at *
                      go_wp2_with (first
                        | (go_at_call 61; (with_reducible refine (CH1 _ hA).mono ?_); rintro e u9 ⟨rfl, rfl⟩)
                        | (go_at_call 61; (with_reducible refine (CH2 _ hA).mono ?_); rintro e u9 ⟨rfl, rfl⟩))
                      all_goals go_roundw
                      case rel => exact ⟨k + 1, X', !O, by omega, rfl, rfl, by go_num, hF, hL.alloc hL.size _⟩
                      case measure => simp [intOf]; omega
            · obtain rfl : k = g.l.length := by omega
              rw [List.drop_eq_nil_of_le (Nat.le_refl _)] at hF
              injection hF with f1 f2
              injection f2 with f2 f3
              subst f1
              subst f2
              subst f3
              go_wp2
              go_ret3
              exact ⟨rfl, hMr⟩
        · obtain ⟨k0, rfl⟩ : ∃ k, n = k + 1 := ⟨n - 1, by omega⟩
          have hlast : (cl.getD (cl.length - 1) (0, 0)) = cl.getD k0 (0, 0) := by rw [hn, Nat.add_sub_cancel]
          have s3 : Spans u3 p cl := Row.below hs M3
          obtain ⟨b', off', rfl, hb', c0, c1⟩ := s3.at_ (i := k0) (by omega)
          have hA : aboveB cl g.l.length = decide ((g.l.length : Int) ≤ (cl.getD k0 (0, 0)).2) := by unfold aboveB; rw [hlast, decide_eq_true hgt, Bool.true_and]
          rw [hA] at hv
          clear hlast hA c0 s3
          generalize (cl.getD k0 (0, 0)).2 = hi at *
          have e1 := fun v : In (Lt u3) => inCell v c1
          by_cases hab : (g.l.length : Int) ≤ hi
          · rw [decide_eq_true hab, if_pos rfl] at hv
            injection hv.out with hv1 hv2
            injection hv2 with hv2 hv3
            refine wp_region_in (Lt u3) (Lt.drew u3) (by kernel_rfl) (by kernel_rfl) ?_
            repeat (go_big_quiet_step ((go_at_call 60; exact in_same (CN3 _))))
            refine wpQuiet_nil ?_
            rintro u5 ⟨⟨_, hw5⟩, rfl⟩
            have hw5 : Below u3.heap.size u3 u5 := hw5
            have M5 := Base.next M3 hw5
            subst hv1
            subst hv2
            subst hv3
            go_wp2
            go_ret3
            exact ⟨rfl, M5⟩
          · have hF0 : sumT cl mk (g.l.drop (lowN g)) 0 false = (r0, r1, r2) := by
              have := hv.out
              rw [decide_eq_false hab, if_neg (by decide)] at this
              exact this.symm
            refine wp_region_in (Lt u3) (Lt.drew u3) (by kernel_rfl) (by kernel_rfl) ?_
            repeat (go_big_quiet_step ((go_at_call 60; exact in_same (CN3 _))))
            refine wpQuiet_nil ?_
            rintro u5 ⟨⟨_, hw5⟩, rfl⟩
            have hw5 : Below u3.heap.size u3 u5 := hw5
            have M5 := Base.next M3 hw5
            have CW := CL u5 M5
            clear CN3 R3 CN CB A1 G2 hv hw5 L1 L2 L3 M2 M3 hgc hgm hbl hf hg
            go_wp2_with ((go_at_call 53; refine CW.mono ?_; rintro e u6 ⟨rfl, L6⟩; have M6 := Base.next M5 L6))
            clear CW CL M5 L6
            have R6 := h.below M6
            have s6 : Spans u6 _ cl := Row.below hs M6
            have t6 : Spans u6 q mk := Row.below ht M6
            go_loopw [10, 11, 12, 13] (fun x o i _ wr => ∃ (k : Nat) (X : Int) (O : Bool), k ≤ g.l.length ∧ x = .int .u64 X ∧ o = .bool O ∧ i = .int .i64 k ∧ sumT cl mk (g.l.drop k) X O = (r0, r1, r2) ∧ Below u6.heap.size u6 wr) (fun _ _ i _ _ => g.l.length - (intOf i).toNat)
            case atStart => exact ⟨lowN g, 0, false, hlow, rfl, rfl, by rw [hlk.out], hF0, Below.refl _ _⟩
            case round =>
              obtain ⟨k, X, O, hk, rfl, rfl, rfl, hF, hL⟩ := hrel
              have hMr := Base.next M6 hL
              have hRr := R6.below hL
              obtain ⟨a, cap, c0, c1, c2, h1, h2, hz⟩ := hRr.read
              have hb := hRr.lt
              unfold maxLen at h2
              have sr : Spans wr _ cl := Row.below s6 hL
              have tr : Spans wr q mk := Row.below t6 hL
              by_cases hlt : k < g.l.length
              · rw [sumT_step hlt] at hF
                have hlI : (k : Int) < (g.l.length : Int) := by omega
                obtain ⟨b', off', rfl, hb', e0, e1, e2, e3, e4, e5, e6, e7⟩ := hz.at_ hlt
                generalize g.l.getD k Z8 = s at *
                have CH1 := fun V (hV : Below wr.heap.size wr V) => ref_has _ _ c cl s.pn V hn hn' (Row.below sr hV)
                have CH2 := fun V (hV : Below wr.heap.size wr V) => ref_has q m d mk s.pn V hm hm' (Row.below tr hV)
                obtain ⟨s0, s1, s2, s3', s4, s5, s6', s7⟩ := s
                simp only at e0 e1 e2 e3 e4 e5 e6 e7 CH1 CH2 hF
                clear c0 c1
                have hA := (Below.refl wr.heap.size wr).alloc (Nat.le_refl _) (.cells #[.int .u64 s0, .int .u64 s1, .int .u64 s2, .int .u64 s3', .int .u64 s4, .bool s5, .bool s6', .int .i64 s7] 76)
                cases hh : has cl s0 with
                | false =>
                  rw [hh] at CH1
                  rw [if_pos hh] at hF
                  go_wp2_with ((go_at_call 61; (with_reducible refine (CH1 _ hA).mono ?_); rintro e u9 ⟨rfl, rfl⟩))
                  all_goals go_roundw
                  case rel => exact ⟨k + 1, X, O, by omega, rfl, rfl, by go_num, hF, hL.alloc hL.size _⟩
                  case measure => simp [intOf]; omega
                | true =>
                  rw [hh] at CH1
                  rw [if_neg (by rw [hh]; decide)] at hF
                  by_cases t1 : s7 = 4
                  · rw [if_pos t1] at hF
                    subst t1
                    injection hF with f1 f2
                    injection f2 with f2 f3
                    subst f1
                    subst f2
                    subst f3
                    go_wp2_with ((go_at_call 61; (with_reducible refine (CH1 _ hA).mono ?_); rintro e u9 ⟨rfl, rfl⟩))
                    go_ret3
                    exact ⟨rfl, hMr.trans (hA.mono hMr.size)⟩
                  · rw [if_neg t1] at hF
                    have hx : bits .xor .u64 X s3' = xr X s3' := rfl
                    cases s5 with
                    | false =>
                      rw [Bool.false_and, if_neg (by decide)] at hF
                      generalize xr X s3' = X' at *
                      go_wp2_with ((go_at_call 61; (with_reducible refine (CH1 _ hA).mono ?_); rintro e u9 ⟨rfl, rfl⟩))
                      all_goals go_roundw
                      case rel => exact ⟨k + 1, X', O, by omega, rfl, rfl, by go_num, hF, hL.alloc hL.size _⟩
                      case measure => simp [intOf]; omega
                    | true =>
                      cases hm2 : has mk s0 with
                      | true =>
                        rw [hm2] at CH2
                        rw [Bool.true_and, hm2, if_neg (by decide)] at hF
                        generalize xr X s3' = X' at *
                        go_wp2_with (first
                          | (go_at_call 61; (with_reducible refine (CH1 _ hA).mono ?_); rintro e u9 ⟨rfl, rfl⟩)
                          | (go_at_call 61; (with_reducible refine (CH2 _ hA).mono ?_); rintro e u9 ⟨rfl, rfl⟩))
                        all_goals go_roundw
                        case rel => exact ⟨k + 1, X', O, by omega, rfl, rfl, by go_num, hF, hL.alloc hL.size _⟩
                        case measure => simp [intOf]; omega
                      | false =>
                        rw [hm2] at CH2
                        simp only [Bool.true_and, hm2, Bool.not_false, if_true] at hF
                        generalize xr X s3' = X' at *
                        go_wp2_with (first
                          | (go_at_call 61; (with_reducible refine (CH1 _ hA).mono ?_); rintro e u9 ⟨rfl, rfl⟩)
                          | (go_at_call 61; (with_reducible refine (CH2 _ hA).mono ?_); rintro e u9 ⟨rfl, rfl⟩))
                        all_goals go_roundw
                        case rel => exact ⟨k + 1, X', !O, by omega, rfl, rfl, by go_num, hF, hL.alloc hL.size _⟩
                        case measure => simp [intOf]; omega
              · obtain rfl : k = g.l.length := by omega
                rw [List.drop_eq_nil_of_le (Nat.le_refl _)] at hF
                injection hF with f1 f2
                injection f2 with f2 f3
                subst f1
                subst f2
                subst f3
                go_wp2
                go_ret3
                exact ⟨rfl, hMr⟩
end Go.Proofs.YtkiloaebokkjbaaGreat.Led

/-
  Contract of the reference's CheckAck.
-/
set_option linter.unusedSimpArgs false
set_option linter.unusedVariables false
namespace Go.Proofs.YtkiloaebokkjbaaGreat.Led
set_option linter.unusedVariables false
set_option maxRecDepth 20000
open Go.ChangeShapes Go.WideShapes Go.ChangeAt Go.RowKit
open Go.Proofs.YtkiloaebokkjbaaGreat.Base Go.Proofs.YtkiloaebokkjbaaGreat.LedPlain Go.Proofs.YtkiloaebokkjbaaGreat.SpanPlain Go.Proofs.YtkiloaebokkjbaaGreat.SpanRef
open Go.Proofs.YtkiloaebokkjbaaGreat.AckPlain (K)

set_option maxHeartbeats 4000000 in
theorem ref_check_ack {S : Nat → Prop} {w : World} {b : Nat} {g : Lg} (h : Rf S w b g) (x : K) (p q : Option Addr) (n c m d : Nat) (hn : x.spans.length = n) (hm : x.marked.length = m) (hn' : n ≤ 9223372036854775807) (hm' : m ≤ 9223372036854775807) (hf : Fits x.spans) (hg : Fits x.marked) (hs : Spans w p x.spans) (ht : Spans w q x.marked) :
    Calls Tryz.prog 84 #[.pointer (some ⟨b, 0, none⟩), .agg #[.slice p n c, .slice q m d, .int .u64 x.trigger, .int .u64 x.xor, .bool x.parity]] w fun e w' => e = .returned (.tuple #[.int .i64 (checkG g x).1, .int .u64 (checkG g x).2]) ∧ Below w.heap.size w w' := by
  have hlow := low_le g
  have hnl : (g.l.length : Int) ≤ 4611686018427387904 := by have := h.ok.n1; have := h.ok.l1; omega
  generalize hres : checkG g x = res
  obtain ⟨r0, r1⟩ := res
  replace hres := Lib.hid hres
  go_enter Tryz.func84, Tryz.ntmps84
  go_upto_region 1 with fail
  refine some_world ?_
  intro V hV
  obtain ⟨hB, hL⟩ : Blk V w.heap.size #[.slice p n c, .slice q m d, .int .u64 x.trigger, .int .u64 x.xor, .bool x.parity] 56 ∧ Below w.heap.size w V := by
    subst hV
    exact ⟨Blk.new _ _ _, (Below.refl _ _).alloc (Nat.le_refl _) _⟩
  clear hV
  have hR := h.below hL
  have hs1 : Spans V p x.spans := Row.below hs hL
  have ht1 : Spans V q x.marked := Row.below ht hL
  have CM := AckMay.ref_may_ack x p q n c m d V hn hm (by omega) (by omega) hf hg hs1 ht1
  obtain ⟨z0, z1, z2, z3, z4⟩ := AckMay.blk5 hB
  cases hmay : AckPlain.may x with
  | false =>
    have hv : checkG g x = (1, 0) := by unfold checkG; rw [if_pos hmay]
    rw [hres.out] at hv
    injection hv with hv1 hv2
    subst hv1
    subst hv2
    rw [hmay] at CM
    go_wp2_with (go_at_call 62; refine CM.mono ?_; rintro e u1 ⟨rfl, L1⟩; have M1 := hL.trans (L1.mono hL.size))
    go_ret2
    exact ⟨rfl, M1⟩
  | true =>
    replace hn' : n ≤ 140737488355328 := hn ▸ (Nat.le_trans (may_le hmay).1 (by decide))
    replace hm' : m ≤ 140737488355328 := hm ▸ (Nat.le_trans (may_le hmay).2 (by decide))
    rw [hmay] at CM
    have hv : (r0, r1) = if belowB x.spans (lowN g) = true then (2, 0) else midG g x := by rw [← hres.out]; unfold checkG; rw [if_neg (by rw [hmay]; decide)]
    go_upto_region 3 with (go_at_call 62; refine CM.mono ?_; rintro e u1 ⟨rfl, L1⟩; have M1 := hL.trans (L1.mono hL.size); have B1 := hB.below L1 hB.lt; have R1 := hR.below L1; have s1 : Spans u1 p x.spans := Row.below hs1 L1; have t1 : Spans u1 q x.marked := Row.below ht1 L1)
    clear CM hmay z0 z1 z2 z3 z4 hs1 ht1 hR hB hL L1
    have y0 : u1.cell? ⟨w.heap.size, 0, none⟩ = some (.slice p n c) := B1.cell 0
    have CL := fun v : In (Lt u1) => ref_low (R1.below v.h)
    have CB := fun v : In (Lt u1) => ref_below p n c x.spans (lowN g) v.w hn hn' (Row.below s1 v.h)
    have e0 := fun v : In (Lt u1) => inCell v y0
    generalize hlw : (lowN g : Int) = low at CL CB hv
    cases hbl : belowB x.spans low with
    | true =>
      rw [hbl, if_pos rfl] at hv
      injection hv with hv1 hv2
      subst hv1
      subst hv2
      rw [hbl] at CB
      refine wp_region_in (Lt u1) (Lt.drew u1) (by kernel_rfl) (by kernel_rfl) ?_
      repeat (go_big_quiet_step (first
        | (go_at_call 53; refine in_below (v := .int .u64 low) ?_; exact CL _)
        | (go_at_call 59; refine in_same (v := .bool true) ?_; exact CB _)))
      refine wpQuiet_nil ?_
      rintro u2 ⟨⟨_, hw2⟩, rfl⟩
      have hw2 : Below u1.heap.size u1 u2 := hw2
      go_wp2
      go_ret2
      exact ⟨rfl, M1.trans (hw2.mono M1.size)⟩
    | false =>
      rw [hbl, if_neg (by decide)] at hv
      rw [hbl] at CB
      refine wp_region_in (Lt u1) (Lt.drew u1) (by kernel_rfl) (by kernel_rfl) ?_
      repeat (go_big_quiet_step (first
        | (go_at_call 53; refine in_below (v := .int .u64 low) ?_; exact CL _)
        | (go_at_call 59; refine in_same (v := .bool false) ?_; exact CB _)))
      refine wpQuiet_nil ?_
      rintro u2 ⟨⟨_, hw2⟩, rfl⟩
      have hw2 : Below u1.heap.size u1 u2 := hw2
      have M2 := M1.trans (hw2.mono M1.size)
      have B2 := B1.below hw2 B1.lt
      have R2 := R1.below hw2
      have s2 : Spans u2 p x.spans := Row.below s1 hw2
      have t2 : Spans u2 q x.marked := Row.below t1 hw2
      have hl0 : 0 ≤ low ∧ low ≤ 4611686018427387904 := by omega
      have hlk := Lib.hid hlw
      have HV := Lib.hid hv
      clear CL CB e0 y0 R1 B1 s1 t1 M1 hw2 hbl hres hv hlw
      subst hn
      go_wp2
      go_loopw [6] (fun i wr => ∃ k : Nat, k ≤ x.spans.length ∧ i = .int .i64 k ∧ aheadT g.l.length (x.spans.drop k) = aheadT g.l.length x.spans ∧ Below u2.heap.size u2 wr) (fun i _ => x.spans.length - (intOf i).toNat)
      case atStart => exact ⟨0, Nat.zero_le _, rfl, rfl, Below.refl _ _⟩
      case round =>
        obtain ⟨k, hk, rfl, hF, hL⟩ := hrel
        have hMr := Base.next M2 hL
        have Rr := R2.below hL
        have Br := B2.below hL B2.lt
        have hc0 : wr.cell? ⟨w.heap.size, 0, none⟩ = some (.slice p x.spans.length c) := Br.cell 0
        have sr : Spans wr p x.spans := Row.below s2 hL
        by_cases hlt : k < x.spans.length
        · rw [aheadT_step hlt] at hF
          have hkI : (k : Int) < (x.spans.length : Int) := by omega
          obtain ⟨b', off', rfl, hb', c0, c1⟩ := sr.at_ hlt
          generalize (x.spans.getD k (0, 0)).1 = lo at *
          generalize (x.spans.getD k (0, 0)).2 = hi at *
          have CN := fun v : In (Lt wr) => ref_next (Rr.below v.h)
          have e0 := fun v : In (Lt wr) => inCell v hc0
          have e1 := fun v : In (Lt wr) => inCell v c0
          have e2 := fun v : In (Lt wr) => inCell v c1
          go_upto_region 8 with fail
          by_cases hab : (g.l.length : Int) ≤ hi
          · rw [if_pos hab] at hF
            have hv := HV.out
            rw [mid_some hF.symm] at hv
            injection hv with hv1 hv2
            generalize hmx : max lo (g.l.length : Int) = mx at *
            subst hv1
            subst hv2
            refine wp_region_in (Lt wr) (Lt.drew wr) (by kernel_rfl) (by kernel_rfl) ?_
            repeat (go_big_quiet_step ((go_at_call 60; exact in_same (CN _))))
            refine wpQuiet_nil ?_
            rintro u3 ⟨⟨_, hw3⟩, rfl⟩
            have hw3 : Below wr.heap.size wr u3 := hw3
            have M3 := Base.next hMr hw3
            have R3 := Rr.below hw3
            have CN := fun v : In (Lt u3) => ref_next (R3.below v.h)
            have e0 := fun v : In (Lt u3) => inCell v (e0 ⟨u3, hw3⟩)
            have e1 := fun v : In (Lt u3) => inCell v (e1 ⟨u3, hw3⟩)
            go_upto_region 9 with fail
            have hmx' : (if lo < (g.l.length : Int) then (g.l.length : Int) else lo) = r1 := by rw [← hmx]; omega
            clear hmx hF HV hab
            refine wp_region_in (Lt u3) (Lt.drew u3) (by kernel_rfl) (by kernel_rfl) ?_
            repeat (go_big_quiet_step ((go_at_call 60; exact in_same (CN _))))
            refine wpQuiet_nil ?_
            rintro u4 ⟨⟨_, hw4⟩, rfl⟩
            have hw4 : Below u3.heap.size u3 u4 := hw4
            go_wp2
            go_ret2
            exact ⟨rfl, Base.next M3 hw4⟩
          · rw [if_neg hab] at hF
            refine wp_region_in (Lt wr) (Lt.drew wr) (by kernel_rfl) (by kernel_rfl) ?_
            repeat (go_big_quiet_step ((go_at_call 60; exact in_same (CN _))))
            refine wpQuiet_nil ?_
            rintro u3 ⟨⟨_, hw3⟩, rfl⟩
            have hw3 : Below wr.heap.size wr u3 := hw3
            go_wp2
            all_goals go_roundw
            case rel => exact ⟨k + 1, by omega, by go_num, hF, Base.next hL hw3⟩
            case measure => simp [intOf]; omega
        · obtain rfl : k = x.spans.length := by omega
          rw [List.drop_eq_nil_of_le (Nat.le_refl _)] at hF
          have hv := HV.out
          rw [mid_none hF.symm] at hv
          have HV := Lib.hid hv
          clear hv hF
          have CW := ref_low Rr
          rw [hlk.out] at CW
          have tr : Spans wr q x.marked := Row.below t2 hL
          go_wp2_with (go_at_call 53; refine CW.mono ?_; rintro e u3 ⟨rfl, L3⟩; have M3 := hMr.trans (L3.mono hMr.size); have B3 := Br.below L3 Br.lt; have R3 := Rr.below L3; have s3 : Spans u3 p x.spans := Row.below sr L3; have t3 : Spans u3 q x.marked := Row.below tr L3)
          clear CW hc0 sr tr Rr Br hMr hL L3
          go_loopw [7] (fun i wr => ∃ k : Nat, k ≤ g.l.length ∧ i = .int .i64 k ∧ skipT x.spans (g.l.drop k) = skipT x.spans (allS g) ∧ Below u3.heap.size u3 wr) (fun i _ => g.l.length - (intOf i).toNat)
          case atStart => exact ⟨lowN g, hlow, by rw [hlk.out], rfl, Below.refl _ _⟩
          case round =>
            obtain ⟨k, hk, rfl, hF, hL⟩ := hrel
            have hMr := Base.next M3 hL
            have hRr := R3.below hL
            obtain ⟨a, cap, c0, c1, c2, h1, h2, hz⟩ := hRr.read
            have hb := hRr.lt
            unfold maxLen at h2
            have Br := B3.below hL B3.lt
            obtain ⟨z0, z1, z2, z3, z4⟩ := AckMay.blk5 Br
            have sr : Spans wr p x.spans := Row.below s3 hL
            have tr : Spans wr q x.marked := Row.below t3 hL
            by_cases hlt : k < g.l.length
            · rw [skipT_step hlt] at hF
              have hlI : (k : Int) < (g.l.length : Int) := by omega
              obtain ⟨b', off', rfl, hb', e0, e1, e2, e3, e4, e5, e6, e7⟩ := hz.at_ hlt
              generalize g.l.getD k Z8 = s at *
              have CH := fun v : In (Lt wr) => ref_has p x.spans.length c x.spans s.pn v.w rfl hn' (Row.below sr v.h)
              obtain ⟨s0, s1, s2, s3', s4, s5, s6', s7⟩ := s
              simp only at e0 e7 CH hF
              have d0 := fun v : In (Lt wr) => inCell v e0
              have d7 := fun v : In (Lt wr) => inCell v e7
              have y0 := fun v : In (Lt wr) => inCell v z0
              have x2 := fun v : In (Lt wr) => inCell v c2
              clear e1 e2 e3 e4 e5 e6 z1 z2 z3 z4 c0 c1 tr
              go_upto_region 13 with fail
              by_cases t1 : s7 = 4
              · subst t1
                cases hh : has x.spans s0 with
                | true =>
                  rw [hh, if_pos ⟨rfl, rfl⟩] at hF
                  rw [hh] at CH
                  have hv := HV.out
                  rw [tail_some hF.symm] at hv
                  injection hv with hv1 hv2
                  subst hv1
                  subst hv2
                  clear hF HV
                  refine wp_region_in (Lt wr) (Lt.drew wr) (by kernel_rfl) (by kernel_rfl) ?_
                  repeat (go_big_quiet_step ((go_at_call 61; exact in_same (CH _))))
                  refine wpQuiet_nil ?_
                  rintro u4 ⟨⟨_, hw4⟩, rfl⟩
                  have hw4 : Below wr.heap.size wr u4 := hw4
                  have M4 := Base.next hMr hw4
                  have e0 := fun v : In (Lt u4) => inCell v (d0 ⟨u4, hw4⟩)
                  have e2 := fun v : In (Lt u4) => inCell v (x2 ⟨u4, hw4⟩)
                  go_upto_region 14 with fail
                  refine wp_region_in (Lt u4) (Lt.drew u4) (by kernel_rfl) (by kernel_rfl) ?_
                  repeat (go_big_quiet_step (fail))
                  refine wpQuiet_nil ?_
                  rintro u5 ⟨⟨_, hw5⟩, rfl⟩
                  have hw5 : Below u4.heap.size u4 u5 := hw5
                  go_wp2
                  go_ret2
                  exact ⟨rfl, Base.next M4 hw5⟩
                | false =>
                  rw [hh, if_neg (fun e => by cases e.2)] at hF
                  rw [hh] at CH
                  refine wp_region_in (Lt wr) (Lt.drew wr) (by kernel_rfl) (by kernel_rfl) ?_
                  repeat (go_big_quiet_step ((go_at_call 61; exact in_same (CH _))))
                  refine wpQuiet_nil ?_
                  rintro u4 ⟨⟨_, hw4⟩, rfl⟩
                  have hw4 : Below wr.heap.size wr u4 := hw4
                  go_wp2
                  all_goals go_roundw
                  case rel => exact ⟨k + 1, by omega, by go_num, hF, Base.next hL hw4⟩
                  case measure => simp [intOf]; omega
              · have ht1 : (s7 == 4) = false := by simpa using t1
                rw [if_neg (fun e => t1 e.1)] at hF
                refine wp_region_in (Lt wr) (Lt.drew wr) (by kernel_rfl) (by kernel_rfl) ?_
                repeat (go_big_quiet_step ((go_at_call 61; exact in_same (CH _))))
                refine wpQuiet_nil ?_
                rintro u4 ⟨⟨_, hw4⟩, rfl⟩
                have hw4 : Below wr.heap.size wr u4 := hw4
                go_wp2
                all_goals go_roundw
                case rel => exact ⟨k + 1, by omega, by go_num, hF, Base.next hL hw4⟩
                case measure => simp [intOf]; omega
            · obtain rfl : k = g.l.length := by omega
              rw [List.drop_eq_nil_of_le (Nat.le_refl _)] at hF
              have hv := HV.out
              rw [tail_none hF.symm] at hv
              injection hv with hv1 hv2
              subst hv2
              have CS := ref_sum hRr p q x.spans.length c m d x.spans x.marked rfl hm hn' hm' hf hg sr tr
              have hlw : lastW g x = if (sumG g x.spans x.marked).1 ≠ x.xor then 6 else if (sumG g x.spans x.marked).2.1 ≠ x.parity then 7 else 0 := rfl
              rw [hlw] at hv1
              clear hF HV hlw c0 c1
              generalize sumG g x.spans x.marked = sm at *
              obtain ⟨q0, q1, q2⟩ := sm
              simp only at hv1 CS
              by_cases t1 : q0 = x.xor
              · rw [if_neg (by simpa using t1)] at hv1
                by_cases t2 : q1 = x.parity
                · rw [if_neg (by simpa using t2)] at hv1
                  subst hv1
                  subst t1
                  subst t2
                  go_wp2_with (go_at_call 26; refine CS.mono ?_; rintro e u4 ⟨rfl, L4⟩; have M4 := hMr.trans (L4.mono hMr.size); obtain ⟨y0, y1, y2, y3, y4⟩ := AckMay.blk5 (Br.below L4 Br.lt))
                  go_ret2
                  exact ⟨rfl, M4⟩
                · rw [if_pos t2] at hv1
                  subst hv1
                  subst t1
                  generalize x.parity = xp at *
                  have t3 : (!q1 == xp) = true := by revert t2; cases q1 <;> cases xp <;> decide
                  go_wp2_with (go_at_call 26; refine CS.mono ?_; rintro e u4 ⟨rfl, L4⟩; have M4 := hMr.trans (L4.mono hMr.size); obtain ⟨y0, y1, y2, y3, y4⟩ := AckMay.blk5 (Br.below L4 Br.lt))
                  go_ret2
                  exact ⟨rfl, M4⟩
              · rw [if_pos t1] at hv1
                subst hv1
                go_wp2_with (go_at_call 26; refine CS.mono ?_; rintro e u4 ⟨rfl, L4⟩; have M4 := hMr.trans (L4.mono hMr.size); obtain ⟨y0, y1, y2, y3, y4⟩ := AckMay.blk5 (Br.below L4 Br.lt))
                go_ret2
                exact ⟨rfl, M4⟩
end Go.Proofs.YtkiloaebokkjbaaGreat.Led
