/-
  Contracts of the reference's Look.
-/
import Derived.Test.YtlhjnbommlaioaaLedRef
import Derived.Test.YtlhjnbommlaioaaAckMay
import Derived.Test.YtlhjnbommlaioaaTrigPlain
namespace Go.Proofs.Ytlhjnbommlaioaa.Led
set_option linter.unusedVariables false
set_option maxRecDepth 20000
open Go.ChangeShapes Go.WideShapes Go.ChangeAt Go.RowKit
open Go.Proofs.Ytlhjnbommlaioaa.Base Go.Proofs.Ytlhjnbommlaioaa.LedPlain Go.Proofs.Ytlhjnbommlaioaa.SpanPlain Go.Proofs.Ytlhjnbommlaioaa.SpanRef
open Go.Proofs.Ytlhjnbommlaioaa.AckPlain (K)

theorem ref_below (a : Option Addr) (n cap : Nat) (l : List Sp) (low : Int) (w : World) (hn : l.length = n) (hm : n ≤ 140737488355328) (hz : Spans w a l) :
    Calls Try.prog 27 #[.slice a n cap, .int .u64 low] w fun e w' => e = .returned (.bool (belowB l low)) ∧ w = w' := by
  subst hn
  cases l with
  | nil =>
    go_enter Try.func27, Try.ntmps27
    go_wp2
    all_goals go_ret
    all_goals exact ⟨rfl, rfl⟩
  | cons s l =>
    obtain ⟨b, off, rfl, hb, c0, _⟩ := hz.at_ (i := 0) (by simp)
    have hv : belowB (s :: l) low = decide (s.1 < low) := by unfold belowB; simp
    rw [hv]
    clear hv
    simp only [List.getD_cons_zero, Nat.zero_mul, Nat.add_zero] at c0
    have hl : (0 : Int) < ((s :: l).length : Int) := by simp
    go_enter Try.func27, Try.ntmps27
    go_wp2
    all_goals go_ret
    all_goals exact ⟨rfl, rfl⟩
set_option maxHeartbeats 2000000 in
theorem ref_look {S : Nat → Prop} {w : World} {b : Nat} {g : Lg} (h : Rf S w b g) (x : K) (p q : Option Addr) (n c m d : Nat) (hn : x.spans.length = n) (hm : x.marked.length = m) (hn' : n ≤ 9223372036854775807) (hm' : m ≤ 9223372036854775807) (hf : Fits x.spans) (hg : Fits x.marked) (hs : Spans w p x.spans) (ht : Spans w q x.marked) :
    Calls Try.prog 10 #[.pointer (some ⟨b, 0, none⟩), .agg #[.slice p n c, .slice q m d, .int .u64 x.trigger, .int .u64 x.xor, .bool x.parity]] w fun e w' => e = .returned (.tuple #[.int .u64 (lookG g x).1, .int .i64 (lookG g x).2]) ∧ Below w.heap.size w w' := by
  have hE := Lib.hid (show lookG g x = if AckPlain.may x = false then (0, 1) else if belowB x.spans (lowN g) = true then (0, 2) else firstT x (g.l.drop (lowN g)) from rfl)
  have hlow := low_le g
  have hnl : (g.l.length : Int) ≤ 4611686018427387904 := by have := h.ok.n1; have := h.ok.l1; omega
  go_enter Try.func10, Try.ntmps10
  go_upto_region 1 with fail
  have hB := Blk.new w #[.slice p n c, .slice q m d, .int .u64 x.trigger, .int .u64 x.xor, .bool x.parity] 26
  have hL := (Below.refl w.heap.size w).alloc (Nat.le_refl _) (.cells #[.slice p n c, .slice q m d, .int .u64 x.trigger, .int .u64 x.xor, .bool x.parity] 26)
  have hR := h.below hL
  have hs1 : Spans (w.alloc (.cells #[.slice p n c, .slice q m d, .int .u64 x.trigger, .int .u64 x.xor, .bool x.parity] 26)) p x.spans := Row.below hs hL
  have ht1 : Spans (w.alloc (.cells #[.slice p n c, .slice q m d, .int .u64 x.trigger, .int .u64 x.xor, .bool x.parity] 26)) q x.marked := Row.below ht hL
  generalize w.alloc (.cells #[.slice p n c, .slice q m d, .int .u64 x.trigger, .int .u64 x.xor, .bool x.parity] 26) = V at *
  have CM := AckMay.ref_may_ack x p q n c m d V hn hm (by omega) (by omega) hf hg hs1 ht1
  obtain ⟨z0, z1, z2, z3, z4⟩ := AckMay.blk5 hB
  cases hmay : AckPlain.may x with
  | false =>
    rw [hmay] at CM hE
    go_wp2_with (go_at_call 26; refine CM.mono ?_; rintro e u1 ⟨rfl, L1⟩; have M1 := hL.trans (L1.mono hL.size))
    go_ret2
    exact ⟨by rw [hE.out]; rfl, M1⟩
  | true =>
    replace hn' : n ≤ 140737488355328 := hn ▸ (Nat.le_trans (may_le hmay).1 (by decide))
    rw [hmay] at CM hE
    go_upto_region 3 with (go_at_call 26; refine CM.mono ?_; rintro e u1 ⟨rfl, L1⟩; have M1 := hL.trans (L1.mono hL.size); have B1 := hB.below L1 hB.lt; have R1 := hR.below L1; have s1 : Spans u1 p x.spans := Row.below hs1 L1)
    clear CM hmay z0 z1 z2 z3 z4 hs1 ht1 hR hB hL
    have y0 : u1.cell? ⟨w.heap.size, 0, none⟩ = some (.slice p n c) := B1.cell 0
    have CL := fun v : In (Lt u1) => ref_low (R1.below v.h)
    have CB := fun v : In (Lt u1) => ref_below p n c x.spans (lowN g) v.w hn hn' (Row.below s1 v.h)
    have e0 := fun v : In (Lt u1) => inCell v y0
    generalize hlw : (lowN g : Int) = low at *
    cases hbl : belowB x.spans low with
    | true =>
      rw [hbl] at CB hE
      refine wp_region_in (Lt u1) (Lt.drew u1) (by kernel_rfl) (by kernel_rfl) ?_
      repeat (go_big_quiet_step (first | (go_at_call 28; refine in_below (v := .int .u64 low) ?_; exact CL _) | (go_at_call 27; refine in_same (v := .bool true) ?_; exact CB _)))
      refine wpQuiet_nil ?_
      rintro u2 ⟨⟨_, hw2⟩, rfl⟩
      have hw2 : Below u1.heap.size u1 u2 := hw2
      go_wp2
      go_ret2
      exact ⟨by rw [hE.out]; rfl, M1.trans (hw2.mono M1.size)⟩
    | false =>
      rw [hbl] at CB hE
      refine wp_region_in (Lt u1) (Lt.drew u1) (by kernel_rfl) (by kernel_rfl) ?_
      repeat (go_big_quiet_step (first | (go_at_call 28; refine in_below (v := .int .u64 low) ?_; exact CL _) | (go_at_call 27; refine in_same (v := .bool false) ?_; exact CB _)))
      refine wpQuiet_nil ?_
      rintro u2 ⟨⟨_, hw2⟩, rfl⟩
      have hw2 : Below u1.heap.size u1 u2 := hw2
      have M2 := M1.trans (hw2.mono M1.size)
      have B2 := B1.below hw2 B1.lt
      have R2 := R1.below hw2
      have s2 : Spans u2 p x.spans := Row.below s1 hw2
      have CW := ref_low R2
      rw [hlw] at CW
      have hR0 : firstT x (g.l.drop (lowN g)) = lookG g x := by rw [hE.out]; rfl
      have hlk : (lowN g : Int) = low := hlw
      clear CL CB e0 y0 R1 B1 s1 M1 hw2 hE hbl L1
      generalize hres : lookG g x = res at *
      have HRES := Lib.hid hres
      clear hres
      go_wp2_with (go_at_call 28; refine CW.mono ?_; rintro e u3 ⟨rfl, L3⟩; have M3 := M2.trans (L3.mono M2.size); have B3 := B2.below L3 B2.lt; have R3 := R2.below L3; have s3 : Spans u3 p x.spans := Row.below s2 L3)
      clear CW B2 R2 s2 M2
      go_loopw [6, 7] (fun i _ wr => ∃ k : Nat, k ≤ g.l.length ∧ i = .int .i64 k ∧ firstT x (g.l.drop k) = res ∧ Below u3.heap.size u3 wr) (fun i _ _ => g.l.length - (intOf i).toNat)
      case atStart => exact ⟨lowN g, hlow, by rw [hlk], hR0, Below.refl _ _⟩
      case round =>
        obtain ⟨k, hk, rfl, hF, hL⟩ := hrel
        have hMr := M3.trans (hL.mono M3.size)
        have hRr := R3.below hL
        obtain ⟨a, cap, c0, c1, c2, h1, h2, hz⟩ := hRr.read
        have hb := hRr.lt
        unfold maxLen at h2
        obtain ⟨z0, z1, z2, z3, z4⟩ := AckMay.blk5 (B3.below hL B3.lt)
        have hnw := (B3.below hL B3.lt).lt
        have sr : Spans wr p x.spans := Row.below s3 hL
        by_cases hlt : k < g.l.length
        · rw [firstT_step hlt] at hF
          have hlI : (k : Int) < (g.l.length : Int) := by omega
          obtain ⟨b', off', rfl, hb', e0, e1, e2, e3, e4, e5, e6, e7⟩ := hz.at_ hlt
          generalize g.l.getD k Z8 = s at *
          have CH := fun V (hV : Below wr.heap.size wr V) => ref_has p n c x.spans s.pn V hn hn' (Row.below sr hV)
          obtain ⟨s0, s1, s2, s3', s4, s5, s6, s7⟩ := s
          simp only at e0 e1 e2 e3 e4 e5 e6 e7 CH
          have hnm : namesB x ⟨s0, s1, s2, s3', s4, s5, s6, s7⟩ = (decide (s7 ≠ 4) && !s6 && (s3' == x.trigger) && has x.spans s0) := rfl
          rw [hnm] at hF
          clear hnm c0 c1
          have hA := (Below.refl wr.heap.size wr).alloc (Nat.le_refl _) (.cells #[.int .u64 s0, .int .u64 s1, .int .u64 s2, .int .u64 s3', .int .u64 s4, .bool s5, .bool s6, .int .i64 s7] 42)
          have fin : (decide (s7 ≠ 4) && !s6 && (s3' == x.trigger) && has x.spans s0) = false → firstT x (g.l.drop (k + 1)) = res := fun e => by rw [e] at hF; exact hF
          by_cases t1 : s7 = 4
          · have hF2 := fin (by rw [t1]; rfl)
            clear fin hF CH
            go_wp2
            all_goals go_roundw
            case rel => exact ⟨k + 1, by omega, by go_num, hF2, hL.alloc hL.size _⟩
            case measure => simp [intOf]; omega
          · cases s6 with
            | true =>
              have hF2 := fin (by simp)
              clear fin hF CH
              go_wp2
              all_goals go_roundw
              case rel => exact ⟨k + 1, by omega, by go_num, hF2, hL.alloc hL.size _⟩
              case measure => simp [intOf]; omega
            | false =>
              by_cases t2 : s3' = x.trigger
              · subst t2
                cases hh : has x.spans s0 with
                | true =>
                  rw [hh] at CH hF
                  have hF3 : (s0, (0 : Int)) = res := by rw [← hF]; simp [t1]
                  clear fin hF
                  subst hF3
                  go_wp2_with (go_at_call 14; refine (CH _ hA).mono ?_; rintro e u9 ⟨rfl, rfl⟩)
                  go_ret2
                  exact ⟨by rw [HRES.out]; rfl, hMr.trans (hA.mono hMr.size)⟩
                | false =>
                  rw [hh] at CH
                  have hF2 := fin (by rw [hh]; simp)
                  clear fin hF
                  go_wp2_with (go_at_call 14; refine (CH _ hA).mono ?_; rintro e u9 ⟨rfl, rfl⟩)
                  all_goals go_roundw
                  case rel => exact ⟨k + 1, by omega, by go_num, hF2, hL.alloc hL.size _⟩
                  case measure => simp [intOf]; omega
              · have hF2 := fin (by rw [show (s3' == x.trigger) = false by simpa using t2]; simp)
                clear fin hF CH
                go_wp2
                all_goals go_roundw
                case rel => exact ⟨k + 1, by omega, by go_num, hF2, hL.alloc hL.size _⟩
                case measure => simp [intOf]; omega
        · obtain rfl : k = g.l.length := by omega
          rw [List.drop_eq_nil_of_le (Nat.le_refl _)] at hF
          obtain rfl : ((0 : Int), (3 : Int)) = res := hF
          go_wp2
          go_ret2
          exact ⟨by rw [HRES.out]; rfl, hMr⟩
end Go.Proofs.Ytlhjnbommlaioaa.Led
