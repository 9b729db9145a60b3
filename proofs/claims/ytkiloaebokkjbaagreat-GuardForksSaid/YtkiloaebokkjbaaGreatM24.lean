/-
  Several texts in one: AckOk, Trig.
-/
import Derived.Test.YtkiloaebokkjbaaGreatAckMay
import Derived.Test.YtkiloaebokkjbaaGreatM19
import Derived.Test.YtkiloaebokkjbaaGreatM11
import Derived.Test.YtkiloaebokkjbaaGreatM17
/-
  Contract of ack.May, without what encodes.
-/
set_option linter.unusedSimpArgs false
set_option linter.unusedVariables false
namespace Go.Proofs.YtkiloaebokkjbaaGreat.AckOk
set_option linter.unusedVariables false
set_option maxRecDepth 20000
open Go.ChangeShapes Go.WideShapes Go.ChangeAt Go.RowKit
open Go.Proofs.YtkiloaebokkjbaaGreat.Base Go.Proofs.YtkiloaebokkjbaaGreat.SpanPlain
open Go.Proofs.YtkiloaebokkjbaaGreat.AckPlain (K)
open Go.Proofs.YtkiloaebokkjbaaGreat.AckMay (blk5)

theorem may_any (x : K) (a b : Option Addr) (n c m d : Nat) (w : World) (hn : x.spans.length = n) (hm : x.marked.length = m) (hn' : n ≤ 9223372036854775807) (hm' : m ≤ 9223372036854775807) (hf : Fits x.spans) (hg : Fits x.marked) (hs : Spans w a x.spans) (ht : Spans w b x.marked) :
    Calls Tryz.prog 92 #[.agg #[.slice a n c, .slice b m d, .int .u64 x.trigger, .int .u64 x.xor, .bool x.parity]] w fun e w' => e = .returned (.bool (AckPlain.may x)) ∧ Below w.heap.size w w' := by
  have hE := Lib.hid (show AckPlain.may x = (decide (1 ≤ (n : Int)) && decide ((n : Int) ≤ 32) && decide ((m : Int) ≤ 32) && (good x.marked && good x.spans && inside x.marked x.spans)) by
    unfold AckPlain.may; rw [hn, hm, Bool.eq_iff_iff]; simp only [Bool.and_eq_true, decide_eq_true_eq]
    constructor
    · rintro ⟨⟨⟨⟨⟨h1, h2⟩, h3⟩, h4⟩, h5⟩, h6⟩; exact ⟨⟨⟨h1, h2⟩, h3⟩, ⟨h5, h4⟩, h6⟩
    · rintro ⟨⟨⟨h1, h2⟩, h3⟩, ⟨h5, h4⟩, h6⟩; exact ⟨⟨⟨⟨⟨h1, h2⟩, h3⟩, h4⟩, h5⟩, h6⟩)
  have G := fun W h1 h2 z y => Span.within_any b a m n d c x.marked x.spans W hm hn h1 h2 hg hf z y
  have hB := Blk.new w #[.slice a n c, .slice b m d, .int .u64 x.trigger, .int .u64 x.xor, .bool x.parity] 56
  have hL : Below w.heap.size w (w.alloc (.cells #[.slice a n c, .slice b m d, .int .u64 x.trigger, .int .u64 x.xor, .bool x.parity] 56)) := (Below.refl _ _).alloc (Nat.le_refl _) _
  generalize AckPlain.may x = v at *
  generalize (good x.marked && good x.spans && inside x.marked x.spans) = g at *
  clear hn hm
  go_enter Tryz.func92, Tryz.ntmps92
  go_upto_region 1 with fail
  generalize w.alloc (.cells #[.slice a n c, .slice b m d, .int .u64 x.trigger, .int .u64 x.xor, .bool x.parity] 56) = W at hB hL ⊢
  obtain ⟨p0, p1, p2, p3, p4⟩ := blk5 hB
  by_cases h1 : (1 : Int) ≤ (n : Int) ∧ (n : Int) ≤ 32 ∧ (m : Int) ≤ 32
  · obtain ⟨h1, h2, h3⟩ := h1
    rw [decide_eq_true h1, decide_eq_true h2, decide_eq_true h3] at hE
    go_wp2_with (go_at_call 91; refine (G W (by omega) (by omega) (ht.below hL) (hs.below hL)).mono ?_; rintro e w3 ⟨rfl, L3⟩; clear G; have M3 := Base.next hL L3)
    all_goals go_ret
    all_goals exact ⟨Base.ret_bool (by rw [hE.out]; simp), M3⟩
  · have hv : (decide (1 ≤ (n : Int)) && decide ((n : Int) ≤ 32) && decide ((m : Int) ≤ 32)) = false := by
      rw [Bool.eq_false_iff]
      intro h
      simp only [Bool.and_eq_true, decide_eq_true_eq] at h
      exact h1 ⟨h.1.1, h.1.2, h.2⟩
    have hv' : v = false := by rw [hE.out, hv]; rfl
    subst hv'
    clear hE hv G
    go_wp2
    all_goals first
      | (go_ret; exact ⟨rfl, hL⟩)
      | (exfalso; omega)
end Go.Proofs.YtkiloaebokkjbaaGreat.AckOk

/-
  Contract of trigger.Look.
-/
set_option linter.unusedSimpArgs false
set_option linter.unusedVariables false
namespace Go.Proofs.YtkiloaebokkjbaaGreat.Led
set_option linter.unusedVariables false
set_option maxRecDepth 20000
open Go.ChangeShapes Go.WideShapes Go.ChangeAt Go.RowKit
open Go.Proofs.YtkiloaebokkjbaaGreat.Base Go.Proofs.YtkiloaebokkjbaaGreat.LedPlain Go.Proofs.YtkiloaebokkjbaaGreat.SpanPlain Go.Proofs.YtkiloaebokkjbaaGreat.SpanRef
open Go.Proofs.YtkiloaebokkjbaaGreat.AckPlain (K)

theorem fires_any (s : Sn) (t : Int) (w : World) :
    Calls Tryz.prog 93 #[.agg #[.int .u64 s.pn, .int .u64 s.off, .int .u64 s.len, .int .u64 s.nonce, .int .u64 s.time, .bool s.coin, .bool s.used, .int .i64 s.state], .int .u64 t] w fun e w' => e = .returned (.bool (decide (s.state ≠ 4) && !s.used && (s.nonce == t))) ∧ Below w.heap.size w w' := by
  obtain ⟨s0, s1, s2, s3, s4, s5, s6, s7⟩ := s
  have hL : Below w.heap.size w (w.alloc (.cells #[.int .u64 s0, .int .u64 s1, .int .u64 s2, .int .u64 s3, .int .u64 s4, .bool s5, .bool s6, .int .i64 s7] 76)) := (Below.refl _ _).alloc (Nat.le_refl _) _
  simp only
  by_cases t1 : s7 = 4
  · subst t1
    go_enter Tryz.func93, Tryz.ntmps93
    go_wp2
    all_goals go_ret
    all_goals exact ⟨rfl, hL⟩
  · have b1 : (s7 != 4) = true := by simpa using t1
    rw [show decide (s7 ≠ 4) = true by simp [t1]]
    cases s6 with
    | true =>
      go_enter Tryz.func93, Tryz.ntmps93
      go_wp2
      all_goals go_ret
      all_goals exact ⟨Base.ret_bool (by first | rfl | simp [t1]), hL⟩
    | false =>
      go_enter Tryz.func93, Tryz.ntmps93
      go_wp2
      all_goals go_ret
      all_goals exact ⟨Base.ret_bool (by first | rfl | simp [t1]), hL⟩
set_option maxHeartbeats 2000000 in
theorem look_any {S : Nat → Prop} {w : World} {a : Addr} {g : Lg} (h : Led S w a g) (hgl : g.l.length ≤ 1000000) (x : K) (p q : Option Addr) (n c m d : Nat) (hn : x.spans.length = n) (hm : x.marked.length = m) (hn' : n ≤ 9223372036854775807) (hm' : m ≤ 9223372036854775807) (hf : Fits x.spans) (hg : Fits x.marked) (hs : Spans w p x.spans) (ht : Spans w q x.marked) :
    Calls Tryz.prog 48 #[.pointer (some a), .agg #[.slice p n c, .slice q m d, .int .u64 x.trigger, .int .u64 x.xor, .bool x.parity]] w fun e w' => e = .returned (.tuple #[.int .u64 (lookG g x).1, .int .i64 (lookG g x).2]) ∧ Below w.heap.size w w' := by
  have hE := Lib.hid (show lookG g x = if AckPlain.may x = false then (0, 1) else if belowB x.spans (lowN g) = true then (0, 2) else firstT x (allS g) from rfl)
  go_enter Tryz.func48, Tryz.ntmps48
  go_upto_region 1 with fail
  have hB := Blk.new w #[.slice p n c, .slice q m d, .int .u64 x.trigger, .int .u64 x.xor, .bool x.parity] 56
  have hL := (Below.refl w.heap.size w).alloc (Nat.le_refl _) (.cells #[.slice p n c, .slice q m d, .int .u64 x.trigger, .int .u64 x.xor, .bool x.parity] 56)
  have hR := h.below hL
  have hs1 : Spans (w.alloc (.cells #[.slice p n c, .slice q m d, .int .u64 x.trigger, .int .u64 x.xor, .bool x.parity] 56)) p x.spans := Row.below hs hL
  have ht1 : Spans (w.alloc (.cells #[.slice p n c, .slice q m d, .int .u64 x.trigger, .int .u64 x.xor, .bool x.parity] 56)) q x.marked := Row.below ht hL
  generalize w.alloc (.cells #[.slice p n c, .slice q m d, .int .u64 x.trigger, .int .u64 x.xor, .bool x.parity] 56) = V at *
  have CM := AckOk.may_any x p q n c m d V hn hm (by omega) (by omega) hf hg hs1 ht1
  obtain ⟨z0, z1, z2, z3, z4⟩ := AckMay.blk5 hB
  cases hmay : AckPlain.may x with
  | false =>
    rw [hmay] at CM hE
    go_wp2_with (go_at_call 92; refine CM.mono ?_; rintro e u1 ⟨rfl, L1⟩; have M1 := hL.trans (L1.mono hL.size))
    go_ret2
    exact ⟨by rw [hE.out]; rfl, M1⟩
  | true =>
    replace hn' : n ≤ 140737488355328 := hn ▸ (Nat.le_trans (may_le hmay).1 (by decide))
    obtain ⟨hgd, hne⟩ : good x.spans = true ∧ 0 < x.spans.length := by
      have e := hmay
      unfold AckPlain.may at e
      simp only [Bool.and_eq_true, decide_eq_true_eq] at e
      exact ⟨e.1.1.2, by omega⟩
    rw [hmay] at CM hE
    go_upto_region 3 with (go_at_call 92; refine CM.mono ?_; rintro e u1 ⟨rfl, L1⟩; have M1 := hL.trans (L1.mono hL.size); have B1 := hB.below L1 hB.lt; have R1 := hR.below L1; have s1 : Spans u1 p x.spans := Row.below hs1 L1)
    clear CM hmay z0 z1 z2 z3 z4 hs1 ht1 hR hB hL
    obtain ⟨pb, po, rfl, hpb, c0, -⟩ := s1.at_ (i := 0) hne
    have hbl : belowB x.spans (lowN g) = decide ((x.spans.getD 0 (0, 0)).1 < (lowN g : Int)) := by unfold belowB; simp [hne]
    rw [hbl] at hE
    clear hbl
    simp only [Nat.zero_mul, Nat.add_zero] at c0
    have hnI : (0 : Int) < (n : Int) := by omega
    generalize hx0 : (x.spans.getD 0 (0, 0)).1 = lo at *
    clear hx0
    have y0 : u1.cell? ⟨w.heap.size, 0, none⟩ = some (.slice (some ⟨pb, po, none⟩) n c) := B1.cell 0
    have CL := fun v : In (Lt u1) => low_any (R1.below v.h)
    have e0 := fun v : In (Lt u1) => inCell v y0
    have e1 := fun v : In (Lt u1) => inCell v c0
    generalize hlw : (lowN g : Int) = low at *
    cases hbl : decide (lo < low) with
    | true =>
      have hbl' := of_decide_eq_true hbl
      rw [hbl] at hE
      refine wp_region_in (Lt u1) (Lt.drew u1) (by kernel_rfl) (by kernel_rfl) ?_
      repeat (go_big_quiet_step (first | (go_at_call 41; refine in_below (v := .int .u64 low) ?_; exact CL _)))
      refine wpQuiet_nil ?_
      rintro u2 ⟨⟨_, hw2⟩, rfl⟩
      have hw2 : Below u1.heap.size u1 u2 := hw2
      go_wp2
      go_ret2
      exact ⟨by rw [hE.out]; rfl, M1.trans (hw2.mono M1.size)⟩
    | false =>
      have hbl' := of_decide_eq_false hbl
      rw [hbl] at hE
      refine wp_region_in (Lt u1) (Lt.drew u1) (by kernel_rfl) (by kernel_rfl) ?_
      repeat (go_big_quiet_step (first | (go_at_call 41; refine in_below (v := .int .u64 low) ?_; exact CL _)))
      refine wpQuiet_nil ?_
      rintro u2 ⟨⟨_, hw2⟩, rfl⟩
      have hw2 : Below u1.heap.size u1 u2 := hw2
      have M2 := M1.trans (hw2.mono M1.size)
      have B2 := B1.below hw2 B1.lt
      have R2 := R1.below hw2
      have s2 : Spans u2 (some ⟨pb, po, none⟩) x.spans := Row.below s1 hw2
      have CW := all_any R2 hgl
      have hR0 : firstT x (allS g) = lookG g x := by rw [hE.out]; rfl
      have hSw : ∀ k, k < (allS g).length → 0 ≤ ((allS g).getD k Z8).pn ∧ ((allS g).getD k Z8).pn ≤ 18446744073709551615 := fun k hk => by
        have hk' : lowN g + k < g.l.length := by unfold allS at hk; rw [List.length_drop] at hk; omega
        have e : (allS g).getD k Z8 = atN g (lowN g + k) := by unfold allS atN; simp [List.getD]
        rw [e]
        obtain ⟨_, ⟨w0, w1, _⟩, _⟩ := h.ok.each _ hk'
        exact ⟨w0, w1⟩
      have hal : (allS g).length ≤ 1000000 := by unfold allS; rw [List.length_drop]; omega
      clear CL e0 e1 c0 y0 R1 B1 s1 M1 hw2 hE hbl hbl' L1
      generalize hres : lookG g x = res at *
      have HRES := Lib.hid hres
      clear hres
      generalize hl0 : allS g = l0 at *
      generalize hl1 : l0.length = n0 at *
      go_wp2_with (go_at_call 16; refine CW.mono ?_; rintro e u3 ⟨p3, cap3, rfl, hc1, hc2, hrow, L3⟩; have M3 := M2.trans (L3.mono M2.size); have B3 := B2.below L3 B2.lt; have s3 : Spans u3 (some ⟨pb, po, none⟩) x.spans := Row.below s2 L3; have z3 : Sents u3 p3 l0 := hrow.row; clear hrow)
      clear CW B2 R2 s2 M2
      go_loopw [26, 7] (fun i _ wr => ∃ k : Nat, k ≤ n0 ∧ i = .int .i64 k ∧ firstT x (l0.drop k) = res ∧ Below u3.heap.size u3 wr) (fun i _ _ => n0 - (intOf i).toNat)
      case atStart => exact ⟨0, Nat.zero_le _, rfl, hR0, Below.refl _ _⟩
      case round =>
        obtain ⟨k, hk, rfl, hF, hL⟩ := hrel
        have hMr := M3.trans (hL.mono M3.size)
        have hz := z3.below hL
        obtain ⟨z0, z1, z2, z3, z4⟩ := AckMay.blk5 (B3.below hL B3.lt)
        have hnw := (B3.below hL B3.lt).lt
        have sr : Spans wr (some ⟨pb, po, none⟩) x.spans := Row.below s3 hL
        by_cases hlt : k < n0
        · rw [firstT_step (by omega)] at hF
          have hlI : (k : Int) < (n0 : Int) := by omega
          obtain ⟨b', off', rfl, hb', e0, e1, e2, e3, e4, e5, e6, e7⟩ := hz.at_ (show k < l0.length by omega)
          have hp1 := hSw k hlt
          clear hSw
          generalize l0.getD k Z8 = s at *
          have hA := (Below.refl wr.heap.size wr).alloc (Nat.le_refl _) (.cells #[.int .u64 s.pn, .int .u64 s.off, .int .u64 s.len, .int .u64 s.nonce, .int .u64 s.time, .bool s.coin, .bool s.used, .int .i64 s.state] 76)
          have hS := Blk.new wr #[.int .u64 s.pn, .int .u64 s.off, .int .u64 s.len, .int .u64 s.nonce, .int .u64 s.time, .bool s.coin, .bool s.used, .int .i64 s.state] 76
          have CF := fires_any s x.trigger (wr.alloc (.cells #[.int .u64 s.pn, .int .u64 s.off, .int .u64 s.len, .int .u64 s.nonce, .int .u64 s.time, .bool s.coin, .bool s.used, .int .i64 s.state] 76))
          rw [show namesB x s = (decide (s.state ≠ 4) && !s.used && (s.nonce == x.trigger) && has x.spans s.pn) from rfl] at hF
          have fin : (decide (s.state ≠ 4) && !s.used && (s.nonce == x.trigger) && has x.spans s.pn) = false → firstT x (l0.drop (k + 1)) = res := fun e => by rw [e] at hF; exact hF
          have CH := fun V (hV : Below wr.heap.size wr V) => Span.has_any (some ⟨pb, po, none⟩) n c x.spans s.pn V hn hn' hf hp1.1 hp1.2 (Row.below sr hV)
          rw [hgd] at CH
          obtain ⟨s0, s1', s2, s3', s4, s5, s6, s7⟩ := s
          simp only at CF CH hF fin e0 e1 e2 e3 e4 e5 e6 e7 hp1 hA hS
          clear hgl hn hm' hm hg hf hne hgd hp1
          have hgo := fun V (hV : Below (wr.alloc (.cells #[.int .u64 s0, .int .u64 s1', .int .u64 s2, .int .u64 s3', .int .u64 s4, .bool s5, .bool s6, .int .i64 s7] 76)).heap.size (wr.alloc (.cells #[.int .u64 s0, .int .u64 s1', .int .u64 s2, .int .u64 s3', .int .u64 s4, .bool s5, .bool s6, .int .i64 s7] 76)) V) => AckMay.blk5 (((B3.below hL B3.lt).alloc (.cells #[.int .u64 s0, .int .u64 s1', .int .u64 s2, .int .u64 s3', .int .u64 s4, .bool s5, .bool s6, .int .i64 s7] 76)).below hV (by simpa using Nat.lt_succ_of_lt (B3.below hL B3.lt).lt))
          cases hf1 : (decide (s7 ≠ 4) && !s6 && (s3' == x.trigger)) with
          | false =>
            rw [hf1] at CF
            have hF2 := fin (by rw [hf1]; rfl)
            clear fin hF CH hf1 hgo
            go_wp2_with (go_at_call 93; refine CF.mono ?_; rintro e u9 ⟨rfl, L9⟩)
            all_goals go_roundw
            case rel => exact ⟨k + 1, by omega, by go_num, hF2, hL.trans ((Base.next hA L9).mono hL.size)⟩
            case measure => simp [intOf]; omega
          | true =>
            rw [hf1] at CF hF fin
            clear hf1
            cases hh : has x.spans s0 with
            | true =>
              rw [hh] at CH hF
              obtain rfl : (s0, (0 : Int)) = res := by rw [← hF]; simp
              clear fin hF hh
              go_wp2_with (first
                | (go_at_call 93; refine CF.mono ?_; rintro e u9 ⟨rfl, L9⟩; obtain ⟨g0, g1, g2, g3, g4⟩ := hgo u9 L9; have hq := hS.below L9 hS.lt; have q0 : u9.cell? ⟨wr.heap.size, 0, none⟩ = some (.int .u64 s0) := hq.cell 0; have C9 := CH u9 (Base.next hA L9); clear CH CF hgo)
                | (go_at_call 94; refine C9.mono ?_; rintro e u8 ⟨rfl, L8⟩; have q8 := (hq.below L8 hq.lt).cell 0))
              go_ret2
              exact ⟨by rw [HRES.out]; rfl, hMr.trans (((Base.next hA L9).trans (L8.mono (Base.next hA L9).size)).mono hMr.size)⟩
            | false =>
              rw [hh] at CH
              have hF2 := fin (by rw [hh]; simp)
              clear fin hF hh
              go_wp2_with (first
                | (go_at_call 93; refine CF.mono ?_; rintro e u9 ⟨rfl, L9⟩; obtain ⟨g0, g1, g2, g3, g4⟩ := hgo u9 L9; have hq := hS.below L9 hS.lt; have q0 : u9.cell? ⟨wr.heap.size, 0, none⟩ = some (.int .u64 s0) := hq.cell 0; have C9 := CH u9 (Base.next hA L9); clear CH CF hgo)
                | (go_at_call 94; refine C9.mono ?_; rintro e u8 ⟨rfl, L8⟩))
              all_goals go_roundw
              case rel => exact ⟨k + 1, by omega, by go_num, hF2, hL.trans (((Base.next hA L9).trans (L8.mono (Base.next hA L9).size)).mono hL.size)⟩
              case measure => simp [intOf]; omega
        · obtain rfl : k = n0 := by omega
          rw [List.drop_eq_nil_of_le (by omega)] at hF
          obtain rfl : ((0 : Int), (3 : Int)) = res := hF
          go_wp2
          go_ret2
          exact ⟨by rw [HRES.out]; rfl, hMr⟩
end Go.Proofs.YtkiloaebokkjbaaGreat.Led
