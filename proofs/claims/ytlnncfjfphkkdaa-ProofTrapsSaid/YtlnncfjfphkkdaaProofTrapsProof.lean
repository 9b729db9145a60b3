/-
  A claimed number that is skipped, or was not given yet, is told, whatever the sums. No conditions.
-/
import Derived.Test.YtlnncfjfphkkdaaQuad
import Derived.Test.YtlnncfjfphkkdaaM1
import Derived.Test.YtlnncfjfphkkdaaRows
import Derived.Test.YtlnncfjfphkkdaaRow
import Derived.WalkKit
import Derived.ProofKit
import Derived.OpenShut
import Derived.ShutString
import Derived.ChangeOld
import Derived.Below
import Derived.Test.YtlnncfjfphkkdaaProofAlive
import Derived.Test.YtlnncfjfphkkdaaTrigAsk
namespace Go.Proofs.Ytlnncfjfphkkdaa.proofTraps
open Go.ChangeShapes Go.WideShapes Go.ChangeAt Go.RowKit
open Go.ChangeMaps (open_string shut_string)
open Go.Proofs.Ytlnncfjfphkkdaa.Base
set_option linter.unusedVariables false
set_option linter.unusedSimpArgs false

theorem own : ownKnob Try.prog.godebug = none := by kernel_rfl
theorem laidOut : laidOutB Try.prog = true := by kernel_rfl

open Go.Proofs.Ytlnncfjfphkkdaa.Led Go.Proofs.Ytlnncfjfphkkdaa.LedPlain Go.Proofs.Ytlnncfjfphkkdaa.SpanPlain Go.Proofs.Ytlnncfjfphkkdaa.SpanRef
open Go.Proofs.Ytlnncfjfphkkdaa.AckPlain (K)
set_option maxHeartbeats 4000000 in
theorem walk (a0 : Int) (a1 : Option Addr) (len1 cap1 : Nat) (z1 : List Dd) (c20 c21 c22 c23 : Int) (a3 : Int) (a4 : Bool) (w : World) (w0 : (Lit.int .u8 a0).wf = true) (w1 : Deeds w a1 z1) (n1 : z1.length = len1) (m1 : len1 ≤ cap1) (o1 : cap1 ≤ maxLen) (f1 : ∀ d ∈ z1, Fit d) (w2 : (Lit.int .u16 c20).wf = true ∧ (Lit.int .u16 c21).wf = true ∧ (Lit.int .u16 c22).wf = true ∧ (Lit.int .u16 c23).wf = true) (w3 : (Lit.int .u64 a3).wf = true) :
    Calls Try.prog 7 #[.int .u8 a0, .slice a1 len1 cap1, .agg #[.int .u16 c20, .int .u16 c21, .int .u16 c22, .int .u16 c23], .int .u64 a3, .bool a4] w fun e w' => e = .returned (.bool true) ∧ Below w.heap.size w w' := by
  obtain ⟨p0, p1⟩ := Base.u8_of w0
  obtain ⟨⟨y0, y0'⟩, ⟨y1, y1'⟩, ⟨y2, y2'⟩, ⟨y3, y3'⟩⟩ : (0 ≤ c20 ∧ c20 ≤ 65535) ∧ (0 ≤ c21 ∧ c21 ≤ 65535) ∧ (0 ≤ c22 ∧ c22 ≤ 65535) ∧ (0 ≤ c23 ∧ c23 ≤ 65535) := ⟨Base.u16_of w2.1, Base.u16_of w2.2.1, Base.u16_of w2.2.2.1, Base.u16_of w2.2.2.2⟩
  subst n1
  obtain ⟨x0, x1⟩ := Base.u64_of w3
  go_enter Try.func7, Try.ntmps7
  go_upto_region 1 with fail
  refine at_world ?_
  intro V hV
  obtain ⟨hK, hB⟩ : Blk V w.heap.size #[.int .u16 c20, .int .u16 c21, .int .u16 c22, .int .u16 c23] 39 ∧ Below w.heap.size w V := by
    subst hV
    exact ⟨Blk.new _ _ _, (Below.refl _ _).alloc (Nat.le_refl _) _⟩
  clear hV
  have CM := make_any (a0 % 40) 4611686018427387903 (by omega) (by omega) (by decide) (by decide) a1 z1.length cap1 z1 V rfl m1 o1 f1 (w1.below hB)
  have CA := fun U => alive_proof U
  have hgl := made_len (a0 % 40) 4611686018427387903 z1
  have hOk : ∀ S w' a b, Pair S w' a b (madeG (a0 % 40) 4611686018427387903 z1) → Ok (madeG (a0 % 40) 4611686018427387903 z1) := fun _ _ _ _ h => h.ok
  generalize madeG (a0 % 40) 4611686018427387903 z1 = g at *
  go_upto_region 5 with (first
    | (go_at_call 8; refine CM.mono ?_; rintro e u1 ⟨a, b, S, rfl, P1, hS, L1⟩; have hOK := hOk _ _ _ _ P1; have hM := hB.trans (L1.mono hB.size); have M1 := hM.alloc hM.size (.cells #[.pointer (some a), .pointer (some ⟨b, 0, none⟩)] 27); have T1 := Blk.new u1 #[.pointer (some a), .pointer (some ⟨b, 0, none⟩)] 27; have LA := (Below.refl u1.heap.size u1).alloc (Nat.le_refl _) (.cells #[.pointer (some a), .pointer (some ⟨b, 0, none⟩)] 27); have K1 := (hK.below L1 hK.lt).below LA (hK.below L1 hK.lt).lt; replace P1 := P1.below LA; clear CM hOk)
    | (go_at_call 9; (with_reducible refine (CA _).mono ?_); rintro e u2 ⟨rfl, L2⟩; have M2 := M1.trans (L2.mono M1.size); have T2 := T1.below L2 T1.lt; have K2 := K1.below L2 K1.lt; have d2 : u2.cell? ⟨u1.heap.size, 0, none⟩ = some (.pointer (some a)) := T2.cell 0; have e2 : u2.cell? ⟨u1.heap.size, 1, none⟩ = some (.pointer (some ⟨b, 0, none⟩)) := T2.cell 1; have k0 : u2.cell? ⟨w.heap.size, 0, none⟩ = some (.int .u16 c20) := K2.cell 0; have k1 : u2.cell? ⟨w.heap.size, 1, none⟩ = some (.int .u16 c21) := K2.cell 1; have k2 : u2.cell? ⟨w.heap.size, 2, none⟩ = some (.int .u16 c22) := K2.cell 2; have k3 : u2.cell? ⟨w.heap.size, 3, none⟩ = some (.int .u16 c23) := K2.cell 3; have P2 := P1.below L2; have CK := ask_any (a := a) P2.rf (by omega) c20 c21 c22 c23 y0 y0' y1 y1' y2 y2' y3 y3' a3 x0 x1; clear CA T1 P1 K1)
    | (go_at_call 13; (with_reducible refine CK.mono ?_); rintro e u3 ⟨p, c, l, tr, xr, rfl, hlc, rowIn3, hfl, hl1, hl2, hgd, L3⟩; have s3 : Spans u3 p l := RowIn.row rowIn3; have M3 := M2.trans (L3.mono M2.size); have T3 := T2.below L3 T2.lt; have P3 := P2.below L3; clear CK T2 K2 P2 d2 e2 k0 k1 k2 k3))
  refine at_world ?_
  intro W hW
  obtain ⟨A4, B4⟩ : Blk W u3.heap.size #[.slice p l.length c, .slice none 0 0, .int .u64 tr, .int .u64 xr, .bool false] 37 ∧ Below u3.heap.size u3 W := by
    subst hW
    exact ⟨Blk.new _ _ _, (Below.refl _ _).alloc (Nat.le_refl _) _⟩
  clear hW L3 hM LA L1 L2 w1 rowIn3 M1 M2 hK hB
  have f3 := A4.free 3
  have f4 : (W.setCell ⟨u3.heap.size, 3, none⟩ (.int .u64 a3)).frozen? ⟨u3.heap.size, 4, none⟩ = false := (A4.set 3 _).free 4
  obtain ⟨z0, z1, z2, z3, z4⟩ := AckMay.blk5 A4
  have z4' : (W.setCell ⟨u3.heap.size, 3, none⟩ (.int .u64 a3)).cell? ⟨u3.heap.size, 4, none⟩ = some (.bool false) := (A4.set 3 _).cell 4
  go_upto_region 6 with fail
  refine at_world ?_
  intro X hX
  obtain ⟨A6, B6⟩ : Blk X u3.heap.size #[.slice p l.length c, .slice none 0 0, .int .u64 tr, .int .u64 a3, .bool a4] 37 ∧ Below u3.heap.size u3 X := by
    subst hX
    exact ⟨(A4.set 3 _).set 4 _, (B4.setCell (Nat.le_refl _) _).setCell (Nat.le_refl _) _⟩
  clear hX f3 f4 z0 z1 z2 z3 z4 z4' A4 B4
  have T6 := T3.below B6 T3.lt
  have P6 := P3.below B6
  have s6 : Spans X p l := Row.below s3 B6
  have M6 : Below w.heap.size w X := M3.trans (B6.mono M3.size)
  clear T3 P3 s3 M3 B6
  generalize hln : l.length = n at *
  obtain ⟨k1, rfl⟩ : ∃ k, n = k + 1 := ⟨n - 1, by omega⟩
  have hmay : AckPlain.may ⟨l, [], tr, a3, a4⟩ = true := AckPlain.may_iff.2 ⟨by simp only; omega, by simp only; omega, by simp, hgd, rfl, rfl⟩
  have hbf := below_first (l := l) (by omega) (lowN g)
  have y0 : X.cell? ⟨u3.heap.size, 0, none⟩ = some (.slice p (k1 + 1) c) := A6.cell 0
  have y1 : X.cell? ⟨u1.heap.size, 0, none⟩ = some (.pointer (some a)) := T6.cell 0
  obtain ⟨b', off', rfl, hb', c0, _⟩ := s6.at_ (i := 0) (by omega)
  simp only [Nat.zero_mul, Nat.add_zero] at c0
  have e0 := fun v : In (Lt X) => inCell v y0
  have e1 := fun v : In (Lt X) => inCell v y1
  have e2 := fun v : In (Lt X) => inCell v c0
  have CL := fun v : In (Lt X) => low_any (P6.below v.h).led
  have hlow := low_le g
  have hll : (0 : Int) < ((k1 + 1 : Nat) : Int) := by omega
  generalize hlo : (l.getD 0 (0, 0)).1 = lo at *
  generalize hlw : (lowN g : Int) = low at CL hbf
  by_cases hbe : lo < low
  · rw [decide_eq_true hbe] at hbf
    have hcg : checkG g ⟨l, [], tr, a3, a4⟩ = (2, 0) := by unfold checkG; rw [if_neg (by rw [hmay]; decide), hlw, if_pos hbf]
    refine wp_region_in (Lt X) (Lt.drew X) (by kernel_rfl) (by kernel_rfl) ?_
    repeat (go_big_quiet_step ((go_at_call 20; refine in_below (v := .int .u64 low) ?_; exact CL _)))
    refine wpQuiet_nil ?_
    rintro Y ⟨⟨_, hw⟩, rfl⟩
    have hw : Below X.heap.size X Y := hw
    have C1 := check_any (P6.below hw).led (by omega) ⟨l, [], tr, a3, a4⟩ (some ⟨b', off', none⟩) none (k1 + 1) c 0 0 hln rfl (by omega) (by decide) hfl Fits.nil (Row.below s6 hw) (Spans.nil _ _)
    rw [hcg] at C1
    have M7 := Base.next M6 hw
    have c1 : Y.cell? ⟨u1.heap.size, 0, none⟩ = some (.pointer (some a)) := (T6.below hw T6.lt).cell 0
    obtain ⟨z0, z1, z2, z3, z4⟩ := AckMay.blk5 (A6.below hw A6.lt)
    go_wp2_with (go_at_call 14; (with_reducible refine C1.mono ?_); rintro e u8 ⟨rfl, L8⟩; have M8 := Base.next M7 L8)
    all_goals go_ret
    all_goals exact ⟨rfl, M8⟩
  · rw [decide_eq_false hbe] at hbf
    have hcg : checkG g ⟨l, [], tr, a3, a4⟩ = midG g ⟨l, [], tr, a3, a4⟩ := by unfold checkG; rw [if_neg (by rw [hmay]; decide), hlw, if_neg (by rw [hbf]; decide)]
    refine wp_region_in (Lt X) (Lt.drew X) (by kernel_rfl) (by kernel_rfl) ?_
    repeat (go_big_quiet_step ((go_at_call 20; refine in_below (v := .int .u64 low) ?_; exact CL _)))
    refine wpQuiet_nil ?_
    rintro Y ⟨⟨_, hw⟩, rfl⟩
    have hw : Below X.heap.size X Y := hw
    have M7 := Base.next M6 hw
    have T7 := T6.below hw T6.lt
    have A7 := A6.below hw A6.lt
    have P7 := P6.below hw
    have s7 : Spans Y (some ⟨b', off', none⟩) l := Row.below s6 hw
    clear hw T6 A6 P6 s6 M6 y0 y1 c0 e0 e1 e2 CL hbf hbe
    have C1 := check_any P7.led (by omega) ⟨l, [], tr, a3, a4⟩ (some ⟨b', off', none⟩) none (k1 + 1) c 0 0 hln rfl (by omega) (by decide) hfl Fits.nil s7 (Spans.nil _ _)
    generalize checkG g ⟨l, [], tr, a3, a4⟩ = ck at C1 hcg
    obtain ⟨why, pn⟩ := ck
    have c1 : Y.cell? ⟨u1.heap.size, 0, none⟩ = some (.pointer (some a)) := T7.cell 0
    obtain ⟨z0, z1, z2, z3, z4⟩ := AckMay.blk5 A7
    replace hcg := Lib.hid hcg
    replace hmay := Lib.hid hmay
    go_upto_region 10 with (go_at_call 14; (with_reducible refine C1.mono ?_); rintro e u7 ⟨rfl, L7⟩)
    have M8 := Base.next M7 L7
    have T8 := T7.below L7 T7.lt
    have A8 := A7.below L7 A7.lt
    have P8 := P7.below L7
    have s8 : Spans u7 (some ⟨b', off', none⟩) l := Row.below s7 L7
    clear C1 c1 z0 z1 z2 z3 z4 T7 A7 P7 s7 M7 L7
    have z0 : u7.cell? ⟨u3.heap.size, 0, none⟩ = some (.slice (some ⟨b', off', none⟩) (k1 + 1) c) := A8.cell 0
    obtain ⟨_, _, e, _, c0, c2⟩ := s8.at_ (i := k1) (by omega)
    obtain ⟨rfl, rfl⟩ : b' = _ ∧ off' = _ := by injection e with e; injection e with e1 e2; exact ⟨e1, e2⟩
    clear e
    have hlast : l.getD (l.length - 1) (0, 0) = l.getD k1 (0, 0) := by rw [hln, Nat.add_sub_cancel]
    have hhi : (l.getD (l.length - 1) (0, 0)).2 = (l.getD k1 (0, 0)).2 := by rw [hlast]
    generalize (l.getD k1 (0, 0)).1 = lo2 at *
    generalize (l.getD k1 (0, 0)).2 = hi2 at *
    go_upto_region 11 with fail
    refine at_world ?_
    intro Z hZ
    obtain ⟨D9, hZ9⟩ : Blk Z u7.heap.size #[.int .u64 lo2, .int .u64 hi2] 53 ∧ Below u7.heap.size u7 Z := by
      subst hZ
      exact ⟨Blk.new _ _ _, (Below.refl _ _).alloc (Nat.le_refl _) _⟩
    clear hZ z0 c0 c2
    have M9 := Base.next M8 hZ9
    have T9 := T8.below hZ9 T8.lt
    have A9 := A8.below hZ9 A8.lt
    have P9 := P8.below hZ9
    have s9 : Spans Z (some ⟨b', off', none⟩) l := Row.below s8 hZ9
    clear M8 T8 A8 P8 s8 hZ9
    have y1 : Z.cell? ⟨u1.heap.size, 0, none⟩ = some (.pointer (some a)) := T9.cell 0
    have y2 : Z.cell? ⟨u7.heap.size, 1, none⟩ = some (.int .u64 hi2) := D9.cell 1
    have e1 := fun v : In (Lt Z) => inCell v y1
    have e2 := fun v : In (Lt Z) => inCell v y2
    have CN := fun v : In (Lt Z) => next_any (P9.below v.h).led
    generalize hnx : (g.l.length : Int) = nx at CN
    by_cases hab : nx ≤ hi2
    · obtain ⟨n, hn⟩ := ahead_near (l := l) (by omega) (nx := nx) (by rw [hhi]; exact hab)
      obtain ⟨hge, hha⟩ := ahead_some hgd hn
      have hv := hcg.out
      rw [mid_some (by rw [hnx]; exact hn)] at hv
      injection hv with hv1 hv2
      subst hv1
      subst hv2
      clear hn hcg
      refine wp_region_in (Lt Z) (Lt.drew Z) (by kernel_rfl) (by kernel_rfl) ?_
      repeat (go_big_quiet_step ((go_at_call 21; refine in_below (v := .int .u64 nx) ?_; exact CN _)))
      refine wpQuiet_nil ?_
      rintro X1 ⟨⟨_, hw1⟩, rfl⟩
      have hw1 : Below Z.heap.size Z X1 := hw1
      have M10 := Base.next M9 hw1
      have c1 : X1.cell? ⟨u1.heap.size, 0, none⟩ = some (.pointer (some a)) := (T9.below hw1 T9.lt).cell 0
      have C2 := next_any (P9.below hw1).led
      rw [hnx] at C2
      go_wp2_with (first
        | (go_at_call 21; (with_reducible refine C2.mono ?_); rintro e u8 ⟨rfl, L8⟩; have N8 := Base.next hw1 L8; have M11 := Base.next M10 L8; have z0 : u8.cell? ⟨u3.heap.size, 0, none⟩ = some (.slice (some ⟨b', off', none⟩) (k1 + 1) c) := (A9.below N8 A9.lt).cell 0; have C3 := ref_has (some ⟨b', off', none⟩) (k1 + 1) c l pn u8 hln (by omega) (Row.below s9 N8); rw [hha] at C3; clear C2)
        | (go_at_call 22; (with_reducible refine C3.mono ?_); rintro e u10 ⟨rfl, rfl⟩))
      all_goals go_ret
      all_goals exact ⟨rfl, M11⟩
    · have hv := hcg.out
      rw [mid_none (by rw [hnx]; exact ahead_far hgd (by rw [hhi]; omega))] at hv
      have HV := Lib.hid hv
      clear hv hcg hhi hlast
      refine wp_region_in (Lt Z) (Lt.drew Z) (by kernel_rfl) (by kernel_rfl) ?_
      repeat (go_big_quiet_step ((go_at_call 21; refine in_below (v := .int .u64 nx) ?_; exact CN _)))
      refine wpQuiet_nil ?_
      rintro X1 ⟨⟨_, hw1⟩, rfl⟩
      have hw1 : Below Z.heap.size Z X1 := hw1
      have M10 := Base.next M9 hw1
      have T10 := T9.below hw1 T9.lt
      have A10 := A9.below hw1 A9.lt
      have s10 : Spans X1 (some ⟨b', off', none⟩) l := Row.below s9 hw1
      have c1 : X1.cell? ⟨u1.heap.size, 1, none⟩ = some (.pointer (some ⟨b, 0, none⟩)) := T10.cell 1
      have CLL := ref_all (P9.below hw1).rf (by omega)
      clear CN e1 e2 y1 y2 hw1 M9 A9 T9 s9 P9 D9 hab hnx
      go_wp2_with (go_at_call 23; (with_reducible refine CLL.mono ?_); rintro e u8 ⟨v8, rfl, O8, L8⟩; obtain ⟨p8, cap8, rfl, hc8, hm8, hz, _, _⟩ := O8.read; unfold maxLen at hm8; have A11 := A10.below L8 A10.lt; have s11 : Spans u8 (some ⟨b', off', none⟩) l := Row.below s10 L8; have M11 := Base.next M10 L8; clear CLL c1)
      have hkl : (allS g).length + lowN g = g.l.length := by unfold allS; have := low_le g; rw [List.length_drop]; omega
      clear O8 A10 s10 M10 T10 L8
      go_loopw [20, 105] (fun _ i wr => ∃ k : Nat, k ≤ (allS g).length ∧ i = .int .i64 k ∧ skipT l ((allS g).drop k) = skipT l (allS g) ∧ Below u8.heap.size u8 wr) (fun _ i _ => (allS g).length - (intOf i).toNat)
      case atStart => exact ⟨0, Nat.zero_le _, rfl, rfl, Below.refl _ _⟩
      case round =>
        obtain ⟨k, hk, rfl, hF, hL⟩ := hrel
        have hM := Base.next M11 hL
        by_cases hlt : k < (allS g).length
        · rw [skipT_step hlt] at hF
          obtain ⟨b2, off2, rfl, hb2, e0, e1, e2, e3, e4, e5, e6, e7⟩ := (hz.below hL).at_ hlt
          have hkI : (k : Int) < ((allS g).length : Int) := by omega
          generalize (allS g).getD k Z8 = s at *
          have CH := fun V (hV : Below wr.heap.size wr V) => ref_has (some ⟨b', off', none⟩) (k1 + 1) c l s.pn V hln (by omega) (Row.below s11 (hL.trans (hV.mono hL.size)))
          have cA := fun V (hV : Below wr.heap.size wr V) => show V.cell? ⟨u3.heap.size, 0, none⟩ = some (.slice (some ⟨b', off', none⟩) (k1 + 1) c) from (A11.below (hL.trans (hV.mono hL.size)) A11.lt).cell 0
          obtain ⟨s0, s1, s2, s3', s4, s5, s6', s7⟩ := s
          simp only at e0 e1 e2 e3 e4 e5 e6 e7 CH hF
          have hA := (Below.refl wr.heap.size wr).alloc (Nat.le_refl _) (.cells #[.int .u64 s0, .int .u64 s1, .int .u64 s2, .int .u64 s3', .int .u64 s4, .bool s5, .bool s6', .int .i64 s7] 59)
          have hA2 := hL.alloc hL.size (.cells #[.int .u64 s0, .int .u64 s1, .int .u64 s2, .int .u64 s3', .int .u64 s4, .bool s5, .bool s6', .int .i64 s7] 59)
          have z0 := cA _ hA
          clear cA
          by_cases t1 : s7 = 4
          · subst t1
            cases hh : has l s0 with
            | true =>
              rw [hh, if_pos ⟨rfl, rfl⟩] at hF
              rw [hh] at CH
              have hv := HV.out
              rw [tail_some (x := ⟨l, [], tr, a3, a4⟩) hF.symm] at hv
              injection hv with hv1 hv2
              subst hv1
              subst hv2
              clear hF HV
              go_wp2_with (go_at_call 22; (with_reducible refine (CH _ hA).mono ?_); rintro e u10 ⟨rfl, rfl⟩)
              all_goals go_ret
              all_goals exact ⟨rfl, Base.next hM hA⟩
            | false =>
              rw [hh, if_neg (fun e => by cases e.2)] at hF
              rw [hh] at CH
              go_wp2_with (go_at_call 22; (with_reducible refine (CH _ hA).mono ?_); rintro e u10 ⟨rfl, rfl⟩)
              all_goals go_roundw
              case rel => exact ⟨k + 1, by omega, by go_num, hF, hA2⟩
              case measure => simp [intOf]; omega
          · rw [if_neg (fun e => t1 e.1)] at hF
            go_wp2
            all_goals go_roundw
            case rel => exact ⟨k + 1, by omega, by go_num, hF, hA2⟩
            case measure => simp [intOf]; omega
        · obtain rfl : k = (allS g).length := by omega
          rw [List.drop_eq_nil_of_le (Nat.le_refl _)] at hF
          have hv := HV.out
          rw [tail_none (x := ⟨l, [], tr, a3, a4⟩) hF.symm] at hv
          injection hv with hv1 hv2
          obtain ⟨n4, n5⟩ := lastW_not g ⟨l, [], tr, a3, a4⟩
          rw [← hv1] at n4 n5
          subst hv2
          have n4' : (why != 4) = true := by simpa using n4
          have n5' : (why != 5) = true := by simpa using n5
          clear hF HV hv1 n4 n5
          go_wp2
          all_goals go_ret
          all_goals exact ⟨rfl, hM⟩

set_option maxRecDepth 100000 in
theorem lifted (os : Os) (started : os.Started) (H : Type) (enc : TypeId × Value → H) :
    ReturnsInHanded {} Try.checked os 7 .any (Rows.proofTrapsSpec.pre6 enc Try.prog Try.f7 Rows.proofTrapsRow.domain false) (Rows.proofTrapsSpec.post enc Try.prog Try.f7 false true false false) := by
  refine returnsInHanded_of_change (C := Try.checked) own started (by kernel_rfl) Try.func7
    (ChangeSpec.witness6 (enc := enc) (C := Try.checked) false ⟨#[], #[.int .u8 0, .slice none 0 0, .agg #[.int .u16 0, .int .u16 0, .int .u16 0, .int .u16 0], .int .u64 0, .bool false], []⟩ 8 (by kernel_rfl) (by kernel_rfl) (by kernel_rfl) (by kernel_rfl)) ?_
  intro W base args ds gs before hval0 hW hcnd _
  have hval : ∀ (j : Nat) t v, Try.f7.params[j]? = some t → args[j]? = some v → Value.okWide Try.prog W .any base t v := hval0
  have hW' := hW
  obtain ⟨p, q, hA0, hV, rfl, hfz, hnd⟩ := hW
  have hA : DataW.TrodAll enc Try.prog W 0 (fun _ => true) true Try.f7.params.toList args.toList ds p := hA0
  rw [Try.params7] at hA hval
  obtain ⟨v0, vs0, d0, ds0, p0, q0, hargs, rfl, rfl, h0, r0⟩ := trodAll_cons hA
  obtain ⟨v1, vs1, d1, ds1, p1, q1, rfl, rfl, rfl, h1, r1⟩ := trodAll_cons r0
  obtain ⟨v2, vs2, d2, ds2, p2, q2, rfl, rfl, rfl, h2, r2⟩ := trodAll_cons r1
  obtain ⟨v3, vs3, d3, ds3, p3, q3, rfl, rfl, rfl, h3, r3⟩ := trodAll_cons r2
  obtain ⟨v4, vs4, d4, ds4, p4, q4, rfl, rfl, rfl, h4, r4⟩ := trodAll_cons r3
  obtain ⟨rfl, rfl, rfl⟩ := trodAll_nil r4
  obtain rfl : args = #[v0, v1, v2, v3, v4] := by cases args; simp_all
  obtain ⟨rfl, rfl⟩ := trodVars_none hV
  obtain ⟨a0, rfl, rfl, rfl, w0⟩ := open_int Try.underlying5 (hval 0 5 v0 rfl rfl) h0
  obtain ⟨a1, len1, cap1, rfl⟩ := okWide_slice Try.underlying22 (hval 1 22 v1 rfl rfl)
  have k1 := h1
  have lt1 : ∀ x ∈ p1, x.block < W.heap.size := by obtain ⟨m, hm⟩ := k1; exact DataW.trod_lt m _ _ _ hm
  obtain ⟨z1, w1, n1, m1, o1, f1⟩ : ∃ zs, Deeds W a1 zs ∧ zs.length = len1 ∧ len1 ≤ cap1 ∧ cap1 ≤ maxLen ∧ (∀ d ∈ zs, Fit d) := by
    obtain ⟨fuel, hf⟩ := h1
    rcases open_deeds Try.underlying22 Try.underlying64 (by kernel_rfl) (by kernel_rfl) Try.underlying3 Try.underlying30 Try.underlying30 hf with ⟨hcs, hx⟩ | ⟨x, l, c, zs, E, S, hcs, hl, hm, hz, hx, hE, hS, hsp, hwz⟩
    · simp [Value.cells] at hcs
      obtain ⟨rfl, rfl, rfl⟩ := hcs
      exact ⟨[], Deeds.nil _ _, rfl, Nat.le_refl _, Nat.zero_le _, fun _ h => by cases h⟩
    · simp [Value.cells] at hcs
      obtain ⟨rfl, rfl, rfl⟩ := hcs
      exact ⟨zs, hsp, hz, hl, hm, hwz⟩
  have k2 := h2
  have lt2 : ∀ x ∈ p2, x.block < W.heap.size := by obtain ⟨m, hm⟩ := k2; exact DataW.trod_lt m _ _ _ hm
  obtain ⟨c20, c21, c22, c23, rfl, w2⟩ := open_quad Try.underlying39 Try.underlying38 (by kernel_rfl) (by kernel_rfl) (by kernel_rfl) (hval 2 39 v2 rfl rfl) h2
  obtain ⟨a3, rfl, rfl, rfl, w3⟩ := open_int Try.underlying30 (hval 3 30 v3 rfl rfl) h3
  obtain ⟨a4, rfl, rfl, rfl⟩ := open_bool Try.underlying4 (hval 4 4 v4 rfl rfl) h4
  clear hA0 hval0
  refine (walk a0 a1 len1 cap1 z1 c20 c21 c22 c23 a3 a4 W w0 w1 n1 m1 o1 f1 w2 w3).mono fun e W' ⟨he, bel⟩ => ?_
  subst he
  exact ⟨_, rfl, _, _, _, [], _, [], hW', trodAll_mk1 (shut_bool Try.underlying4 _), (trodAll_cons_mk (shut_int Try.underlying5 w0) (trodAll_cons_mk (Below.trod laidOut (by kernel_rfl) (of_decide_eq_true (by kernel_rfl)) k1 bel lt1) (trodAll_cons_mk (Below.trod laidOut (by kernel_rfl) (of_decide_eq_true (by kernel_rfl)) k2 bel lt2) (trodAll_cons_mk (shut_int Try.underlying30 w3) (trodAll_cons_mk (shut_bool Try.underlying4 _) trodAll_mk0))))), rfl, bel.frame _, fun h => by cases h⟩

theorem over : Rows.proofTrapsRow.holds Try.pinned (OpenSpec.ofChange Rows.proofTrapsSpec) :=
  OpenClaim.holds_of_wide 7 Try.f7 rfl rfl rfl rfl rfl rfl rfl ⟨rfl, rfl, rfl, rfl, rfl⟩ rfl rfl rfl rfl rfl (by kernel_rfl) Try.func7 (by kernel_rfl)
    (of_decide_eq_true (by kernel_rfl)) (by unfold Func.isWrapper; first | (rw [if_pos (by decide +kernel)]; kernel_rfl) | (rw [if_neg (by decide +kernel)]; exact ⟨rfl, rfl⟩))
    (fun os started H enc _ => lifted os started H enc)

/-- The given statement. -/
theorem proved : Rows.ProofTrapsSaid :=
  over
#print axioms proved
end Go.Proofs.Ytlnncfjfphkkdaa.proofTraps
