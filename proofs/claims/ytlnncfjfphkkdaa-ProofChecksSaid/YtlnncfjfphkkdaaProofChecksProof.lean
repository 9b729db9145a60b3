/-
  Of any acknowledgment, and of one near what is there, the program tells what is wrong with it as the document defines it, and changes nothing. No conditions.
-/
import Derived.Test.YtlnncfjfphkkdaaQuad
import Derived.Test.YtlnncfjfphkkdaaM1
import Derived.Test.YtlnncfjfphkkdaaM3
import Derived.Test.YtlnncfjfphkkdaaRows
import Derived.Test.YtlnncfjfphkkdaaRow
import Derived.WalkKit
import Derived.ProofKit
import Derived.OpenShut
import Derived.ShutString
import Derived.ChangeOld
import Derived.Below
import Derived.Test.YtlnncfjfphkkdaaProofAlive
import Derived.Test.YtlnncfjfphkkdaaTrigAsk
namespace Go.Proofs.Ytlnncfjfphkkdaa.proofChecks
open Go.ChangeShapes Go.WideShapes Go.ChangeAt Go.RowKit
open Go.ChangeMaps (open_string shut_string)
open Go.Proofs.Ytlnncfjfphkkdaa.Base Go.Proofs.Ytlnncfjfphkkdaa.SpanPlain Go.Proofs.Ytlnncfjfphkkdaa.AckPlain
set_option linter.unusedVariables false
set_option linter.unusedSimpArgs false

theorem own : ownKnob Try.prog.godebug = none := by kernel_rfl
theorem laidOut : laidOutB Try.prog = true := by kernel_rfl

open Go.Proofs.Ytlnncfjfphkkdaa.Led Go.Proofs.Ytlnncfjfphkkdaa.LedPlain Go.Proofs.Ytlnncfjfphkkdaa.SpanPlain Go.Proofs.Ytlnncfjfphkkdaa.SpanRef
open Go.Proofs.Ytlnncfjfphkkdaa.AckPlain (K)
set_option maxHeartbeats 4000000 in
theorem walk (a0 : Int) (a1 : Option Addr) (len1 cap1 : Nat) (z1 : List Dd) (x2 : K) (a2 : Option Addr) (len2 cap2 : Nat) (b2 : Option Addr) (lem2 cam2 : Nat) (c30 c31 c32 c33 : Int) (a4 : Int) (w : World) (w0 : (Lit.int .u8 a0).wf = true) (w1 : Deeds w a1 z1) (n1 : z1.length = len1) (m1 : len1 ≤ cap1) (o1 : cap1 ≤ maxLen) (f1 : ∀ d ∈ z1, Fit d) (n2 : x2.spans.length = len2 ∧ len2 ≤ cap2 ∧ cap2 ≤ maxLen ∧ (a2 = none → len2 = 0 ∧ cap2 = 0) ∧ Spans w a2 x2.spans) (m2 : x2.marked.length = lem2 ∧ lem2 ≤ cam2 ∧ cam2 ≤ maxLen ∧ (b2 = none → lem2 = 0 ∧ cam2 = 0) ∧ Spans w b2 x2.marked) (f2 : Words9 x2) (w3 : (Lit.int .u16 c30).wf = true ∧ (Lit.int .u16 c31).wf = true ∧ (Lit.int .u16 c32).wf = true ∧ (Lit.int .u16 c33).wf = true) (w4 : (Lit.int .u64 a4).wf = true) :
    Calls Try.prog 4 #[.int .u8 a0, .slice a1 len1 cap1, .agg #[.slice a2 len2 cap2, .slice b2 lem2 cam2, .int .u64 x2.trigger, .int .u64 x2.xor, .bool x2.parity], .agg #[.int .u16 c30, .int .u16 c31, .int .u16 c32, .int .u16 c33], .int .u64 a4] w fun e w' => e = .returned (.bool true) ∧ Below w.heap.size w w' := by
  obtain ⟨p0, p1⟩ := Base.u8_of w0
  obtain ⟨⟨y0, y0'⟩, ⟨y1, y1'⟩, ⟨y2, y2'⟩, ⟨y3, y3'⟩⟩ : (0 ≤ c30 ∧ c30 ≤ 65535) ∧ (0 ≤ c31 ∧ c31 ≤ 65535) ∧ (0 ≤ c32 ∧ c32 ≤ 65535) ∧ (0 ≤ c33 ∧ c33 ≤ 65535) := ⟨Base.u16_of w3.1, Base.u16_of w3.2.1, Base.u16_of w3.2.2.1, Base.u16_of w3.2.2.2⟩
  subst n1
  obtain ⟨x0, x1⟩ := Base.u64_of w4
  obtain ⟨hn, hn1, hn2, _, hsp⟩ := n2
  obtain ⟨hm, hm1, hm2, _, hmk⟩ := m2
  unfold maxLen at hn2 hm2
  obtain ⟨ff1, ff2, _, _⟩ := f2
  have hn' : len2 ≤ 9223372036854775807 := by omega
  have hm' : lem2 ≤ 9223372036854775807 := by omega
  go_enter Try.func4, Try.ntmps4
  go_upto_region 1 with fail
  refine at_world ?_
  intro V hV
  obtain ⟨hR, hK, hB⟩ : Blk V w.heap.size #[.slice a2 len2 cap2, .slice b2 lem2 cam2, .int .u64 x2.trigger, .int .u64 x2.xor, .bool x2.parity] 37 ∧ Blk V (w.heap.size + 1) #[.int .u16 c30, .int .u16 c31, .int .u16 c32, .int .u16 c33] 39 ∧ Below w.heap.size w V := by
    subst hV
    exact laid2 _ _ _ _ _
  clear hV
  have CM := make_any (a0 % 40) 4611686018427387903 (by omega) (by omega) (by decide) (by decide) a1 z1.length cap1 z1 V rfl m1 o1 f1 (w1.below hB)
  have CA := fun U => alive_proof U
  have hgl := made_len (a0 % 40) 4611686018427387903 z1
  have hOk : ∀ S w' a b, Pair S w' a b (madeG (a0 % 40) 4611686018427387903 z1) → Ok (madeG (a0 % 40) 4611686018427387903 z1) := fun _ _ _ _ h => h.ok
  generalize madeG (a0 % 40) 4611686018427387903 z1 = g at *
  go_upto_region 5 with (first
    | (go_at_call 8; refine CM.mono ?_; rintro e u1 ⟨a, b, S, rfl, P1, hS, L1⟩; have hOK := hOk _ _ _ _ P1; have hM := hB.trans (L1.mono hB.size); have M1 := hM.alloc hM.size (.cells #[.pointer (some a), .pointer (some ⟨b, 0, none⟩)] 27); have T1 := Blk.new u1 #[.pointer (some a), .pointer (some ⟨b, 0, none⟩)] 27; have LA := (Below.refl u1.heap.size u1).alloc (Nat.le_refl _) (.cells #[.pointer (some a), .pointer (some ⟨b, 0, none⟩)] 27); have K1 := (hK.below L1 hK.lt).below LA (hK.below L1 hK.lt).lt; replace P1 := P1.below LA; clear CM hOk)
    | (go_at_call 9; (with_reducible refine (CA _).mono ?_); rintro e u2 ⟨rfl, L2⟩; have M2 := M1.trans (L2.mono M1.size); have T2 := T1.below L2 T1.lt; have K2 := K1.below L2 K1.lt; have d2 : u2.cell? ⟨u1.heap.size, 0, none⟩ = some (.pointer (some a)) := T2.cell 0; have e2 : u2.cell? ⟨u1.heap.size, 1, none⟩ = some (.pointer (some ⟨b, 0, none⟩)) := T2.cell 1; have k0 : u2.cell? ⟨w.heap.size + 1, 0, none⟩ = some (.int .u16 c30) := K2.cell 0; have k1 : u2.cell? ⟨w.heap.size + 1, 1, none⟩ = some (.int .u16 c31) := K2.cell 1; have k2 : u2.cell? ⟨w.heap.size + 1, 2, none⟩ = some (.int .u16 c32) := K2.cell 2; have k3 : u2.cell? ⟨w.heap.size + 1, 3, none⟩ = some (.int .u16 c33) := K2.cell 3; have P2 := P1.below L2; have CK := ask_any (a := a) P2.rf (by omega) c30 c31 c32 c33 y0 y0' y1 y1' y2 y2' y3 y3' (bits .and .u64 a4 7) (bits_lo _ _ _) (bits_hi _ _ _); clear CA T1 P1 K1)
    | (go_at_call 13; (with_reducible refine CK.mono ?_); rintro e u3 ⟨p, c, l, tr, xr, rfl, hlc, rowIn3, hfl, hl1, hl2, hgd, L3⟩; have s3 : Spans u3 p l := RowIn.row rowIn3; have M3 := M2.trans (L3.mono M2.size); have T3 := T2.below L3 T2.lt; have P3 := P2.below L3; clear CK T2 K2 P2 d2 e2 k0 k1 k2 k3))
  have hs3 : Spans u3 a2 x2.spans := Row.below hsp M3
  have ht3 : Spans u3 b2 x2.marked := Row.below hmk M3
  have hR3 : Blk u3 w.heap.size #[.slice a2 len2 cap2, .slice b2 lem2 cam2, .int .u64 x2.trigger, .int .u64 x2.xor, .bool x2.parity] 37 := by
    have q := ((((Below.refl V.heap.size V).trans (L1.mono (Nat.le_refl _))).trans (LA.mono L1.size)).trans (L2.mono (Nat.le_trans L1.size LA.size)))
    exact hR.below (q.trans (L3.mono q.size)) hR.lt
  refine at_world ?_
  intro W hW
  obtain ⟨A4, B4⟩ : Blk W u3.heap.size #[.slice p l.length c, .slice none 0 0, .int .u64 tr, .int .u64 xr, .bool false] 37 ∧ Below u3.heap.size u3 W := by
    subst hW
    exact ⟨Blk.new _ _ _, (Below.refl _ _).alloc (Nat.le_refl _) _⟩
  clear hW L3 hM LA L1 L2 w1 rowIn3 M1 M2 hR hK hB hsp hmk
  have d4 : W.cell? ⟨u1.heap.size, 1, none⟩ = some (.pointer (some ⟨b, 0, none⟩)) := (T3.below B4 T3.lt).cell 1
  have z0 : W.cell? ⟨u3.heap.size, 0, none⟩ = some (.slice p l.length c) := A4.cell 0
  have CS := ref_sum (P3.below B4).rf p none l.length c 0 0 l [] rfl rfl (by omega) (by decide) hfl Fits.nil (Row.below s3 B4) (Spans.nil _ _)
  generalize sumG g l [] = sm at CS
  obtain ⟨q0, q1, q2⟩ := sm
  go_upto_region 6 with (go_at_call 11; (with_reducible refine CS.mono ?_); rintro e u4 ⟨rfl, L4⟩; have B5 := B4.trans (L4.mono B4.size); have A5 := A4.below L4 A4.lt)
  clear CS d4 z0 A4 L4 B4
  have f3 := A5.free 3
  have f4 := A5.free 4
  cases q2 with
  | false =>
    go_upto_region 9 with fail
    refine at_world ?_
    intro X hX
    obtain ⟨A6, B6⟩ : Blk X u3.heap.size #[.slice p l.length c, .slice none 0 0, .int .u64 tr, .int .u64 xr, .bool false] 37 ∧ Below u3.heap.size u3 X := by
      subst hX
      exact ⟨A5, B5⟩
    clear hX f3 f4
    try clear he8 he16 hx8
    generalize xr = xx at *
    obtain ⟨oo, ho⟩ : ∃ oo, oo = false := ⟨_, rfl⟩
    rw [← ho] at A6
    clear ho
    have T6 := T3.below B6 T3.lt
    have P6 := P3.below B6
    have s6 : Spans X p l := Row.below s3 B6
    have rs6 : Spans X a2 x2.spans := Row.below hs3 B6
    have rt6 : Spans X b2 x2.marked := Row.below ht3 B6
    have R6 := hR3.below B6 hR3.lt
    have M6 : Below w.heap.size w X := M3.trans (B6.mono M3.size)
    clear T3 P3 s3 hs3 ht3 hR3 B6 M3 A5 B5
    obtain ⟨z0, z1, z2, z3, z4⟩ := AckMay.blk5 A6
    obtain ⟨r0, r1, r2, r3, r4⟩ := AckMay.blk5 R6
    go_wp2
    go_loopw [18, 19, 20, 21, 22, 68] (fun _ _ _ _ _ i wr => ∃ k : Nat, k ≤ 2 ∧ i = .int .i64 k ∧ Below X.heap.size X wr) (fun _ _ _ _ _ i _ => 2 - (intOf i).toNat)
    case atStart => exact ⟨0, by decide, rfl, Below.refl _ _⟩
    case round =>
      obtain ⟨k, hk, rfl, hLr⟩ := hrel
      clear z0 z1 z2 z3 z4 r0 r1 r2 r3 r4
      have hidx0 : ∀ u : World, (Instr.index 41 (.agg #[.slice a2 len2 cap2, .slice b2 lem2 cam2, .int .u64 x2.trigger, .int .u64 x2.xor, .bool x2.parity, .slice p l.length c, .slice none 0 0, .int .u64 tr, .int .u64 xx, .bool oo]) (.int .i64 0)).run Try.prog u = .ok (.agg #[.slice a2 len2 cap2, .slice b2 lem2 cam2, .int .u64 x2.trigger, .int .u64 x2.xor, .bool x2.parity]) u := fun _ => by kernel_rfl
      have hidx1 : ∀ u : World, (Instr.index 41 (.agg #[.slice a2 len2 cap2, .slice b2 lem2 cam2, .int .u64 x2.trigger, .int .u64 x2.xor, .bool x2.parity, .slice p l.length c, .slice none 0 0, .int .u64 tr, .int .u64 xx, .bool oo]) (.int .i64 1)).run Try.prog u = .ok (.agg #[.slice p l.length c, .slice none 0 0, .int .u64 tr, .int .u64 xx, .bool oo]) u := fun _ => by kernel_rfl
      rcases (show k = 0 ∨ k = 1 ∨ k = 2 by omega) with rfl | rfl | rfl
      · clear hidx1
        have C1 := fun (U : World) (hU : Below X.heap.size X U) => check_any (P6.below hU).led (by omega) x2 a2 b2 len2 cap2 lem2 cam2 hn hm hn' hm' ff1 ff2 (Row.below rs6 hU) (Row.below rt6 hU)
        have C2 := fun (U : World) (hU : Below X.heap.size X U) => ref_check_ack (P6.below hU).rf x2 a2 b2 len2 cap2 lem2 cam2 hn hm hn' hm' ff1 ff2 (Row.below rs6 hU) (Row.below rt6 hU)
        generalize checkG g x2 = ck at C1 C2
        obtain ⟨v0, v1⟩ := ck
        go_upto_region 12 with fail
        refine at_world ?_
        intro Y hY
        obtain ⟨N1, D1⟩ : Below X.heap.size X Y ∧ Blk Y wr.heap.size #[.slice a2 len2 cap2, .slice b2 lem2 cam2, .int .u64 x2.trigger, .int .u64 x2.xor, .bool x2.parity] 37 := by
          subst hY
          exact ⟨hLr.alloc hLr.size _, Blk.new _ _ _⟩
        clear hY
        have c1 : Y.cell? ⟨u1.heap.size, 0, none⟩ = some (.pointer (some a)) := (T6.below N1 T6.lt).cell 0
        obtain ⟨z0, z1, z2, z3, z4⟩ := AckMay.blk5 D1
        go_wp2_with (first
          | (go_at_call 14; (with_reducible refine (C1 _ N1).mono ?_); rintro e u7 ⟨rfl, L7⟩; have N2 := Base.next N1 L7; have c2 : u7.cell? ⟨u1.heap.size, 1, none⟩ = some (.pointer (some ⟨b, 0, none⟩)) := (T6.below N2 T6.lt).cell 1; obtain ⟨y0, y1, y2, y3, y4⟩ := AckMay.blk5 (D1.below L7 D1.lt); clear C1)
          | (go_at_call 15; (with_reducible refine (C2 _ N2).mono ?_); rintro e u8 ⟨rfl, L8⟩; have N3 := Base.next N2 L8; clear C2))
        all_goals go_roundw
        case rel => exact ⟨1, by decide, rfl, N3⟩
        case measure => simp [intOf]
      · clear hidx0
        have C1 := fun (U : World) (hU : Below X.heap.size X U) => check_any (P6.below hU).led (by omega) ⟨l, [], tr, xx, oo⟩ p none l.length c 0 0 rfl rfl (by omega) (by decide) hfl Fits.nil (Row.below s6 hU) (Spans.nil _ _)
        have C2 := fun (U : World) (hU : Below X.heap.size X U) => ref_check_ack (P6.below hU).rf ⟨l, [], tr, xx, oo⟩ p none l.length c 0 0 rfl rfl (by omega) (by decide) hfl Fits.nil (Row.below s6 hU) (Spans.nil _ _)
        generalize checkG g ⟨l, [], tr, xx, oo⟩ = ck at C1 C2
        obtain ⟨v0, v1⟩ := ck
        go_upto_region 12 with fail
        refine at_world ?_
        intro Y hY
        obtain ⟨N1, D1⟩ : Below X.heap.size X Y ∧ Blk Y wr.heap.size #[.slice p l.length c, .slice none 0 0, .int .u64 tr, .int .u64 xx, .bool oo] 37 := by
          subst hY
          exact ⟨hLr.alloc hLr.size _, Blk.new _ _ _⟩
        clear hY
        have c1 : Y.cell? ⟨u1.heap.size, 0, none⟩ = some (.pointer (some a)) := (T6.below N1 T6.lt).cell 0
        obtain ⟨z0, z1, z2, z3, z4⟩ := AckMay.blk5 D1
        go_wp2_with (first
          | (go_at_call 14; (with_reducible refine (C1 _ N1).mono ?_); rintro e u7 ⟨rfl, L7⟩; have N2 := Base.next N1 L7; have c2 : u7.cell? ⟨u1.heap.size, 1, none⟩ = some (.pointer (some ⟨b, 0, none⟩)) := (T6.below N2 T6.lt).cell 1; obtain ⟨y0, y1, y2, y3, y4⟩ := AckMay.blk5 (D1.below L7 D1.lt); clear C1)
          | (go_at_call 15; (with_reducible refine (C2 _ N2).mono ?_); rintro e u8 ⟨rfl, L8⟩; have N3 := Base.next N2 L8; clear C2))
        all_goals go_roundw
        case rel => exact ⟨2, by decide, rfl, N3⟩
        case measure => simp [intOf]
      · have C3 := two_same (P6.below hLr) (by omega)
        have c3 : wr.cell? ⟨u1.heap.size, 0, none⟩ = some (.pointer (some a)) := (T6.below hLr T6.lt).cell 0
        have d3 : wr.cell? ⟨u1.heap.size, 1, none⟩ = some (.pointer (some ⟨b, 0, none⟩)) := (T6.below hLr T6.lt).cell 1
        have M7 := Base.next M6 hLr
        go_wp2_with (go_at_call 12; (with_reducible refine C3.mono ?_); rintro e u9 ⟨rfl, L9⟩; have M9 := Base.next M7 L9)
        all_goals go_ret
        all_goals exact ⟨rfl, M9⟩
  | true =>
    generalize he8 : bits .and .u64 a4 8 = e8 at *
    generalize he16 : bits .and .u64 a4 16 = e16 at *
    by_cases hx8 : e8 = 0
    · subst hx8
      obtain ⟨z0, z1, z2, z3, z4⟩ := AckMay.blk5 A5
      go_upto_region 8 with fail
      refine at_world ?_
      intro X1 hX1
      obtain ⟨A5, B5⟩ : Blk X1 u3.heap.size #[.slice p l.length c, .slice none 0 0, .int .u64 tr, .int .u64 q0, .bool false] 37 ∧ Below u3.heap.size u3 X1 := by
        subst hX1
        exact ⟨A5.set 3 _, B5.setCell (Nat.le_refl _) _⟩
      clear hX1 f3 f4 z0 z1 z2 z3 z4
      have f4 := A5.free 4
      obtain ⟨z0, z1, z2, z3, z4⟩ := AckMay.blk5 A5
      go_upto_region 9 with fail
      refine at_world ?_
      intro X hX
      obtain ⟨xx, oo, A6, B6⟩ : ∃ xx oo, Blk X u3.heap.size #[.slice p l.length c, .slice none 0 0, .int .u64 tr, .int .u64 xx, .bool oo] 37 ∧ Below u3.heap.size u3 X := by
        subst hX
        exact ⟨_, _, A5.set 4 _, B5.setCell (Nat.le_refl _) _⟩
      clear hX f4 z0 z1 z2 z3 z4
      try clear he8 he16
      have T6 := T3.below B6 T3.lt
      have P6 := P3.below B6
      have s6 : Spans X p l := Row.below s3 B6
      have rs6 : Spans X a2 x2.spans := Row.below hs3 B6
      have rt6 : Spans X b2 x2.marked := Row.below ht3 B6
      have R6 := hR3.below B6 hR3.lt
      have M6 : Below w.heap.size w X := M3.trans (B6.mono M3.size)
      clear T3 P3 s3 hs3 ht3 hR3 B6 M3 A5 B5
      obtain ⟨z0, z1, z2, z3, z4⟩ := AckMay.blk5 A6
      obtain ⟨r0, r1, r2, r3, r4⟩ := AckMay.blk5 R6
      go_wp2
      go_loopw [18, 19, 20, 21, 22, 68] (fun _ _ _ _ _ i wr => ∃ k : Nat, k ≤ 2 ∧ i = .int .i64 k ∧ Below X.heap.size X wr) (fun _ _ _ _ _ i _ => 2 - (intOf i).toNat)
      case atStart => exact ⟨0, by decide, rfl, Below.refl _ _⟩
      case round =>
        obtain ⟨k, hk, rfl, hLr⟩ := hrel
        clear z0 z1 z2 z3 z4 r0 r1 r2 r3 r4
        have hidx0 : ∀ u : World, (Instr.index 41 (.agg #[.slice a2 len2 cap2, .slice b2 lem2 cam2, .int .u64 x2.trigger, .int .u64 x2.xor, .bool x2.parity, .slice p l.length c, .slice none 0 0, .int .u64 tr, .int .u64 xx, .bool oo]) (.int .i64 0)).run Try.prog u = .ok (.agg #[.slice a2 len2 cap2, .slice b2 lem2 cam2, .int .u64 x2.trigger, .int .u64 x2.xor, .bool x2.parity]) u := fun _ => by kernel_rfl
        have hidx1 : ∀ u : World, (Instr.index 41 (.agg #[.slice a2 len2 cap2, .slice b2 lem2 cam2, .int .u64 x2.trigger, .int .u64 x2.xor, .bool x2.parity, .slice p l.length c, .slice none 0 0, .int .u64 tr, .int .u64 xx, .bool oo]) (.int .i64 1)).run Try.prog u = .ok (.agg #[.slice p l.length c, .slice none 0 0, .int .u64 tr, .int .u64 xx, .bool oo]) u := fun _ => by kernel_rfl
        rcases (show k = 0 ∨ k = 1 ∨ k = 2 by omega) with rfl | rfl | rfl
        · clear hidx1
          have C1 := fun (U : World) (hU : Below X.heap.size X U) => check_any (P6.below hU).led (by omega) x2 a2 b2 len2 cap2 lem2 cam2 hn hm hn' hm' ff1 ff2 (Row.below rs6 hU) (Row.below rt6 hU)
          have C2 := fun (U : World) (hU : Below X.heap.size X U) => ref_check_ack (P6.below hU).rf x2 a2 b2 len2 cap2 lem2 cam2 hn hm hn' hm' ff1 ff2 (Row.below rs6 hU) (Row.below rt6 hU)
          generalize checkG g x2 = ck at C1 C2
          obtain ⟨v0, v1⟩ := ck
          go_upto_region 12 with fail
          refine at_world ?_
          intro Y hY
          obtain ⟨N1, D1⟩ : Below X.heap.size X Y ∧ Blk Y wr.heap.size #[.slice a2 len2 cap2, .slice b2 lem2 cam2, .int .u64 x2.trigger, .int .u64 x2.xor, .bool x2.parity] 37 := by
            subst hY
            exact ⟨hLr.alloc hLr.size _, Blk.new _ _ _⟩
          clear hY
          have c1 : Y.cell? ⟨u1.heap.size, 0, none⟩ = some (.pointer (some a)) := (T6.below N1 T6.lt).cell 0
          obtain ⟨z0, z1, z2, z3, z4⟩ := AckMay.blk5 D1
          go_wp2_with (first
            | (go_at_call 14; (with_reducible refine (C1 _ N1).mono ?_); rintro e u7 ⟨rfl, L7⟩; have N2 := Base.next N1 L7; have c2 : u7.cell? ⟨u1.heap.size, 1, none⟩ = some (.pointer (some ⟨b, 0, none⟩)) := (T6.below N2 T6.lt).cell 1; obtain ⟨y0, y1, y2, y3, y4⟩ := AckMay.blk5 (D1.below L7 D1.lt); clear C1)
            | (go_at_call 15; (with_reducible refine (C2 _ N2).mono ?_); rintro e u8 ⟨rfl, L8⟩; have N3 := Base.next N2 L8; clear C2))
          all_goals go_roundw
          case rel => exact ⟨1, by decide, rfl, N3⟩
          case measure => simp [intOf]
        · clear hidx0
          have C1 := fun (U : World) (hU : Below X.heap.size X U) => check_any (P6.below hU).led (by omega) ⟨l, [], tr, xx, oo⟩ p none l.length c 0 0 rfl rfl (by omega) (by decide) hfl Fits.nil (Row.below s6 hU) (Spans.nil _ _)
          have C2 := fun (U : World) (hU : Below X.heap.size X U) => ref_check_ack (P6.below hU).rf ⟨l, [], tr, xx, oo⟩ p none l.length c 0 0 rfl rfl (by omega) (by decide) hfl Fits.nil (Row.below s6 hU) (Spans.nil _ _)
          generalize checkG g ⟨l, [], tr, xx, oo⟩ = ck at C1 C2
          obtain ⟨v0, v1⟩ := ck
          go_upto_region 12 with fail
          refine at_world ?_
          intro Y hY
          obtain ⟨N1, D1⟩ : Below X.heap.size X Y ∧ Blk Y wr.heap.size #[.slice p l.length c, .slice none 0 0, .int .u64 tr, .int .u64 xx, .bool oo] 37 := by
            subst hY
            exact ⟨hLr.alloc hLr.size _, Blk.new _ _ _⟩
          clear hY
          have c1 : Y.cell? ⟨u1.heap.size, 0, none⟩ = some (.pointer (some a)) := (T6.below N1 T6.lt).cell 0
          obtain ⟨z0, z1, z2, z3, z4⟩ := AckMay.blk5 D1
          go_wp2_with (first
            | (go_at_call 14; (with_reducible refine (C1 _ N1).mono ?_); rintro e u7 ⟨rfl, L7⟩; have N2 := Base.next N1 L7; have c2 : u7.cell? ⟨u1.heap.size, 1, none⟩ = some (.pointer (some ⟨b, 0, none⟩)) := (T6.below N2 T6.lt).cell 1; obtain ⟨y0, y1, y2, y3, y4⟩ := AckMay.blk5 (D1.below L7 D1.lt); clear C1)
            | (go_at_call 15; (with_reducible refine (C2 _ N2).mono ?_); rintro e u8 ⟨rfl, L8⟩; have N3 := Base.next N2 L8; clear C2))
          all_goals go_roundw
          case rel => exact ⟨2, by decide, rfl, N3⟩
          case measure => simp [intOf]
        · have C3 := two_same (P6.below hLr) (by omega)
          have c3 : wr.cell? ⟨u1.heap.size, 0, none⟩ = some (.pointer (some a)) := (T6.below hLr T6.lt).cell 0
          have d3 : wr.cell? ⟨u1.heap.size, 1, none⟩ = some (.pointer (some ⟨b, 0, none⟩)) := (T6.below hLr T6.lt).cell 1
          have M7 := Base.next M6 hLr
          go_wp2_with (go_at_call 12; (with_reducible refine C3.mono ?_); rintro e u9 ⟨rfl, L9⟩; have M9 := Base.next M7 L9)
          all_goals go_ret
          all_goals exact ⟨rfl, M9⟩
    · have hx8' : (e8 == 0) = false := by simpa using hx8
      clear hx8
      go_upto_region 9 with fail
      refine at_world ?_
      intro X hX
      obtain ⟨A6, B6⟩ : Blk X u3.heap.size #[.slice p l.length c, .slice none 0 0, .int .u64 tr, .int .u64 xr, .bool false] 37 ∧ Below u3.heap.size u3 X := by
        subst hX
        exact ⟨A5, B5⟩
      clear hX f3 f4
      try clear he8 he16 hx8'
      generalize xr = xx at *
      obtain ⟨oo, ho⟩ : ∃ oo, oo = false := ⟨_, rfl⟩
      rw [← ho] at A6
      clear ho
      have T6 := T3.below B6 T3.lt
      have P6 := P3.below B6
      have s6 : Spans X p l := Row.below s3 B6
      have rs6 : Spans X a2 x2.spans := Row.below hs3 B6
      have rt6 : Spans X b2 x2.marked := Row.below ht3 B6
      have R6 := hR3.below B6 hR3.lt
      have M6 : Below w.heap.size w X := M3.trans (B6.mono M3.size)
      clear T3 P3 s3 hs3 ht3 hR3 B6 M3 A5 B5
      obtain ⟨z0, z1, z2, z3, z4⟩ := AckMay.blk5 A6
      obtain ⟨r0, r1, r2, r3, r4⟩ := AckMay.blk5 R6
      go_wp2
      go_loopw [18, 19, 20, 21, 22, 68] (fun _ _ _ _ _ i wr => ∃ k : Nat, k ≤ 2 ∧ i = .int .i64 k ∧ Below X.heap.size X wr) (fun _ _ _ _ _ i _ => 2 - (intOf i).toNat)
      case atStart => exact ⟨0, by decide, rfl, Below.refl _ _⟩
      case round =>
        obtain ⟨k, hk, rfl, hLr⟩ := hrel
        clear z0 z1 z2 z3 z4 r0 r1 r2 r3 r4
        have hidx0 : ∀ u : World, (Instr.index 41 (.agg #[.slice a2 len2 cap2, .slice b2 lem2 cam2, .int .u64 x2.trigger, .int .u64 x2.xor, .bool x2.parity, .slice p l.length c, .slice none 0 0, .int .u64 tr, .int .u64 xx, .bool oo]) (.int .i64 0)).run Try.prog u = .ok (.agg #[.slice a2 len2 cap2, .slice b2 lem2 cam2, .int .u64 x2.trigger, .int .u64 x2.xor, .bool x2.parity]) u := fun _ => by kernel_rfl
        have hidx1 : ∀ u : World, (Instr.index 41 (.agg #[.slice a2 len2 cap2, .slice b2 lem2 cam2, .int .u64 x2.trigger, .int .u64 x2.xor, .bool x2.parity, .slice p l.length c, .slice none 0 0, .int .u64 tr, .int .u64 xx, .bool oo]) (.int .i64 1)).run Try.prog u = .ok (.agg #[.slice p l.length c, .slice none 0 0, .int .u64 tr, .int .u64 xx, .bool oo]) u := fun _ => by kernel_rfl
        rcases (show k = 0 ∨ k = 1 ∨ k = 2 by omega) with rfl | rfl | rfl
        · clear hidx1
          have C1 := fun (U : World) (hU : Below X.heap.size X U) => check_any (P6.below hU).led (by omega) x2 a2 b2 len2 cap2 lem2 cam2 hn hm hn' hm' ff1 ff2 (Row.below rs6 hU) (Row.below rt6 hU)
          have C2 := fun (U : World) (hU : Below X.heap.size X U) => ref_check_ack (P6.below hU).rf x2 a2 b2 len2 cap2 lem2 cam2 hn hm hn' hm' ff1 ff2 (Row.below rs6 hU) (Row.below rt6 hU)
          generalize checkG g x2 = ck at C1 C2
          obtain ⟨v0, v1⟩ := ck
          go_upto_region 12 with fail
          refine at_world ?_
          intro Y hY
          obtain ⟨N1, D1⟩ : Below X.heap.size X Y ∧ Blk Y wr.heap.size #[.slice a2 len2 cap2, .slice b2 lem2 cam2, .int .u64 x2.trigger, .int .u64 x2.xor, .bool x2.parity] 37 := by
            subst hY
            exact ⟨hLr.alloc hLr.size _, Blk.new _ _ _⟩
          clear hY
          have c1 : Y.cell? ⟨u1.heap.size, 0, none⟩ = some (.pointer (some a)) := (T6.below N1 T6.lt).cell 0
          obtain ⟨z0, z1, z2, z3, z4⟩ := AckMay.blk5 D1
          go_wp2_with (first
            | (go_at_call 14; (with_reducible refine (C1 _ N1).mono ?_); rintro e u7 ⟨rfl, L7⟩; have N2 := Base.next N1 L7; have c2 : u7.cell? ⟨u1.heap.size, 1, none⟩ = some (.pointer (some ⟨b, 0, none⟩)) := (T6.below N2 T6.lt).cell 1; obtain ⟨y0, y1, y2, y3, y4⟩ := AckMay.blk5 (D1.below L7 D1.lt); clear C1)
            | (go_at_call 15; (with_reducible refine (C2 _ N2).mono ?_); rintro e u8 ⟨rfl, L8⟩; have N3 := Base.next N2 L8; clear C2))
          all_goals go_roundw
          case rel => exact ⟨1, by decide, rfl, N3⟩
          case measure => simp [intOf]
        · clear hidx0
          have C1 := fun (U : World) (hU : Below X.heap.size X U) => check_any (P6.below hU).led (by omega) ⟨l, [], tr, xx, oo⟩ p none l.length c 0 0 rfl rfl (by omega) (by decide) hfl Fits.nil (Row.below s6 hU) (Spans.nil _ _)
          have C2 := fun (U : World) (hU : Below X.heap.size X U) => ref_check_ack (P6.below hU).rf ⟨l, [], tr, xx, oo⟩ p none l.length c 0 0 rfl rfl (by omega) (by decide) hfl Fits.nil (Row.below s6 hU) (Spans.nil _ _)
          generalize checkG g ⟨l, [], tr, xx, oo⟩ = ck at C1 C2
          obtain ⟨v0, v1⟩ := ck
          go_upto_region 12 with fail
          refine at_world ?_
          intro Y hY
          obtain ⟨N1, D1⟩ : Below X.heap.size X Y ∧ Blk Y wr.heap.size #[.slice p l.length c, .slice none 0 0, .int .u64 tr, .int .u64 xx, .bool oo] 37 := by
            subst hY
            exact ⟨hLr.alloc hLr.size _, Blk.new _ _ _⟩
          clear hY
          have c1 : Y.cell? ⟨u1.heap.size, 0, none⟩ = some (.pointer (some a)) := (T6.below N1 T6.lt).cell 0
          obtain ⟨z0, z1, z2, z3, z4⟩ := AckMay.blk5 D1
          go_wp2_with (first
            | (go_at_call 14; (with_reducible refine (C1 _ N1).mono ?_); rintro e u7 ⟨rfl, L7⟩; have N2 := Base.next N1 L7; have c2 : u7.cell? ⟨u1.heap.size, 1, none⟩ = some (.pointer (some ⟨b, 0, none⟩)) := (T6.below N2 T6.lt).cell 1; obtain ⟨y0, y1, y2, y3, y4⟩ := AckMay.blk5 (D1.below L7 D1.lt); clear C1)
            | (go_at_call 15; (with_reducible refine (C2 _ N2).mono ?_); rintro e u8 ⟨rfl, L8⟩; have N3 := Base.next N2 L8; clear C2))
          all_goals go_roundw
          case rel => exact ⟨2, by decide, rfl, N3⟩
          case measure => simp [intOf]
        · have C3 := two_same (P6.below hLr) (by omega)
          have c3 : wr.cell? ⟨u1.heap.size, 0, none⟩ = some (.pointer (some a)) := (T6.below hLr T6.lt).cell 0
          have d3 : wr.cell? ⟨u1.heap.size, 1, none⟩ = some (.pointer (some ⟨b, 0, none⟩)) := (T6.below hLr T6.lt).cell 1
          have M7 := Base.next M6 hLr
          go_wp2_with (go_at_call 12; (with_reducible refine C3.mono ?_); rintro e u9 ⟨rfl, L9⟩; have M9 := Base.next M7 L9)
          all_goals go_ret
          all_goals exact ⟨rfl, M9⟩

set_option maxRecDepth 100000 in
theorem lifted (os : Os) (started : os.Started) (H : Type) (enc : TypeId × Value → H) :
    ReturnsInHanded {} Try.checked os 4 .any (Rows.proofChecksSpec.pre6 enc Try.prog Try.f4 Rows.proofChecksRow.domain false) (Rows.proofChecksSpec.post enc Try.prog Try.f4 false true false false) := by
  refine returnsInHanded_of_change (C := Try.checked) own started (by kernel_rfl) Try.func4
    (ChangeSpec.witness6 (enc := enc) (C := Try.checked) false ⟨#[], #[.int .u8 0, .slice none 0 0, .agg #[.slice none 0 0, .slice none 0 0, .int .u64 0, .int .u64 0, .bool false], .agg #[.int .u16 0, .int .u16 0, .int .u16 0, .int .u16 0], .int .u64 0], []⟩ 8 (by kernel_rfl) (by kernel_rfl) (by kernel_rfl) (by kernel_rfl)) ?_
  intro W base args ds gs before hval0 hW hcnd _
  have hval : ∀ (j : Nat) t v, Try.f4.params[j]? = some t → args[j]? = some v → Value.okWide Try.prog W .any base t v := hval0
  have hW' := hW
  obtain ⟨p, q, hA0, hV, rfl, hfz, hnd⟩ := hW
  have hA : DataW.TrodAll enc Try.prog W 0 (fun _ => true) true Try.f4.params.toList args.toList ds p := hA0
  rw [Try.params4] at hA hval
  obtain ⟨v0, vs0, d0, ds0, p0, q0, hargs, rfl, rfl, h0, r0⟩ := trodAll_cons hA
  obtain ⟨v1, vs1, d1, ds1, p1, q1, rfl, rfl, rfl, h1, r1⟩ := trodAll_cons r0
  obtain ⟨v2, vs2, d2, ds2, p2, q2, rfl, rfl, rfl, h2, r2⟩ := trodAll_cons r1
  obtain ⟨v3, vs3, d3, ds3, p3, q3, rfl, rfl, rfl, h3, r3⟩ := trodAll_cons r2
  obtain ⟨v4, vs4, d4, ds4, p4, q4, rfl, rfl, rfl, h4, r4⟩ := trodAll_cons r3
  obtain ⟨rfl, rfl, rfl⟩ := trodAll_nil r4
  obtain rfl : args = #[v0, v1, v2, v3, v4] := by cases args; simp_all
  obtain ⟨rfl, rfl⟩ := trodVars_none hV
  obtain ⟨a0, rfl, rfl, rfl, w0⟩ := open_int Try.underlying5 (hval 0 5 v0 rfl rfl) h0
  obtain ⟨a1, len1, cap1, rfl⟩ := okWide_slice Try.underlying22 (hval 1 22 v1 rfl rfl)
  have k1 := h1
  have lt1 : ∀ x ∈ p1, x.block < W.heap.size := by obtain ⟨m, hm⟩ := k1; exact DataW.trod_lt m _ _ _ hm
  obtain ⟨z1, w1, n1, m1, o1, f1⟩ : ∃ zs, Deeds W a1 zs ∧ zs.length = len1 ∧ len1 ≤ cap1 ∧ cap1 ≤ maxLen ∧ (∀ d ∈ zs, Fit d) := by
    obtain ⟨fuel, hf⟩ := h1
    rcases open_deeds Try.underlying22 Try.underlying64 (by kernel_rfl) (by kernel_rfl) Try.underlying3 Try.underlying30 Try.underlying30 hf with ⟨hcs, hx⟩ | ⟨x, l, c, zs, E, S, hcs, hl, hm, hz, hx, hE, hS, hsp, hwz⟩
    · simp [Value.cells] at hcs
      obtain ⟨rfl, rfl, rfl⟩ := hcs
      exact ⟨[], Deeds.nil _ _, rfl, Nat.le_refl _, Nat.zero_le _, fun _ h => by cases h⟩
    · simp [Value.cells] at hcs
      obtain ⟨rfl, rfl, rfl⟩ := hcs
      exact ⟨zs, hsp, hz, hl, hm, hwz⟩
  have k2 := h2
  have lt2 : ∀ x ∈ p2, x.block < W.heap.size := by obtain ⟨m, hm⟩ := k2; exact DataW.trod_lt m _ _ _ hm
  obtain ⟨x2, a2, len2, cap2, b2, lem2, cam2, rfl, n2, m2, f2⟩ := open_ack Try.underlying37 (by kernel_rfl) (by kernel_rfl) Try.underlying23 Try.underlying23 Try.underlying30 Try.underlying30 Try.underlying4 Try.underlying53 (by kernel_rfl) rfl rfl (by kernel_rfl) (by kernel_rfl) Try.underlying30 Try.underlying30 (hval 2 37 v2 rfl rfl) h2
  have k3 := h3
  have lt3 : ∀ x ∈ p3, x.block < W.heap.size := by obtain ⟨m, hm⟩ := k3; exact DataW.trod_lt m _ _ _ hm
  obtain ⟨c30, c31, c32, c33, rfl, w3⟩ := open_quad Try.underlying39 Try.underlying38 (by kernel_rfl) (by kernel_rfl) (by kernel_rfl) (hval 3 39 v3 rfl rfl) h3
  obtain ⟨a4, rfl, rfl, rfl, w4⟩ := open_int Try.underlying30 (hval 4 30 v4 rfl rfl) h4
  clear hA0 hval0
  refine (walk a0 a1 len1 cap1 z1 x2 a2 len2 cap2 b2 lem2 cam2 c30 c31 c32 c33 a4 W w0 w1 n1 m1 o1 f1 n2 m2 f2 w3 w4).mono fun e W' ⟨he, bel⟩ => ?_
  subst he
  exact ⟨_, rfl, _, _, _, [], _, [], hW', trodAll_mk1 (shut_bool Try.underlying4 _), (trodAll_cons_mk (shut_int Try.underlying5 w0) (trodAll_cons_mk (Below.trod laidOut (by kernel_rfl) (of_decide_eq_true (by kernel_rfl)) k1 bel lt1) (trodAll_cons_mk (Below.trod laidOut (by kernel_rfl) (of_decide_eq_true (by kernel_rfl)) k2 bel lt2) (trodAll_cons_mk (Below.trod laidOut (by kernel_rfl) (of_decide_eq_true (by kernel_rfl)) k3 bel lt3) (trodAll_cons_mk (shut_int Try.underlying30 w4) trodAll_mk0))))), rfl, bel.frame _, fun h => by cases h⟩

theorem over : Rows.proofChecksRow.holds Try.pinned (OpenSpec.ofChange Rows.proofChecksSpec) :=
  OpenClaim.holds_of_wide 4 Try.f4 rfl rfl rfl rfl rfl rfl rfl ⟨rfl, rfl, rfl, rfl, rfl⟩ rfl rfl rfl rfl rfl (by kernel_rfl) Try.func4 (by kernel_rfl)
    (of_decide_eq_true (by kernel_rfl)) (by unfold Func.isWrapper; first | (rw [if_pos (by decide +kernel)]; kernel_rfl) | (rw [if_neg (by decide +kernel)]; exact ⟨rfl, rfl⟩))
    (fun os started H enc _ => lifted os started H enc)

/-- The given statement. -/
theorem proved : Rows.ProofChecksSaid :=
  over
#print axioms proved
end Go.Proofs.Ytlnncfjfphkkdaa.proofChecks
