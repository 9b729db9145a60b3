/-
  Who shows what is so, and names a nonce that is not used, is taken, once. No conditions.
-/
import Derived.Test.YtkiloaebokkjbaaGreatQuad
import Derived.Test.YtkiloaebokkjbaaGreatM1
import Derived.Test.YtkiloaebokkjbaaGreatRows
import Derived.Test.YtkiloaebokkjbaaGreatRow
import Derived.WalkKit
import Derived.ProofKit
import Derived.OpenShut
import Derived.ShutString
import Derived.ChangeOld
import Derived.Below
import Derived.Test.YtkiloaebokkjbaaGreatGuardStep
import Derived.Test.YtkiloaebokkjbaaGreatM6
namespace Go.Proofs.YtkiloaebokkjbaaGreat.guardTakes
open Go.ChangeShapes Go.WideShapes Go.ChangeAt Go.RowKit
open Go.ChangeMaps (open_string shut_string)
open Go.Proofs.YtkiloaebokkjbaaGreat.Base
set_option linter.unusedVariables false
set_option linter.unusedSimpArgs false

theorem own : ownKnob Tryz.prog.godebug = none := by kernel_rfl
theorem laidOut : laidOutB Tryz.prog = true := by kernel_rfl

open Go.Proofs.YtkiloaebokkjbaaGreat.Led Go.Proofs.YtkiloaebokkjbaaGreat.LedPlain Go.Proofs.YtkiloaebokkjbaaGreat.GuardPlain Go.Proofs.YtkiloaebokkjbaaGreat.Guard
open Go.Proofs.YtkiloaebokkjbaaGreat.AckPlain (K)
open Go.Proofs.YtkiloaebokkjbaaGreat.SpanPlain
set_option maxHeartbeats 4000000 in
theorem walk (a0 : Int) (a1 : Option Addr) (len1 cap1 : Nat) (z1 : List Dd) (c20 c21 c22 c23 : Int) (a3 : Int) (w : World) (w0 : (Lit.int .u8 a0).wf = true) (w1 : Deeds w a1 z1) (n1 : z1.length = len1) (m1 : len1 ≤ cap1) (o1 : cap1 ≤ maxLen) (f1 : ∀ d ∈ z1, Fit d) (w2 : (Lit.int .u16 c20).wf = true ∧ (Lit.int .u16 c21).wf = true ∧ (Lit.int .u16 c22).wf = true ∧ (Lit.int .u16 c23).wf = true) (w3 : (Lit.int .u8 a3).wf = true) :
    Calls Tryz.prog 6 #[.int .u8 a0, .slice a1 len1 cap1, .agg #[.int .u16 c20, .int .u16 c21, .int .u16 c22, .int .u16 c23], .int .u8 a3] w fun e w' => e = .returned (.bool true) ∧ Below w.heap.size w w' := by
  obtain ⟨p0, p1⟩ := Base.u8_of w0
  obtain ⟨⟨y0, y0'⟩, ⟨y1, y1'⟩, ⟨y2, y2'⟩, ⟨y3, y3'⟩⟩ : (0 ≤ c20 ∧ c20 ≤ 65535) ∧ (0 ≤ c21 ∧ c21 ≤ 65535) ∧ (0 ≤ c22 ∧ c22 ≤ 65535) ∧ (0 ≤ c23 ∧ c23 ≤ 65535) := ⟨Base.u16_of w2.1, Base.u16_of w2.2.1, Base.u16_of w2.2.2.1, Base.u16_of w2.2.2.2⟩
  obtain ⟨x0, x1⟩ := Base.u8_of w3
  subst n1
  go_enter Tryz.func6, Tryz.ntmps6
  go_upto_region 1 with fail
  refine at_world ?_
  intro V hV
  obtain ⟨hK, hB⟩ : Blk V w.heap.size #[.int .u16 c20, .int .u16 c21, .int .u16 c22, .int .u16 c23] 40 ∧ Below w.heap.size w V := by
    subst hV
    exact ⟨Blk.new _ _ _, (Below.refl _ _).alloc (Nat.le_refl _) _⟩
  clear hV
  have hVs := hK.lt
  have CM := make_any (a0 % 40) 4611686018427387903 (by omega) (by omega) (by decide) (by decide) a1 z1.length cap1 z1 V rfl m1 o1 f1 (w1.below hB)
  have CA := fun U => alive_guard U
  have CG := fun V => Guard.new_any 3 50 (by decide) (by decide) (by decide) (by decide) V
  have hcb := cb_new 3 50 (by decide) (by decide)
  have hd0 : (newD 3 50).ended = false ∧ (newD 3 50).n = ⟨0, 0, 0, 0, 0⟩ := ⟨rfl, rfl⟩
  generalize newD 3 50 = d0 at *
  have hgl := made_len (a0 % 40) 4611686018427387903 z1
  generalize madeG (a0 % 40) 4611686018427387903 z1 = g at *
  go_upto_region 2 with (go_at_call 9; refine CM.mono ?_; rintro e u1 ⟨a, b, S, rfl, P1, hS, L1⟩)
  refine at_world ?_
  intro U2 hU
  have s1 := L1.size
  obtain ⟨T2, P2, M2, K2, q2⟩ : Blk U2 u1.heap.size #[.pointer (some a), .pointer (some ⟨b, 0, none⟩)] 28 ∧ Pair S U2 a b g ∧ Below w.heap.size w U2 ∧ Blk U2 w.heap.size #[.int .u16 c20, .int .u16 c21, .int .u16 c22, .int .u16 c23] 40 ∧ U2.heap.size = u1.heap.size + 1 := by
    subst hU
    exact ⟨Blk.new _ _ _, P1.below ((Below.refl _ _).alloc (Nat.le_refl _) _), (Base.next hB L1).alloc (Base.next hB L1).size _, (hK.below L1 hK.lt).alloc _, by simp⟩
  have hSl : ∀ k, S k → w.heap.size < k ∧ k < u1.heap.size := fun k hk => ⟨by have := hS k hk; omega, P1.lt k hk⟩
  clear hU P1 L1 hS CM hB
  go_upto_region 3 with (go_at_call 10; refine (CG U2).mono ?_; rintro e U ⟨gp, rfl, G3, L3⟩)
  have s3 := L3.size
  have T5 := T2.below L3 T2.lt
  have K5 := K2.below L3 K2.lt
  have M5 := Base.next M2 L3
  have Q5 : Tri (fun k => w.heap.size ≤ k ∧ k ≠ u1.heap.size ∧ k ≠ w.heap.size) (fun _ => False) (fun _ => False) U U a b gp g g d0 :=
    Tri.make (P2.below L3) G3 (fun k hk => by have := hSl k hk; omega) (fun k hk => by omega) (fun k hk h => by have := hSl k h; omega)
  have htu : u1.heap.size < U.heap.size := by omega
  have hkt : w.heap.size < u1.heap.size := by omega
  clear G3 L3 CG P2 M2 T2 K2 s1 s3 q2 hSl hK
  generalize u1.heap.size = tb at *
  go_upto_region 5 with (go_at_call 12; refine (CA U).mono ?_; rintro e X ⟨rfl, L6⟩)
  have T6 := T5.below L6 T5.lt
  have K6 := K5.below L6 K5.lt
  have Q6 := Q5.next L6
  have t0 : X.cell? ⟨tb, 0, none⟩ = some (.pointer (some a)) := T6.cell 0
  have t1 : X.cell? ⟨tb, 1, none⟩ = some (.pointer (some ⟨b, 0, none⟩)) := T6.cell 1
  have k0 : X.cell? ⟨w.heap.size, 0, none⟩ = some (.int .u16 c20) := K6.cell 0
  have k1 : X.cell? ⟨w.heap.size, 1, none⟩ = some (.int .u16 c21) := K6.cell 1
  have k2 : X.cell? ⟨w.heap.size, 2, none⟩ = some (.int .u16 c22) := K6.cell 2
  have k3 : X.cell? ⟨w.heap.size, 3, none⟩ = some (.int .u16 c23) := K6.cell 3
  obtain ⟨SR, hR⟩ := Q6.rf
  have CK := ask_b (a := a) hR (by omega) c20 c21 c22 c23 y0 y0' y1 y1' y2 y2' y3 y3' (a3 % 9) (by omega) (by omega)
  have htl := T6.lt
  have hkl := K6.lt
  go_upto_region 6 with (go_at_call 21; refine CK.mono ?_; rintro e X2 ⟨p, c, sp, tr, xr, rfl, hc, rsp, hfit, l1, l2, hgd, htr, L7⟩)
  refine at_world ?_
  intro X3 hU
  obtain ⟨D3, T3, rs3, L37⟩ : Blk X3 X2.heap.size #[.slice p sp.length c, .slice none 0 0, .int .u64 tr, .int .u64 xr, .bool false] 56 ∧ Blk X3 tb #[.pointer (some a), .pointer (some ⟨b, 0, none⟩)] 28 ∧ RowIn (fun k => X.heap.size ≤ k ∧ k < X2.heap.size) X3 p (flat sp) ∧ Below X.heap.size X X3 := by
    subst hU
    exact ⟨Blk.new _ _ _, (T6.below L7 T6.lt).alloc _, (rsp.alloc _).mono fun k _ h => h, L7.alloc L7.size _⟩
  have LU3 := Base.next L6 L37
  have s2 := L7.size
  have sU := L6.size
  clear hU t0 t1 k0 k1 k2 k3 CK T6 K6 L7 rsp htl hkl L37
  have ab : X2.heap.size < X3.heap.size := D3.lt
  have habU : U.heap.size ≤ X2.heap.size := by omega
  have hR3 := (Q5.next LU3).rf
  clear hR SR Q6 L6
  obtain ⟨SR, hR⟩ := hR3
  have C6 := ref_sum hR p none sp.length c 0 0 sp [] rfl rfl (by omega) (by decide) hfit Fits.nil rs3.row (Spans.nil _ _)
  have hsm := Lib.hid (show sumG g sp [] = ((sumG g sp []).1, (sumG g sp []).2.1, (sumG g sp []).2.2) from rfl)
  have hbd := sumG_bd g sp []
  generalize (sumG g sp []).1 = y at C6 hsm hbd
  generalize (sumG g sp []).2.1 = od at C6 hsm
  generalize (sumG g sp []).2.2 = is at C6 hsm
  obtain ⟨z0, z1', z2, z3, z4⟩ := AckMay.blk5 D3
  have t1 : X3.cell? ⟨tb, 1, none⟩ = some (.pointer (some ⟨b, 0, none⟩)) := T3.cell 1
  have htl := T3.lt
  go_upto_region 7 with (go_at_call 26; refine C6.mono ?_; rintro e X4 ⟨rfl, L4⟩)
  have D4 := D3.below L4 D3.lt
  have T4 := T3.below L4 T3.lt
  have rs4 := rs3.below L4 (fun k hk => by omega)
  have LU4 := Base.next LU3 L4
  have s4 := L4.size
  have C7 := ref_look (hR.below L4) ⟨sp, [], tr, xr, false⟩ p none sp.length c 0 0 rfl rfl (by omega) (by decide) hfit Fits.nil rs4.row (Spans.nil _ _)
  have hlk := Lib.hid (show lookG g ⟨sp, [], tr, xr, false⟩ = ((lookG g ⟨sp, [], tr, xr, false⟩).1, (lookG g ⟨sp, [], tr, xr, false⟩).2) from rfl)
  have hlkb := (look_bd Q5.ok ⟨sp, [], tr, xr, false⟩).1
  generalize (lookG g ⟨sp, [], tr, xr, false⟩).1 = pn at C7 hlk hlkb
  generalize (lookG g ⟨sp, [], tr, xr, false⟩).2 = why at C7 hlk
  clear C6 z0 z1' z2 z3 z4 t1 D3 T3 rs3 L4 hR
  obtain ⟨z0, z1', z2, z3, z4⟩ := AckMay.blk5 D4
  have t1 : X4.cell? ⟨tb, 1, none⟩ = some (.pointer (some ⟨b, 0, none⟩)) := T4.cell 1
  go_upto_region 8 with (go_at_call 27; refine C7.mono ?_; rintro e X5 ⟨rfl, L5⟩)
  have D5 := D4.below L5 D4.lt
  have T5' := T4.below L5 T4.lt
  have rs5 := rs4.below L5 (fun k hk => by omega)
  have LU5 := Base.next LU4 L5
  have M6 := Base.next M5 LU5
  have s5 := L5.size
  clear C7 z0 z1' z2 z3 z4 t1 D4 T4 rs4 L5
  rcases Bool.eq_false_or_eq_true is with rfl | rfl
  · by_cases hw : why = 0
    · subst hw
      obtain ⟨z0, z1', z2, z3, z4⟩ := AckMay.blk5 D5
      have f3 := D5.free 3
      have f4 := D5.free 4
      have hab5 := D5.lt
      go_upto_region 11 with fail
      refine at_world ?_
      intro X6 hU
      obtain ⟨D6, T6, rs6, h6⟩ : Blk X6 X2.heap.size #[.slice p sp.length c, .slice none 0 0, .int .u64 tr, .int .u64 y, .bool od] 56 ∧ Blk X6 tb #[.pointer (some a), .pointer (some ⟨b, 0, none⟩)] 28 ∧ RowIn (fun k => X.heap.size ≤ k ∧ k < X2.heap.size) X6 p (flat sp) ∧ Fr (fun k => k = X2.heap.size) X5 X6 := by
        subst hU
        have hf : Fr (fun k => k = X2.heap.size) X5 ((X5.setCell ⟨X2.heap.size, 3, none⟩ (.int .u64 y)).setCell ⟨X2.heap.size, 4, none⟩ (.bool od)) := ((Fr.refl (fun k => k = X2.heap.size) X5).setCell (p := ⟨X2.heap.size, 3, none⟩) (fun _ => rfl) _).setCell (p := ⟨X2.heap.size, 4, none⟩) (fun _ => rfl) _
        exact ⟨(D5.set 3 _).set 4 _, T5'.kept hf (fun h => by omega), rs5.kept hf (fun k hk h => by omega), hf⟩
      have LU6 : Below U.heap.size U X6 := LU5.trans (h6.toBelow' (B := U.heap.size) LU5.size fun k _ h => by omega)
      have M7 := Base.next M5 LU6
      clear hU D5 T5' rs5 h6 z0 z1' z2 z3 z4 f3 f4 LU5
      have hmay := may_one l1 l2 hgd tr y od
      have hfi : AckPlain.Fit ⟨sp, [], tr, y, od⟩ := ⟨htr, hbd⟩
      have CP := Ack.ref_put_ack ⟨sp, [], tr, y, od⟩ p none sp.length c 0 0 X6 rfl rfl hmay hfi rs6.row (Row.nil _ _)
      have hpl := put_ack_len hmay
      have hpb := AckPlain.put_ack_bytes hmay
      have hfine := take_fine hd0.1 hmay hfi hsm.out ((look_same g sp [] tr y xr od false).trans hlk.out) 1
      have hcb2 := cb_take hcb Q5.ok hpb (now := 1) (by decide) (by decide)
      rw [hfine] at hcb2
      simp only [fineT] at hcb2
      generalize AckPlain.putAck ⟨sp, [], tr, y, od⟩ = fr at CP hpl hpb hfine
      obtain ⟨z0, z1', z2, z3, z4⟩ := AckMay.blk5 D6
      go_upto_region 12 with (go_at_call 22; refine CP.mono ?_; rintro e X7 ⟨pa, ca, rfl, hca, hcm, hpn, ra, L7⟩)
      have D7 := D6.below L7 D6.lt
      have T7 := T6.below L7 T6.lt
      have rs7 := rs6.below L7 (fun k hk => by have := D6.lt; omega)
      have LU7 := Base.next LU6 L7
      have s7 := L7.size
      have sU6 := LU6.size
      clear CP z0 z1' z2 z3 z4 L7 hpn
      have Q7 := Q5.with_ LU7 (fun _ => False) (fun k h => h.elim)
      have C8 := tri_p Q7 hcb (by decide) (by omega) pa fr.length ca fr rfl hca (by omega) hpb (fun v hv => RowIn.row ((ra.mono (T := fun k => k < X7.heap.size) fun k hk _ => hk).kept hv fun k hk h => by omega)) 1 (by decide) (by decide)
      rw [hfine] at C8
      have hd1 := hd0.1
      simp only [vcells, kcells, fineT] at C8
      have t0 : X7.cell? ⟨tb, 0, none⟩ = some (.pointer (some a)) := T7.cell 0
      have htl7 := T7.lt
      go_upto_region 13 with (go_at_call 18; refine C8.mono ?_; rintro e X8 ⟨xa, xc, xb, xd, Y, rfl, hrw, Q8, F8⟩)
      clear C8 t0 Q7
      have s8 := F8.size
      have D8 := D7.kept F8 (fun h => h (.inr ⟨by omega, D7.lt⟩))
      have rs8 := (rs7.mono (T := fun k => (X.heap.size ≤ k ∧ k < X2.heap.size) ∧ k < X7.heap.size) fun k hk h => ⟨h, hk⟩).kept F8 (fun k hk h => h (.inr ⟨by omega, hk.2⟩))
      have T8 := T5.kept Q8.fr (fun h => h.2.1 rfl)
      refine at_world ?_
      intro X9 hU
      obtain ⟨v9, a9, h9⟩ : Blk X9 X8.heap.size #[.int .i64 2, .int .i64 0, .int .u64 pn, .bool false] 44 ∧ Blk X9 (X8.heap.size + 1) #[.slice xa sp.length xc, .slice xb 0 xd, .int .u64 tr, .int .u64 y, .bool od] 56 ∧ Below X8.heap.size X8 X9 := by
        subst hU
        exact laid2 X8 _ _ _ _
      clear hU D7 T7 rs7
      have D9 := D8.below h9 D8.lt
      have T9 := T8.below h9 T8.lt
      have rs9 := rs8.below h9 (fun k hk => by omega)
      have Q9 := Q8.next h9
      have w9 := hrw.below h9
      have M9 := M5.trans (Q9.fr.toBelow' (B := w.heap.size) M5.size fun k _ h => h.1)
      obtain ⟨i, rfl, hi1, hi2⟩ : ∃ i : Nat, pn = i ∧ (getS (useG g i) i).used = true ∧ hasN (useG g i) i = true := by
        rcases look_cases Q5.ok ⟨sp, [], tr, xr, false⟩ with ⟨_, h2⟩ | ⟨i, i1, i2, h1, h2⟩
        · rw [hlk.out] at h2
          simp only at h2
          rcases h2 with h2 | h2 | h2
          · exact absurd h2.1 (by decide)
          · exact absurd h2.1 (by decide)
          · exact absurd h2.1 (by decide)
        · obtain ⟨j1, j2, j3, j4⟩ := look_first Q5.ok h1
          rw [hlk.out] at h1
          injection h1 with h1
          subst h1
          obtain ⟨g1, g2⟩ := get_used j1 j2 j3 j4
          exact ⟨i, rfl, g1, g2⟩
      obtain ⟨SL, hLd⟩ := Q9.led
      have CT := Led.get_any hLd (i : Int) hlkb.1 hlkb.2
      rw [hi1, hi2] at CT
      generalize getS (useG g i) i = sg at CT
      have t0 : X9.cell? ⟨tb, 0, none⟩ = some (.pointer (some a)) := T9.cell 0
      have htl9 := T9.lt
      go_upto_region 14 with (go_at_call 28; refine CT.mono ?_; rintro e X10 ⟨rfl, L10⟩)
      clear CT t0 hLd
      refine at_world ?_
      intro X11 hU
      obtain ⟨g11, L11⟩ : Blk X11 X10.heap.size #[.int .u64 sg.pn, .int .u64 sg.off, .int .u64 sg.len, .int .u64 sg.nonce, .int .u64 sg.time, .bool sg.coin, .bool true, .int .i64 sg.state] 76 ∧ Below X9.heap.size X9 X11 := by
        subst hU
        exact ⟨Blk.new _ _ _, L10.alloc L10.size _⟩
      clear hU L10
      have CC := tri_counts (Q9.next L11) hcb2 (by decide)
      simp only [hd0.2] at CC
      rw [show (0 : Int) + 1 = 1 from rfl] at CC
      go_upto_region 15 with (go_at_call 17; refine CC.mono ?_; rintro e X12 ⟨rfl, L12⟩)
      clear CC
      refine at_world ?_
      intro X13 hU
      obtain ⟨c13, L13⟩ : Blk X13 X12.heap.size #[.int .u64 0, .int .u64 0, .int .u64 1, .int .u64 0, .int .u64 0] 52 ∧ Below X11.heap.size X11 X13 := by
        subst hU
        exact ⟨Blk.new _ _ _, L12.alloc L12.size _⟩
      clear hU L12
      have L913 := Base.next L11 L13
      have v13 := v9.below L913 v9.lt
      have a13 := a9.below L913 a9.lt
      have D13 := D9.below L913 D9.lt
      have g13 := g11.below L13 g11.lt
      have M13 := Base.next M9 L913
      have rs13 := (rs9.mono (T := fun k => k < X9.heap.size) fun k hk _ => hk).below L913 (fun k h => h)
      have w13 := w9.below L913
      have CS := Ack.ref_same_ack ⟨sp, [], tr, y, od⟩ p none xa xb sp.length c 0 0 sp.length xc 0 xd X13 rfl rfl rfl rfl (show sp.length ≤ _ by omega) (Nat.zero_le _) rs13.row (Row.nil _ _) w13.s.row (Row.nil _ _)
      obtain ⟨z0, z1', z2, z3, z4⟩ := AckMay.blk5 D13
      obtain ⟨r0, r1, r2, r3, r4⟩ := AckMay.blk5 a13
      obtain ⟨q0, q1, q2, q3, q4⟩ := AckMay.blk5 c13
      have v0 : X13.cell? ⟨X8.heap.size, 0, none⟩ = some (.int .i64 2) := v13.cell 0
      have v1 : X13.cell? ⟨X8.heap.size, 1, none⟩ = some (.int .i64 0) := v13.cell 1
      have v2 : X13.cell? ⟨X8.heap.size, 2, none⟩ = some (.int .u64 i) := v13.cell 2
      have v3 : X13.cell? ⟨X8.heap.size, 3, none⟩ = some (.bool false) := v13.cell 3
      have g6 : X13.cell? ⟨X10.heap.size, 6, none⟩ = some (.bool true) := g13.cell 6
      have e1 := D13.lt
      have e2 := a13.lt
      have e3 := c13.lt
      have e4 := v13.lt
      have e5 := g13.lt
      simp only at CS
      go_wp2_with (go_at_call 25; refine CS.mono ?_; rintro e X14 ⟨rfl, L14⟩; have u6 := keepCell L14 g6; have u0 := keepCell L14 q0; have u1 := keepCell L14 q1; have u2 := keepCell L14 q2; have u3 := keepCell L14 q3; have u4 := keepCell L14 q4; have sz := L14.size)
      all_goals go_ret
      all_goals exact ⟨rfl, Base.next M13 L14⟩
    · go_wp2
      all_goals go_ret
      all_goals exact ⟨rfl, M6⟩
  · go_wp2
    all_goals go_ret
    all_goals exact ⟨rfl, M6⟩

set_option maxRecDepth 100000 in
theorem lifted (os : Os) (started : os.Started) (H : Type) (enc : TypeId × Value → H) :
    ReturnsInHanded {} Tryz.checked os 6 .any (Rows.guardTakesSpec.pre6 enc Tryz.prog Tryz.f6 Rows.guardTakesRow.domain false) (Rows.guardTakesSpec.post enc Tryz.prog Tryz.f6 false true false false) := by
  refine returnsInHanded_of_change (C := Tryz.checked) own started (by kernel_rfl) Tryz.func6
    (ChangeSpec.witness6 (enc := enc) (C := Tryz.checked) false ⟨#[], #[.int .u8 0, .slice none 0 0, .agg #[.int .u16 0, .int .u16 0, .int .u16 0, .int .u16 0], .int .u8 0], []⟩ 8 (by kernel_rfl) (by kernel_rfl) (by kernel_rfl) (by kernel_rfl)) ?_
  intro W base args ds gs before hval0 hW hcnd _
  have hval : ∀ (j : Nat) t v, Tryz.f6.params[j]? = some t → args[j]? = some v → Value.okWide Tryz.prog W .any base t v := hval0
  have hW' := hW
  obtain ⟨p, q, hA0, hV, rfl, hfz, hnd⟩ := hW
  have hA : DataW.TrodAll enc Tryz.prog W 0 (fun _ => true) true Tryz.f6.params.toList args.toList ds p := hA0
  rw [Tryz.params6] at hA hval
  obtain ⟨v0, vs0, d0, ds0, p0, q0, hargs, rfl, rfl, h0, r0⟩ := trodAll_cons hA
  obtain ⟨v1, vs1, d1, ds1, p1, q1, rfl, rfl, rfl, h1, r1⟩ := trodAll_cons r0
  obtain ⟨v2, vs2, d2, ds2, p2, q2, rfl, rfl, rfl, h2, r2⟩ := trodAll_cons r1
  obtain ⟨v3, vs3, d3, ds3, p3, q3, rfl, rfl, rfl, h3, r3⟩ := trodAll_cons r2
  obtain ⟨rfl, rfl, rfl⟩ := trodAll_nil r3
  obtain rfl : args = #[v0, v1, v2, v3] := by cases args; simp_all
  obtain ⟨rfl, rfl⟩ := trodVars_none hV
  obtain ⟨a0, rfl, rfl, rfl, w0⟩ := open_int Tryz.underlying5 (hval 0 5 v0 rfl rfl) h0
  obtain ⟨a1, len1, cap1, rfl⟩ := okWide_slice Tryz.underlying22 (hval 1 22 v1 rfl rfl)
  have k1 := h1
  have lt1 : ∀ x ∈ p1, x.block < W.heap.size := by obtain ⟨m, hm⟩ := k1; exact DataW.trod_lt m _ _ _ hm
  obtain ⟨z1, w1, n1, m1, o1, f1⟩ : ∃ zs, Deeds W a1 zs ∧ zs.length = len1 ∧ len1 ≤ cap1 ∧ cap1 ≤ maxLen ∧ (∀ d ∈ zs, Fit d) := by
    obtain ⟨fuel, hf⟩ := h1
    rcases open_deeds Tryz.underlying22 Tryz.underlying90 (by kernel_rfl) (by kernel_rfl) Tryz.underlying3 Tryz.underlying23 Tryz.underlying23 hf with ⟨hcs, hx⟩ | ⟨x, l, c, zs, E, S, hcs, hl, hm, hz, hx, hE, hS, hsp, hwz⟩
    · simp [Value.cells] at hcs
      obtain ⟨rfl, rfl, rfl⟩ := hcs
      exact ⟨[], Deeds.nil _ _, rfl, Nat.le_refl _, Nat.zero_le _, fun _ h => by cases h⟩
    · simp [Value.cells] at hcs
      obtain ⟨rfl, rfl, rfl⟩ := hcs
      exact ⟨zs, hsp, hz, hl, hm, hwz⟩
  have k2 := h2
  have lt2 : ∀ x ∈ p2, x.block < W.heap.size := by obtain ⟨m, hm⟩ := k2; exact DataW.trod_lt m _ _ _ hm
  obtain ⟨c20, c21, c22, c23, rfl, w2⟩ := open_quad Tryz.underlying40 Tryz.underlying39 (by kernel_rfl) (by kernel_rfl) (by kernel_rfl) (hval 2 40 v2 rfl rfl) h2
  obtain ⟨a3, rfl, rfl, rfl, w3⟩ := open_int Tryz.underlying5 (hval 3 5 v3 rfl rfl) h3
  clear hA0 hval0
  refine (walk a0 a1 len1 cap1 z1 c20 c21 c22 c23 a3 W w0 w1 n1 m1 o1 f1 w2 w3).mono fun e W' ⟨he, bel⟩ => ?_
  subst he
  exact ⟨_, rfl, _, _, _, [], _, [], hW', trodAll_mk1 (shut_bool Tryz.underlying4 _), (trodAll_cons_mk (shut_int Tryz.underlying5 w0) (trodAll_cons_mk (Below.trod laidOut (by kernel_rfl) (of_decide_eq_true (by kernel_rfl)) k1 bel lt1) (trodAll_cons_mk (Below.trod laidOut (by kernel_rfl) (of_decide_eq_true (by kernel_rfl)) k2 bel lt2) (trodAll_cons_mk (shut_int Tryz.underlying5 w3) trodAll_mk0)))), rfl, bel.frame _, fun h => by cases h⟩

theorem over : Rows.guardTakesRow.holds Tryz.pinned (OpenSpec.ofChange Rows.guardTakesSpec) :=
  OpenClaim.holds_of_wide 6 Tryz.f6 rfl rfl rfl rfl rfl rfl rfl ⟨rfl, rfl, rfl, rfl, rfl⟩ rfl rfl rfl rfl rfl (by kernel_rfl) Tryz.func6 (by kernel_rfl)
    (of_decide_eq_true (by kernel_rfl)) (by unfold Func.isWrapper; first | (rw [if_pos (by decide +kernel)]; kernel_rfl) | (rw [if_neg (by decide +kernel)]; exact ⟨rfl, rfl⟩))
    (fun os started H enc _ => lifted os started H enc)

/-- The given statement. -/
theorem proved : Rows.GuardTakesSaid :=
  over
#print axioms proved
end Go.Proofs.YtkiloaebokkjbaaGreat.guardTakes
