/-
  Behind an abort nothing is taken any more, and its evidence stays as it was. No conditions.
-/
import Derived.Test.YtkiloaebokkjbaaGreatM1
import Derived.Test.YtkiloaebokkjbaaGreatQuad
import Derived.Test.YtkiloaebokkjbaaGreatRows
import Derived.Test.YtkiloaebokkjbaaGreatRow
import Derived.WalkKit
import Derived.ProofKit
import Derived.OpenShut
import Derived.ShutString
import Derived.ChangeOld
import Derived.Below
import Derived.Test.YtkiloaebokkjbaaGreatGuardStep
import Derived.Test.YtkiloaebokkjbaaGreatM6
namespace Go.Proofs.YtkiloaebokkjbaaGreat.guardEnds
open Go.ChangeShapes Go.WideShapes Go.ChangeAt Go.RowKit
open Go.ChangeMaps (open_string shut_string)
open Go.Proofs.YtkiloaebokkjbaaGreat.Base
set_option linter.unusedVariables false
set_option linter.unusedSimpArgs false

theorem own : ownKnob Tryz.prog.godebug = none := by kernel_rfl
theorem laidOut : laidOutB Tryz.prog = true := by kernel_rfl

open Go.Proofs.YtkiloaebokkjbaaGreat.Led Go.Proofs.YtkiloaebokkjbaaGreat.LedPlain Go.Proofs.YtkiloaebokkjbaaGreat.GuardPlain Go.Proofs.YtkiloaebokkjbaaGreat.Guard
open Go.Proofs.YtkiloaebokkjbaaGreat.AckPlain (K)
open Go.Proofs.YtkiloaebokkjbaaGreat.SpanPlain
set_option maxHeartbeats 4000000 in
set_option maxRecDepth 20000 in
theorem walk (a0 : Int) (a1 : Option Addr) (len1 cap1 : Nat) (z1 : List Dd) (c20 c21 c22 c23 : Int) (a3 : Int) (a4 : Option Addr) (len4 cap4 : Nat) (z4 : List Sh) (w : World) (w0 : (Lit.int .u8 a0).wf = true) (w1 : Deeds w a1 z1) (n1 : z1.length = len1) (m1 : len1 ≤ cap1) (o1 : cap1 ≤ maxLen) (f1 : ∀ d ∈ z1, Fit d) (w2 : (Lit.int .u16 c20).wf = true ∧ (Lit.int .u16 c21).wf = true ∧ (Lit.int .u16 c22).wf = true ∧ (Lit.int .u16 c23).wf = true) (w3 : (Lit.int .u64 a3).wf = true) (w4 : Shots w a4 z4) (n4 : z4.length = len4) (m4 : len4 ≤ cap4) (o4 : cap4 ≤ maxLen) (f4 : ∀ d ∈ z4, ShFit w d) :
    Calls Tryz.prog 5 #[.int .u8 a0, .slice a1 len1 cap1, .agg #[.int .u16 c20, .int .u16 c21, .int .u16 c22, .int .u16 c23], .int .u64 a3, .slice a4 len4 cap4] w fun e w' => e = .returned (.bool true) ∧ Below w.heap.size w w' := by
  obtain ⟨p0, p1⟩ := Base.u8_of w0
  obtain ⟨⟨y0, y0'⟩, ⟨y1, y1'⟩, ⟨y2, y2'⟩, ⟨y3, y3'⟩⟩ : (0 ≤ c20 ∧ c20 ≤ 65535) ∧ (0 ≤ c21 ∧ c21 ≤ 65535) ∧ (0 ≤ c22 ∧ c22 ≤ 65535) ∧ (0 ≤ c23 ∧ c23 ≤ 65535) := ⟨Base.u16_of w2.1, Base.u16_of w2.2.1, Base.u16_of w2.2.2.1, Base.u16_of w2.2.2.2⟩
  obtain ⟨x0, x1⟩ := Base.u64_of w3
  subst n1
  subst n4
  unfold maxLen at o4
  go_enter Tryz.func5, Tryz.ntmps5
  go_upto_region 1 with fail
  refine at_world ?_
  intro V hV
  obtain ⟨hK, hB⟩ : Blk V w.heap.size #[.int .u16 c20, .int .u16 c21, .int .u16 c22, .int .u16 c23] 40 ∧ Below w.heap.size w V := by
    subst hV
    exact ⟨Blk.new _ _ _, (Below.refl _ _).alloc (Nat.le_refl _) _⟩
  clear hV
  have hVs := hK.lt
  have CM := make_any (a0 % 40) 4611686018427387903 (by omega) (by omega) (by decide) (by decide) a1 z1.length cap1 z1 V rfl m1 o1 f1 (w1.below hB)
  have CA := fun U => alive_guard U
  have CG := fun V => Guard.new_any 3 50 (by decide) (by decide) (by decide) (by decide) V
  have hcb := cb_new 3 50 (by decide) (by decide)
  have hd0 : (newD 3 50).ended = false ∧ (newD 3 50).n = ⟨0, 0, 0, 0, 0⟩ := ⟨rfl, rfl⟩
  generalize newD 3 50 = d0 at *
  have hgl := made_len (a0 % 40) 4611686018427387903 z1
  generalize madeG (a0 % 40) 4611686018427387903 z1 = g at *
  go_upto_region 2 with (go_at_call 9; refine CM.mono ?_; rintro e u1 ⟨a, b, S, rfl, P1, hS, L1⟩)
  refine at_world ?_
  intro U2 hU
  have s1 := L1.size
  obtain ⟨T2, P2, M2, K2, q2⟩ : Blk U2 u1.heap.size #[.pointer (some a), .pointer (some ⟨b, 0, none⟩)] 28 ∧ Pair S U2 a b g ∧ Below w.heap.size w U2 ∧ Blk U2 w.heap.size #[.int .u16 c20, .int .u16 c21, .int .u16 c22, .int .u16 c23] 40 ∧ U2.heap.size = u1.heap.size + 1 := by
    subst hU
    exact ⟨Blk.new _ _ _, P1.below ((Below.refl _ _).alloc (Nat.le_refl _) _), (Base.next hB L1).alloc (Base.next hB L1).size _, (hK.below L1 hK.lt).alloc _, by simp⟩
  have hSl : ∀ k, S k → w.heap.size < k ∧ k < u1.heap.size := fun k hk => ⟨by have := hS k hk; omega, P1.lt k hk⟩
  clear hU P1 L1 hS CM hB
  go_upto_region 3 with (go_at_call 10; refine (CG U2).mono ?_; rintro e U ⟨gp, rfl, G3, L3⟩)
  have s3 := L3.size
  have T5 := T2.below L3 T2.lt
  have K5 := K2.below L3 K2.lt
  have M5 := Base.next M2 L3
  have Q5 : Tri (fun k => w.heap.size ≤ k ∧ k ≠ u1.heap.size ∧ k ≠ w.heap.size) (fun _ => False) (fun _ => False) U U a b gp g g d0 :=
    Tri.make (P2.below L3) G3 (fun k hk => by have := hSl k hk; omega) (fun k hk => by omega) (fun k hk h => by have := hSl k h; omega)
  have htu : u1.heap.size < U.heap.size := by omega
  have hkt : w.heap.size < u1.heap.size := by omega
  clear G3 L3 CG P2 M2 T2 K2 s1 s3 q2 hSl hK
  generalize u1.heap.size = tb at *
  by_cases h30 : 30 < z4.length
  · have h30I : (30 : Int) < (z4.length : Int) := by omega
    go_wp2_with (first
      | (go_at_call 12; (with_reducible refine (CA U).mono ?_); rintro e u5 ⟨rfl, L5⟩; have M6 := Base.next M5 L5)
      | (go_at_call 12; (with_reducible refine (CA u5).mono ?_); rintro e u6 ⟨rfl, L6⟩; have M7 := Base.next M6 L6))
    all_goals go_ret
    all_goals exact ⟨rfl, M7⟩
  have h30I : (z4.length : Int) ≤ 30 := by omega
  go_upto_region 5 with (go_at_call 12; refine (CA U).mono ?_; rintro e X ⟨rfl, L6⟩)
  have T6 := T5.below L6 T5.lt
  have K6 := K5.below L6 K5.lt
  have Q6 := Q5.next L6
  have t0 : X.cell? ⟨tb, 0, none⟩ = some (.pointer (some a)) := T6.cell 0
  have t1 : X.cell? ⟨tb, 1, none⟩ = some (.pointer (some ⟨b, 0, none⟩)) := T6.cell 1
  have k0 : X.cell? ⟨w.heap.size, 0, none⟩ = some (.int .u16 c20) := K6.cell 0
  have k1 : X.cell? ⟨w.heap.size, 1, none⟩ = some (.int .u16 c21) := K6.cell 1
  have k2 : X.cell? ⟨w.heap.size, 2, none⟩ = some (.int .u16 c22) := K6.cell 2
  have k3 : X.cell? ⟨w.heap.size, 3, none⟩ = some (.int .u16 c23) := K6.cell 3
  obtain ⟨SR, hR⟩ := Q6.rf
  have CK := ask_b (a := a) hR (by omega) c20 c21 c22 c23 y0 y0' y1 y1' y2 y2' y3 y3' 0 (by decide) (by decide)
  have htl := T6.lt
  have hkl := K6.lt
  go_upto_region 6 with (go_at_call 21; refine CK.mono ?_; rintro e X2 ⟨p, c, sp, tr, xr, rfl, hc, rsp, hfit, l1, l2, hgd, htr, L7⟩)
  refine at_world ?_
  intro X3 hU
  obtain ⟨D3, T3, rs3, L37⟩ : Blk X3 X2.heap.size #[.slice p sp.length c, .slice none 0 0, .int .u64 tr, .int .u64 xr, .bool false] 56 ∧ Blk X3 tb #[.pointer (some a), .pointer (some ⟨b, 0, none⟩)] 28 ∧ RowIn (fun k => X.heap.size ≤ k ∧ k < X2.heap.size) X3 p (flat sp) ∧ Below X.heap.size X X3 := by
    subst hU
    exact ⟨Blk.new _ _ _, (T6.below L7 T6.lt).alloc _, (rsp.alloc _).mono fun k _ h => h, L7.alloc L7.size _⟩
  have LU3 := Base.next L6 L37
  have s2 := L7.size
  have sU := L6.size
  clear hU t0 t1 k0 k1 k2 k3 CK T6 K6 L7 rsp htl hkl L37
  have ab : X2.heap.size < X3.heap.size := D3.lt
  have habU : U.heap.size ≤ X2.heap.size := by omega
  clear hR SR Q6 L6 CA
  obtain ⟨z0, z1', z2, z3, z4'⟩ := AckMay.blk5 D3
  have f3 := D3.free 3
  go_upto_region 7 with fail
  refine at_world ?_
  intro X6 hU
  obtain ⟨D6, T6, rs6, h6⟩ : Blk X6 X2.heap.size #[.slice p sp.length c, .slice none 0 0, .int .u64 tr, .int .u64 a3, .bool false] 56 ∧ Blk X6 tb #[.pointer (some a), .pointer (some ⟨b, 0, none⟩)] 28 ∧ RowIn (fun k => X.heap.size ≤ k ∧ k < X2.heap.size) X6 p (flat sp) ∧ Fr (fun k => k = X2.heap.size) X3 X6 := by
    subst hU
    have hf : Fr (fun k => k = X2.heap.size) X3 (X3.setCell ⟨X2.heap.size, 3, none⟩ (.int .u64 a3)) := (Fr.refl (fun k => k = X2.heap.size) X3).setCell (p := ⟨X2.heap.size, 3, none⟩) (fun _ => rfl) _
    exact ⟨D3.set 3 _, T3.kept hf (fun h => by omega), rs3.kept hf (fun k hk h => by omega), hf⟩
  have LU6 : Below U.heap.size U X6 := LU3.trans (h6.toBelow' (B := U.heap.size) LU3.size fun k _ h => by omega)
  have M7 := Base.next M5 LU6
  have sU6 := LU6.size
  have s36 := h6.size
  have hab6 := D6.lt
  clear hU D3 T3 rs3 h6 z0 z1' z2 z3 z4' f3
  generalize hab : X2.heap.size = kb at *
  have hmay := may_one l1 l2 hgd tr a3 false
  have hfi : AckPlain.Fit ⟨sp, [], tr, a3, false⟩ := ⟨htr, x0, x1⟩
  have hpl := put_ack_len hmay
  have hpb := AckPlain.put_ack_bytes hmay
  have hgp : (AckPlain.getAck (AckPlain.putAck ⟨sp, [], tr, a3, false⟩)).1 = ⟨sp, [], tr, a3, false⟩ := by
    have := AckPlain.get_put hmay hfi []
    rw [List.append_nil, if_pos rfl] at this
    rw [this]
  obtain ⟨AA, QA, hA2, hA3⟩ := (Q5.with_ LU6 (fun _ => False) (fun k h => h.elim)).tight
  have hA0 : ∀ k, AA k → w.heap.size ≤ k := fun k hk => by
    rcases Nat.lt_or_ge k X6.heap.size with h | h
    · rcases (hA3 k h hk).1 with h2 | h2
      · exact h2.1
      · omega
    · omega
  have hAt : ¬ AA tb := fun hk => by
    rcases (hA3 tb (by omega) hk).1 with h2 | h2
    · exact h2.2.1 rfl
    · omega
  have hAn : ∀ k, U.heap.size ≤ k → k < X6.heap.size → ¬ AA k := fun k h1 h2 hk => (hA3 k h2 hk).2 (.inr ⟨h1, h2⟩)
  clear hA3 Q5
  have CPt := fun V (hV : Below X6.heap.size X6 V) => Ack.ref_put_ack ⟨sp, [], tr, a3, false⟩ p none sp.length c 0 0 V rfl rfl hmay hfi (rs6.below hV (fun k hk => by omega)).row (Row.nil _ _)
  generalize hfr : AckPlain.putAck ⟨sp, [], tr, a3, false⟩ = fr at *
  clear hfr
  go_cut [15, 16] from 63 to 71 (fun s1 s2 wx => ∃ (p1 p2 : Nat) (x : Option Addr) (cx : Nat) (y : Option Addr) (cy : Nat), s1 = .pointer (some ⟨p1, 0, none⟩) ∧ s2 = .pointer (some ⟨p2, 0, none⟩) ∧ Blk wx p1 (vcells (takeT d0 g fr 7).v) 44 ∧ Blk wx p2 (kcells (takeT d0 g fr 7).k x cx y cy) 56 ∧ (X6.heap.size ≤ p1 ∧ X6.heap.size ≤ p2 ∧ p1 ≠ p2) ∧ Tri AA (fun k => k = p1 ∨ k = p2) (fun k => k = p1 ∨ k = p2) X6 wx a b gp (takeT d0 g fr 7).l g (takeT d0 g fr 7).g ∧ Fr AA X6 wx ∧ Fr (fun k => k < X6.heap.size) X6 wx)
  case first =>
    have hDD : Fr (fun k => k < X6.heap.size) X6 X6.drew := Fr.of_below (Base.drew1 (Below.refl _ _))
    have LV : Below X6.heap.size X6 X6.drew := Base.drew1 (Below.refl _ _)
    have hDs : X6.heap.size ≤ X6.drew.heap.size := Nat.le_refl _
    have hWD := LV.size
    have SV : Fr AA X6 X6.drew := Fr.of_below LV
    have hBk : ∀ k, k < w.heap.size → k < X6.heap.size ∧ ¬ AA k := fun k hk => ⟨by omega, fun h => by have := hA0 _ h; omega⟩
    have CF := fun V (hV : Below X6.heap.size X6 V) => CPt V hV
    have CT := fun V (hV : Below X6.heap.size X6 V) pf cf hnc (hrow : RowIn (fun k => k < w.heap.size ∨ X6.heap.size ≤ k) V pf (fr.map (.int .u8))) => tri_p (QA.with_ hV (fun k => k < w.heap.size) hBk) hcb (by omega) (by omega) pf fr.length cf fr rfl hnc (by omega) hpb (fun v hv => RowIn.row ((hrow.mono (T := fun k => k < V.heap.size) fun k hk _ => hk).kept hv fun k hk h => by omega)) 7 (by decide) (by decide)
    refine held_start (fun v => Fr AA X6 v) (by kernel_rfl) ?_
    generalize X6.drew = D at *
    have LD : Below D.heap.size D D := Below.refl _ _
    have zt0 := fun V (hV : Fr AA X6 V) => show V.cell? ⟨tb, 0, none⟩ = some (.pointer (some a)) from (T6.kept hV hAt).cell 0
    have zK := fun V (hV : Fr AA X6 V) => show V.rangeAt kb 0 [.slice p sp.length c, .slice none 0 0, .int .u64 tr, .int .u64 a3, .bool false] from Blk.range (D6.kept hV (hAn _ (by omega) (by omega))) (fun j u hj => by rw [Nat.zero_add]; rcases j with _ | _ | _ | _ | _ | j <;> first | exact hj | simp at hj)
    refine held_take (i := 0) (v := .pointer (some gp)) rfl (by kernel_rfl) (by kernel_rfl) (by kernel_rfl) (fun _ _ _ h => h) (by kernel_rfl) SV (fun _ hu => by kernel_rfl) ?_
    refine held_take (i := 1) (v := .pointer (some ⟨tb, 0, none⟩)) rfl (by kernel_rfl) (by kernel_rfl) (by kernel_rfl) (fun _ _ _ h => h) (by kernel_rfl) SV (fun _ hu => by kernel_rfl) ?_
    refine held_take (i := 2) (v := .pointer (some a)) rfl (by kernel_rfl) (by kernel_rfl) (by kernel_rfl) (fun _ _ _ h => h) (by kernel_rfl) SV (fun _ hu => by exact lb_any 25 (.tmp 65) rfl (by kernel_rfl) (by kernel_rfl) (zt0 _ hu)) ?_
    refine held_take (i := 3) (v := .agg #[.slice p sp.length c, .slice none 0 0, .int .u64 tr, .int .u64 a3, .bool false]) rfl (by kernel_rfl) (by kernel_rfl) (by kernel_rfl) (fun _ _ _ h => h) (by kernel_rfl) SV (fun _ hu => by exact lb_mid 56 (.tmp 14) rfl (by kernel_rfl) (zK _ hu) Tryz.underlying56 rfl (by kernel_rfl)) ?_
    refine held_three (i := 4) (j := 9) (k := 10) (by kernel_rfl) (op_call (i := 4) (f := 22) (args := #[.agg #[.slice p sp.length c, .slice none 0 0, .int .u64 tr, .int .u64 a3, .bool false]]) rfl (by kernel_rfl) (by kernel_rfl) ((CF D LV).mono ?_)) (op_value (i := 9) (v := .pointer (some ⟨D.heap.size, 0, none⟩)) (w' := D.alloc (.cells #[.int .i64 0, .int .i64 0, .int .u64 0, .bool false] 44)) rfl (by kernel_rfl) (by kernel_rfl) ⟨SV.alloc _, ?_⟩) (op_value (i := 10) (v := .pointer (some ⟨D.heap.size, 0, none⟩)) (w' := D.alloc (.cells #[.slice none 0 0, .slice none 0 0, .int .u64 0, .int .u64 0, .bool false] 56)) rfl (by kernel_rfl) (by kernel_rfl) ⟨SV.alloc _, ?_⟩)
    · rintro e wF ⟨pf, cf, rfl, hnc, hcm, hpn, hrow, LF⟩
      have zF := LF.size
      have zL := LV.size
      have zD := LD.size
      have row := hrow.mono (T := fun k => k < w.heap.size ∨ X6.heap.size ≤ k) fun k _ h => .inr (by omega)
      have LV := Base.next LV LF
      have LD := Base.next LD LF
      have SV : Fr AA X6 wF := Fr.of_below LV
      refine ⟨_, rfl, SV, ?_⟩
      refine held_three (i := 5) (j := 9) (k := 10) (by kernel_rfl) (op_call (i := 5) (f := 18) (args := #[.pointer (some gp), .pointer (some a), .slice pf fr.length cf, .int .u64 7]) rfl (by kernel_rfl) (by kernel_rfl) ((CT wF LV pf cf hnc row).mono ?_)) (op_value (i := 9) (v := .pointer (some ⟨wF.heap.size, 0, none⟩)) (w' := wF.alloc (.cells #[.int .i64 0, .int .i64 0, .int .u64 0, .bool false] 44)) rfl (by kernel_rfl) (by kernel_rfl) ⟨SV.alloc _, ?_⟩) (op_value (i := 10) (v := .pointer (some ⟨wF.heap.size, 0, none⟩)) (w' := wF.alloc (.cells #[.slice none 0 0, .slice none 0 0, .int .u64 0, .int .u64 0, .bool false] 56)) rfl (by kernel_rfl) (by kernel_rfl) ⟨SV.alloc _, ?_⟩)
      · rintro e wT ⟨x, cx, y, cy, Yf, rfl, hrw, QV, FT⟩
        have zT' := FT.size
        have zL := LV.size
        have zD := LD.size
        have SV := QV.fr
        have NV : Fr (fun k => k < X6.heap.size) D wT := (Fr.of_below LD : Fr (fun k => k < X6.heap.size) D wF).trans FT (fun k hk h => Nat.lt_of_not_le fun h2 => h (.inr ⟨h2, by omega⟩))
        clear CT CF
        generalize hX : takeT d0 g fr 7 = X at *
        have hX := Lib.hid hX
        refine ⟨_, rfl, SV, ?_⟩
        refine held_take (i := 6) (v := .tuple #[.agg (vcells X.v), .agg (kcells X.k x cx y cy)]) rfl (by kernel_rfl) (by kernel_rfl) (by kernel_rfl) (fun _ _ _ h => h) (by kernel_rfl) SV (fun _ hu => by kernel_rfl) ?_
        refine held_take (i := 7) (v := .agg (vcells X.v)) rfl (by kernel_rfl) (by kernel_rfl) (by kernel_rfl) (fun _ _ _ h => h) (by kernel_rfl) SV (fun _ hu => by kernel_rfl) ?_
        refine held_take (i := 8) (v := .agg (kcells X.k x cx y cy)) rfl (by kernel_rfl) (by kernel_rfl) (by kernel_rfl) (fun _ _ _ h => h) (by kernel_rfl) SV (fun _ hu => by kernel_rfl) ?_
        refine held_two (i := 9) (j := 10) (by kernel_rfl) (op_value (i := 9) (v := .pointer (some ⟨wT.heap.size, 0, none⟩)) (w' := wT.alloc (.cells #[.int .i64 0, .int .i64 0, .int .u64 0, .bool false] 44)) rfl (by kernel_rfl) (by kernel_rfl) ⟨SV.alloc _, ?_⟩) (op_value (i := 10) (v := .pointer (some ⟨wT.heap.size, 0, none⟩)) (w' := wT.alloc (.cells #[.slice none 0 0, .slice none 0 0, .int .u64 0, .int .u64 0, .bool false] 56)) rfl (by kernel_rfl) (by kernel_rfl) ⟨SV.alloc _, ?_⟩)
        · have hA : Below wT.heap.size wT (wT.alloc (.cells #[.int .i64 0, .int .i64 0, .int .u64 0, .bool false] 44)) := (Below.refl _ _).alloc (Nat.le_refl _) _
          have bA := Blk.new wT #[.int .i64 0, .int .i64 0, .int .u64 0, .bool false] 44
          have mA : wT.heap.size < (wT.alloc (.cells #[.int .i64 0, .int .i64 0, .int .u64 0, .bool false] 44)).heap.size := by simp
          generalize wT.alloc (.cells #[.int .i64 0, .int .i64 0, .int .u64 0, .bool false] 44) = vA at *
          have zS' := SV.size
          have zD := NV.size
          obtain ⟨FA, ZA, QV, zzA, zA⟩ := QV.grow hA (by omega)
          have NV := NV.trans (T := fun _ => False) (Fr.of_below hA) fun _ _ h => h.elim
          have SV := QV.fr
          refine held_one (i := 10) (v := .pointer (some ⟨vA.heap.size, 0, none⟩)) (w' := vA.alloc (.cells #[.slice none 0 0, .slice none 0 0, .int .u64 0, .int .u64 0, .bool false] 56)) rfl (by kernel_rfl) (by kernel_rfl) (by kernel_rfl) (SV.alloc _) ?_
          have hB : Below vA.heap.size vA (vA.alloc (.cells #[.slice none 0 0, .slice none 0 0, .int .u64 0, .int .u64 0, .bool false] 56)) := (Below.refl _ _).alloc (Nat.le_refl _) _
          have bB := Blk.new vA #[.slice none 0 0, .slice none 0 0, .int .u64 0, .int .u64 0, .bool false] 56
          have mB : vA.heap.size < (vA.alloc (.cells #[.slice none 0 0, .slice none 0 0, .int .u64 0, .int .u64 0, .bool false] 56)).heap.size := by simp
          generalize vA.alloc (.cells #[.slice none 0 0, .slice none 0 0, .int .u64 0, .int .u64 0, .bool false] 56) = vB at *
          have bA := bA.below hB bA.lt
          have zS' := SV.size
          have zD := NV.size
          obtain ⟨FB, ZB, QV, zzB, zB⟩ := QV.grow hB (by omega)
          have zA := zzB _ zA
          have NV := NV.trans (T := fun _ => False) (Fr.of_below hB) fun _ _ h => h.elim
          have SV := QV.fr
          have S1 := SV.setRow (g := wT.heap.size) (fun h => by omega) (vcells X.v)
          refine held_st (i := 11) rfl (by kernel_rfl) (by kernel_rfl) (st_row 44 (.tmp 15) (.tmp 70) rfl (g := wT.heap.size) (cells := vcells X.v) (by kernel_rfl) (by kernel_rfl) bA (by kernel_rfl) rfl (by simp [vcells, Value.oneCell'])) S1 ?_
          have bB1 := bB.otherRow (g := wT.heap.size) (by omega) (vcells X.v)
          have S2 := S1.setRow (g := vA.heap.size) (fun h => by omega) (kcells X.k x cx y cy)
          refine held_st (i := 12) rfl (by kernel_rfl) (by kernel_rfl) (st_row 56 (.tmp 16) (.tmp 71) rfl (g := vA.heap.size) (cells := kcells X.k x cx y cy) (by kernel_rfl) (by kernel_rfl) bB1 (by kernel_rfl) rfl (by simp [kcells, Value.oneCell'])) S2 ?_
          refine held_done (by kernel_rfl) ?_
          have bA1 := (bA.setRow (vcells X.v)).otherRow (g := vA.heap.size) (by omega) (kcells X.k x cx y cy)
          have bB2 := bB1.setRow (kcells X.k x cx y cy)
          have QF := ((QV.set (b := wT.heap.size) zA (by omega) (vcells X.v)).set (b := vA.heap.size) zB (by omega) (kcells X.k x cx y cy)).pick zA zB
          have NF := hDD.trans ((NV.setRow (g := wT.heap.size) (fun h => by omega) (vcells X.v)).setRow (g := vA.heap.size) (fun h => by omega) (kcells X.k x cx y cy)) fun _ _ h => h
          go_wp2
          go_meet
          have hX := hX.out
          subst hX
          exact ⟨wT.heap.size, vA.heap.size, x, cx, y, cy, rfl, rfl, bA1, bB2, ⟨by omega, by omega, by omega⟩, QF, S2, NF⟩
        · have hB : Below wT.heap.size wT (wT.alloc (.cells #[.slice none 0 0, .slice none 0 0, .int .u64 0, .int .u64 0, .bool false] 56)) := (Below.refl _ _).alloc (Nat.le_refl _) _
          have bB := Blk.new wT #[.slice none 0 0, .slice none 0 0, .int .u64 0, .int .u64 0, .bool false] 56
          have mB : wT.heap.size < (wT.alloc (.cells #[.slice none 0 0, .slice none 0 0, .int .u64 0, .int .u64 0, .bool false] 56)).heap.size := by simp
          generalize wT.alloc (.cells #[.slice none 0 0, .slice none 0 0, .int .u64 0, .int .u64 0, .bool false] 56) = vB at *
          have zS' := SV.size
          have zD := NV.size
          obtain ⟨FB, ZB, QV, zzB, zB⟩ := QV.grow hB (by omega)
          have NV := NV.trans (T := fun _ => False) (Fr.of_below hB) fun _ _ h => h.elim
          have SV := QV.fr
          refine held_one (i := 9) (v := .pointer (some ⟨vB.heap.size, 0, none⟩)) (w' := vB.alloc (.cells #[.int .i64 0, .int .i64 0, .int .u64 0, .bool false] 44)) rfl (by kernel_rfl) (by kernel_rfl) (by kernel_rfl) (SV.alloc _) ?_
          have hA : Below vB.heap.size vB (vB.alloc (.cells #[.int .i64 0, .int .i64 0, .int .u64 0, .bool false] 44)) := (Below.refl _ _).alloc (Nat.le_refl _) _
          have bA := Blk.new vB #[.int .i64 0, .int .i64 0, .int .u64 0, .bool false] 44
          have mA : vB.heap.size < (vB.alloc (.cells #[.int .i64 0, .int .i64 0, .int .u64 0, .bool false] 44)).heap.size := by simp
          generalize vB.alloc (.cells #[.int .i64 0, .int .i64 0, .int .u64 0, .bool false] 44) = vA at *
          have bB := bB.below hA bB.lt
          have zS' := SV.size
          have zD := NV.size
          obtain ⟨FA, ZA, QV, zzA, zA⟩ := QV.grow hA (by omega)
          have zB := zzA _ zB
          have NV := NV.trans (T := fun _ => False) (Fr.of_below hA) fun _ _ h => h.elim
          have SV := QV.fr
          have S1 := SV.setRow (g := vB.heap.size) (fun h => by omega) (vcells X.v)
          refine held_st (i := 11) rfl (by kernel_rfl) (by kernel_rfl) (st_row 44 (.tmp 15) (.tmp 70) rfl (g := vB.heap.size) (cells := vcells X.v) (by kernel_rfl) (by kernel_rfl) bA (by kernel_rfl) rfl (by simp [vcells, Value.oneCell'])) S1 ?_
          have bB1 := bB.otherRow (g := vB.heap.size) (by omega) (vcells X.v)
          have S2 := S1.setRow (g := wT.heap.size) (fun h => by omega) (kcells X.k x cx y cy)
          refine held_st (i := 12) rfl (by kernel_rfl) (by kernel_rfl) (st_row 56 (.tmp 16) (.tmp 71) rfl (g := wT.heap.size) (cells := kcells X.k x cx y cy) (by kernel_rfl) (by kernel_rfl) bB1 (by kernel_rfl) rfl (by simp [kcells, Value.oneCell'])) S2 ?_
          refine held_done (by kernel_rfl) ?_
          have bA1 := (bA.setRow (vcells X.v)).otherRow (g := wT.heap.size) (by omega) (kcells X.k x cx y cy)
          have bB2 := bB1.setRow (kcells X.k x cx y cy)
          have QF := ((QV.set (b := vB.heap.size) zA (by omega) (vcells X.v)).set (b := wT.heap.size) zB (by omega) (kcells X.k x cx y cy)).pick zA zB
          have NF := hDD.trans ((NV.setRow (g := vB.heap.size) (fun h => by omega) (vcells X.v)).setRow (g := wT.heap.size) (fun h => by omega) (kcells X.k x cx y cy)) fun _ _ h => h
          go_wp2
          go_meet
          have hX := hX.out
          subst hX
          exact ⟨vB.heap.size, wT.heap.size, x, cx, y, cy, rfl, rfl, bA1, bB2, ⟨by omega, by omega, by omega⟩, QF, S2, NF⟩
      · have hA : Below wF.heap.size wF (wF.alloc (.cells #[.int .i64 0, .int .i64 0, .int .u64 0, .bool false] 44)) := (Below.refl _ _).alloc (Nat.le_refl _) _
        have bA := Blk.new wF #[.int .i64 0, .int .i64 0, .int .u64 0, .bool false] 44
        have mA : wF.heap.size < (wF.alloc (.cells #[.int .i64 0, .int .i64 0, .int .u64 0, .bool false] 44)).heap.size := by simp
        generalize wF.alloc (.cells #[.int .i64 0, .int .i64 0, .int .u64 0, .bool false] 44) = vA at *
        have row := row.kept (T := fun _ => False) (Fr.of_below hA) (fun _ _ h => h)
        have zL := LV.size
        have zD := LD.size
        have LV := Base.next LV hA
        have LD := Base.next LD hA
        have SV : Fr AA X6 vA := Fr.of_below LV
        refine held_two (i := 5) (j := 10) (by kernel_rfl) (op_call (i := 5) (f := 18) (args := #[.pointer (some gp), .pointer (some a), .slice pf fr.length cf, .int .u64 7]) rfl (by kernel_rfl) (by kernel_rfl) ((CT vA LV pf cf hnc row).mono ?_)) (op_value (i := 10) (v := .pointer (some ⟨vA.heap.size, 0, none⟩)) (w' := vA.alloc (.cells #[.slice none 0 0, .slice none 0 0, .int .u64 0, .int .u64 0, .bool false] 56)) rfl (by kernel_rfl) (by kernel_rfl) ⟨SV.alloc _, ?_⟩)
        · rintro e wT ⟨x, cx, y, cy, Yf, rfl, hrw, QV, FT⟩
          have zT' := FT.size
          have zL := LV.size
          have zD := LD.size
          have lA := bA.lt
          have zA : (fun k => X6.heap.size ≤ k ∧ k < vA.heap.size) (wF.heap.size) := ⟨by omega, lA⟩
          have bA := bA.kept FT (fun h => h (.inr ⟨by omega, lA⟩))
          have SV := QV.fr
          have NV : Fr (fun k => k < X6.heap.size) D wT := (Fr.of_below LD : Fr (fun k => k < X6.heap.size) D vA).trans FT (fun k hk h => Nat.lt_of_not_le fun h2 => h (.inr ⟨h2, by omega⟩))
          clear CT CF
          generalize hX : takeT d0 g fr 7 = X at *
          have hX := Lib.hid hX
          refine ⟨_, rfl, SV, ?_⟩
          refine held_take (i := 6) (v := .tuple #[.agg (vcells X.v), .agg (kcells X.k x cx y cy)]) rfl (by kernel_rfl) (by kernel_rfl) (by kernel_rfl) (fun _ _ _ h => h) (by kernel_rfl) SV (fun _ hu => by kernel_rfl) ?_
          refine held_take (i := 7) (v := .agg (vcells X.v)) rfl (by kernel_rfl) (by kernel_rfl) (by kernel_rfl) (fun _ _ _ h => h) (by kernel_rfl) SV (fun _ hu => by kernel_rfl) ?_
          refine held_take (i := 8) (v := .agg (kcells X.k x cx y cy)) rfl (by kernel_rfl) (by kernel_rfl) (by kernel_rfl) (fun _ _ _ h => h) (by kernel_rfl) SV (fun _ hu => by kernel_rfl) ?_
          refine held_one (i := 10) (v := .pointer (some ⟨wT.heap.size, 0, none⟩)) (w' := wT.alloc (.cells #[.slice none 0 0, .slice none 0 0, .int .u64 0, .int .u64 0, .bool false] 56)) rfl (by kernel_rfl) (by kernel_rfl) (by kernel_rfl) (SV.alloc _) ?_
          have hB : Below wT.heap.size wT (wT.alloc (.cells #[.slice none 0 0, .slice none 0 0, .int .u64 0, .int .u64 0, .bool false] 56)) := (Below.refl _ _).alloc (Nat.le_refl _) _
          have bB := Blk.new wT #[.slice none 0 0, .slice none 0 0, .int .u64 0, .int .u64 0, .bool false] 56
          have mB : wT.heap.size < (wT.alloc (.cells #[.slice none 0 0, .slice none 0 0, .int .u64 0, .int .u64 0, .bool false] 56)).heap.size := by simp
          generalize wT.alloc (.cells #[.slice none 0 0, .slice none 0 0, .int .u64 0, .int .u64 0, .bool false] 56) = vB at *
          have bA := bA.below hB bA.lt
          have zS' := SV.size
          have zD := NV.size
          obtain ⟨FB, ZB, QV, zzB, zB⟩ := QV.grow hB (by omega)
          have zA := zzB _ zA
          have NV := NV.trans (T := fun _ => False) (Fr.of_below hB) fun _ _ h => h.elim
          have SV := QV.fr
          have S1 := SV.setRow (g := wF.heap.size) (fun h => by omega) (vcells X.v)
          refine held_st (i := 11) rfl (by kernel_rfl) (by kernel_rfl) (st_row 44 (.tmp 15) (.tmp 70) rfl (g := wF.heap.size) (cells := vcells X.v) (by kernel_rfl) (by kernel_rfl) bA (by kernel_rfl) rfl (by simp [vcells, Value.oneCell'])) S1 ?_
          have bB1 := bB.otherRow (g := wF.heap.size) (by omega) (vcells X.v)
          have S2 := S1.setRow (g := wT.heap.size) (fun h => by omega) (kcells X.k x cx y cy)
          refine held_st (i := 12) rfl (by kernel_rfl) (by kernel_rfl) (st_row 56 (.tmp 16) (.tmp 71) rfl (g := wT.heap.size) (cells := kcells X.k x cx y cy) (by kernel_rfl) (by kernel_rfl) bB1 (by kernel_rfl) rfl (by simp [kcells, Value.oneCell'])) S2 ?_
          refine held_done (by kernel_rfl) ?_
          have bA1 := (bA.setRow (vcells X.v)).otherRow (g := wT.heap.size) (by omega) (kcells X.k x cx y cy)
          have bB2 := bB1.setRow (kcells X.k x cx y cy)
          have QF := ((QV.set (b := wF.heap.size) zA (by omega) (vcells X.v)).set (b := wT.heap.size) zB (by omega) (kcells X.k x cx y cy)).pick zA zB
          have NF := hDD.trans ((NV.setRow (g := wF.heap.size) (fun h => by omega) (vcells X.v)).setRow (g := wT.heap.size) (fun h => by omega) (kcells X.k x cx y cy)) fun _ _ h => h
          go_wp2
          go_meet
          have hX := hX.out
          subst hX
          exact ⟨wF.heap.size, wT.heap.size, x, cx, y, cy, rfl, rfl, bA1, bB2, ⟨by omega, by omega, by omega⟩, QF, S2, NF⟩
        · have hB : Below vA.heap.size vA (vA.alloc (.cells #[.slice none 0 0, .slice none 0 0, .int .u64 0, .int .u64 0, .bool false] 56)) := (Below.refl _ _).alloc (Nat.le_refl _) _
          have bB := Blk.new vA #[.slice none 0 0, .slice none 0 0, .int .u64 0, .int .u64 0, .bool false] 56
          have mB : vA.heap.size < (vA.alloc (.cells #[.slice none 0 0, .slice none 0 0, .int .u64 0, .int .u64 0, .bool false] 56)).heap.size := by simp
          generalize vA.alloc (.cells #[.slice none 0 0, .slice none 0 0, .int .u64 0, .int .u64 0, .bool false] 56) = vB at *
          have bA := bA.below hB bA.lt
          have row := row.kept (T := fun _ => False) (Fr.of_below hB) (fun _ _ h => h)
          have zL := LV.size
          have zD := LD.size
          have LV := Base.next LV hB
          have LD := Base.next LD hB
          have SV : Fr AA X6 vB := Fr.of_below LV
          refine held_call (i := 5) (f := 18) (args := #[.pointer (some gp), .pointer (some a), .slice pf fr.length cf, .int .u64 7]) rfl (by kernel_rfl) (by kernel_rfl) (by kernel_rfl) ((CT vB LV pf cf hnc row).mono ?_)
          rintro e wT ⟨x, cx, y, cy, Yf, rfl, hrw, QV, FT⟩
          have zT' := FT.size
          have zL := LV.size
          have zD := LD.size
          have lA := bA.lt
          have zA : (fun k => X6.heap.size ≤ k ∧ k < vB.heap.size) (wF.heap.size) := ⟨by omega, lA⟩
          have bA := bA.kept FT (fun h => h (.inr ⟨by omega, lA⟩))
          have lB := bB.lt
          have zB : (fun k => X6.heap.size ≤ k ∧ k < vB.heap.size) (vA.heap.size) := ⟨by omega, lB⟩
          have bB := bB.kept FT (fun h => h (.inr ⟨by omega, lB⟩))
          have SV := QV.fr
          have NV : Fr (fun k => k < X6.heap.size) D wT := (Fr.of_below LD : Fr (fun k => k < X6.heap.size) D vB).trans FT (fun k hk h => Nat.lt_of_not_le fun h2 => h (.inr ⟨h2, by omega⟩))
          clear CT CF
          generalize hX : takeT d0 g fr 7 = X at *
          have hX := Lib.hid hX
          refine ⟨_, rfl, SV, ?_⟩
          refine held_take (i := 6) (v := .tuple #[.agg (vcells X.v), .agg (kcells X.k x cx y cy)]) rfl (by kernel_rfl) (by kernel_rfl) (by kernel_rfl) (fun _ _ _ h => h) (by kernel_rfl) SV (fun _ hu => by kernel_rfl) ?_
          refine held_take (i := 7) (v := .agg (vcells X.v)) rfl (by kernel_rfl) (by kernel_rfl) (by kernel_rfl) (fun _ _ _ h => h) (by kernel_rfl) SV (fun _ hu => by kernel_rfl) ?_
          refine held_take (i := 8) (v := .agg (kcells X.k x cx y cy)) rfl (by kernel_rfl) (by kernel_rfl) (by kernel_rfl) (fun _ _ _ h => h) (by kernel_rfl) SV (fun _ hu => by kernel_rfl) ?_
          have S1 := SV.setRow (g := wF.heap.size) (fun h => by omega) (vcells X.v)
          refine held_st (i := 11) rfl (by kernel_rfl) (by kernel_rfl) (st_row 44 (.tmp 15) (.tmp 70) rfl (g := wF.heap.size) (cells := vcells X.v) (by kernel_rfl) (by kernel_rfl) bA (by kernel_rfl) rfl (by simp [vcells, Value.oneCell'])) S1 ?_
          have bB1 := bB.otherRow (g := wF.heap.size) (by omega) (vcells X.v)
          have S2 := S1.setRow (g := vA.heap.size) (fun h => by omega) (kcells X.k x cx y cy)
          refine held_st (i := 12) rfl (by kernel_rfl) (by kernel_rfl) (st_row 56 (.tmp 16) (.tmp 71) rfl (g := vA.heap.size) (cells := kcells X.k x cx y cy) (by kernel_rfl) (by kernel_rfl) bB1 (by kernel_rfl) rfl (by simp [kcells, Value.oneCell'])) S2 ?_
          refine held_done (by kernel_rfl) ?_
          have bA1 := (bA.setRow (vcells X.v)).otherRow (g := vA.heap.size) (by omega) (kcells X.k x cx y cy)
          have bB2 := bB1.setRow (kcells X.k x cx y cy)
          have QF := ((QV.set (b := wF.heap.size) zA (by omega) (vcells X.v)).set (b := vA.heap.size) zB (by omega) (kcells X.k x cx y cy)).pick zA zB
          have NF := hDD.trans ((NV.setRow (g := wF.heap.size) (fun h => by omega) (vcells X.v)).setRow (g := vA.heap.size) (fun h => by omega) (kcells X.k x cx y cy)) fun _ _ h => h
          go_wp2
          go_meet
          have hX := hX.out
          subst hX
          exact ⟨wF.heap.size, vA.heap.size, x, cx, y, cy, rfl, rfl, bA1, bB2, ⟨by omega, by omega, by omega⟩, QF, S2, NF⟩
      · have hB : Below wF.heap.size wF (wF.alloc (.cells #[.slice none 0 0, .slice none 0 0, .int .u64 0, .int .u64 0, .bool false] 56)) := (Below.refl _ _).alloc (Nat.le_refl _) _
        have bB := Blk.new wF #[.slice none 0 0, .slice none 0 0, .int .u64 0, .int .u64 0, .bool false] 56
        have mB : wF.heap.size < (wF.alloc (.cells #[.slice none 0 0, .slice none 0 0, .int .u64 0, .int .u64 0, .bool false] 56)).heap.size := by simp
        generalize wF.alloc (.cells #[.slice none 0 0, .slice none 0 0, .int .u64 0, .int .u64 0, .bool false] 56) = vB at *
        have row := row.kept (T := fun _ => False) (Fr.of_below hB) (fun _ _ h => h)
        have zL := LV.size
        have zD := LD.size
        have LV := Base.next LV hB
        have LD := Base.next LD hB
        have SV : Fr AA X6 vB := Fr.of_below LV
        refine held_two (i := 5) (j := 9) (by kernel_rfl) (op_call (i := 5) (f := 18) (args := #[.pointer (some gp), .pointer (some a), .slice pf fr.length cf, .int .u64 7]) rfl (by kernel_rfl) (by kernel_rfl) ((CT vB LV pf cf hnc row).mono ?_)) (op_value (i := 9) (v := .pointer (some ⟨vB.heap.size, 0, none⟩)) (w' := vB.alloc (.cells #[.int .i64 0, .int .i64 0, .int .u64 0, .bool false] 44)) rfl (by kernel_rfl) (by kernel_rfl) ⟨SV.alloc _, ?_⟩)
        · rintro e wT ⟨x, cx, y, cy, Yf, rfl, hrw, QV, FT⟩
          have zT' := FT.size
          have zL := LV.size
          have zD := LD.size
          have lB := bB.lt
          have zB : (fun k => X6.heap.size ≤ k ∧ k < vB.heap.size) (wF.heap.size) := ⟨by omega, lB⟩
          have bB := bB.kept FT (fun h => h (.inr ⟨by omega, lB⟩))
          have SV := QV.fr
          have NV : Fr (fun k => k < X6.heap.size) D wT := (Fr.of_below LD : Fr (fun k => k < X6.heap.size) D vB).trans FT (fun k hk h => Nat.lt_of_not_le fun h2 => h (.inr ⟨h2, by omega⟩))
          clear CT CF
          generalize hX : takeT d0 g fr 7 = X at *
          have hX := Lib.hid hX
          refine ⟨_, rfl, SV, ?_⟩
          refine held_take (i := 6) (v := .tuple #[.agg (vcells X.v), .agg (kcells X.k x cx y cy)]) rfl (by kernel_rfl) (by kernel_rfl) (by kernel_rfl) (fun _ _ _ h => h) (by kernel_rfl) SV (fun _ hu => by kernel_rfl) ?_
          refine held_take (i := 7) (v := .agg (vcells X.v)) rfl (by kernel_rfl) (by kernel_rfl) (by kernel_rfl) (fun _ _ _ h => h) (by kernel_rfl) SV (fun _ hu => by kernel_rfl) ?_
          refine held_take (i := 8) (v := .agg (kcells X.k x cx y cy)) rfl (by kernel_rfl) (by kernel_rfl) (by kernel_rfl) (fun _ _ _ h => h) (by kernel_rfl) SV (fun _ hu => by kernel_rfl) ?_
          refine held_one (i := 9) (v := .pointer (some ⟨wT.heap.size, 0, none⟩)) (w' := wT.alloc (.cells #[.int .i64 0, .int .i64 0, .int .u64 0, .bool false] 44)) rfl (by kernel_rfl) (by kernel_rfl) (by kernel_rfl) (SV.alloc _) ?_
          have hA : Below wT.heap.size wT (wT.alloc (.cells #[.int .i64 0, .int .i64 0, .int .u64 0, .bool false] 44)) := (Below.refl _ _).alloc (Nat.le_refl _) _
          have bA := Blk.new wT #[.int .i64 0, .int .i64 0, .int .u64 0, .bool false] 44
          have mA : wT.heap.size < (wT.alloc (.cells #[.int .i64 0, .int .i64 0, .int .u64 0, .bool false] 44)).heap.size := by simp
          generalize wT.alloc (.cells #[.int .i64 0, .int .i64 0, .int .u64 0, .bool false] 44) = vA at *
          have bB := bB.below hA bB.lt
          have zS' := SV.size
          have zD := NV.size
          obtain ⟨FA, ZA, QV, zzA, zA⟩ := QV.grow hA (by omega)
          have zB := zzA _ zB
          have NV := NV.trans (T := fun _ => False) (Fr.of_below hA) fun _ _ h => h.elim
          have SV := QV.fr
          have S1 := SV.setRow (g := wT.heap.size) (fun h => by omega) (vcells X.v)
          refine held_st (i := 11) rfl (by kernel_rfl) (by kernel_rfl) (st_row 44 (.tmp 15) (.tmp 70) rfl (g := wT.heap.size) (cells := vcells X.v) (by kernel_rfl) (by kernel_rfl) bA (by kernel_rfl) rfl (by simp [vcells, Value.oneCell'])) S1 ?_
          have bB1 := bB.otherRow (g := wT.heap.size) (by omega) (vcells X.v)
          have S2 := S1.setRow (g := wF.heap.size) (fun h => by omega) (kcells X.k x cx y cy)
          refine held_st (i := 12) rfl (by kernel_rfl) (by kernel_rfl) (st_row 56 (.tmp 16) (.tmp 71) rfl (g := wF.heap.size) (cells := kcells X.k x cx y cy) (by kernel_rfl) (by kernel_rfl) bB1 (by kernel_rfl) rfl (by simp [kcells, Value.oneCell'])) S2 ?_
          refine held_done (by kernel_rfl) ?_
          have bA1 := (bA.setRow (vcells X.v)).otherRow (g := wF.heap.size) (by omega) (kcells X.k x cx y cy)
          have bB2 := bB1.setRow (kcells X.k x cx y cy)
          have QF := ((QV.set (b := wT.heap.size) zA (by omega) (vcells X.v)).set (b := wF.heap.size) zB (by omega) (kcells X.k x cx y cy)).pick zA zB
          have NF := hDD.trans ((NV.setRow (g := wT.heap.size) (fun h => by omega) (vcells X.v)).setRow (g := wF.heap.size) (fun h => by omega) (kcells X.k x cx y cy)) fun _ _ h => h
          go_wp2
          go_meet
          have hX := hX.out
          subst hX
          exact ⟨wT.heap.size, wF.heap.size, x, cx, y, cy, rfl, rfl, bA1, bB2, ⟨by omega, by omega, by omega⟩, QF, S2, NF⟩
        · have hA : Below vB.heap.size vB (vB.alloc (.cells #[.int .i64 0, .int .i64 0, .int .u64 0, .bool false] 44)) := (Below.refl _ _).alloc (Nat.le_refl _) _
          have bA := Blk.new vB #[.int .i64 0, .int .i64 0, .int .u64 0, .bool false] 44
          have mA : vB.heap.size < (vB.alloc (.cells #[.int .i64 0, .int .i64 0, .int .u64 0, .bool false] 44)).heap.size := by simp
          generalize vB.alloc (.cells #[.int .i64 0, .int .i64 0, .int .u64 0, .bool false] 44) = vA at *
          have bB := bB.below hA bB.lt
          have row := row.kept (T := fun _ => False) (Fr.of_below hA) (fun _ _ h => h)
          have zL := LV.size
          have zD := LD.size
          have LV := Base.next LV hA
          have LD := Base.next LD hA
          have SV : Fr AA X6 vA := Fr.of_below LV
          refine held_call (i := 5) (f := 18) (args := #[.pointer (some gp), .pointer (some a), .slice pf fr.length cf, .int .u64 7]) rfl (by kernel_rfl) (by kernel_rfl) (by kernel_rfl) ((CT vA LV pf cf hnc row).mono ?_)
          rintro e wT ⟨x, cx, y, cy, Yf, rfl, hrw, QV, FT⟩
          have zT' := FT.size
          have zL := LV.size
          have zD := LD.size
          have lA := bA.lt
          have zA : (fun k => X6.heap.size ≤ k ∧ k < vA.heap.size) (vB.heap.size) := ⟨by omega, lA⟩
          have bA := bA.kept FT (fun h => h (.inr ⟨by omega, lA⟩))
          have lB := bB.lt
          have zB : (fun k => X6.heap.size ≤ k ∧ k < vA.heap.size) (wF.heap.size) := ⟨by omega, lB⟩
          have bB := bB.kept FT (fun h => h (.inr ⟨by omega, lB⟩))
          have SV := QV.fr
          have NV : Fr (fun k => k < X6.heap.size) D wT := (Fr.of_below LD : Fr (fun k => k < X6.heap.size) D vA).trans FT (fun k hk h => Nat.lt_of_not_le fun h2 => h (.inr ⟨h2, by omega⟩))
          clear CT CF
          generalize hX : takeT d0 g fr 7 = X at *
          have hX := Lib.hid hX
          refine ⟨_, rfl, SV, ?_⟩
          refine held_take (i := 6) (v := .tuple #[.agg (vcells X.v), .agg (kcells X.k x cx y cy)]) rfl (by kernel_rfl) (by kernel_rfl) (by kernel_rfl) (fun _ _ _ h => h) (by kernel_rfl) SV (fun _ hu => by kernel_rfl) ?_
          refine held_take (i := 7) (v := .agg (vcells X.v)) rfl (by kernel_rfl) (by kernel_rfl) (by kernel_rfl) (fun _ _ _ h => h) (by kernel_rfl) SV (fun _ hu => by kernel_rfl) ?_
          refine held_take (i := 8) (v := .agg (kcells X.k x cx y cy)) rfl (by kernel_rfl) (by kernel_rfl) (by kernel_rfl) (fun _ _ _ h => h) (by kernel_rfl) SV (fun _ hu => by kernel_rfl) ?_
          have S1 := SV.setRow (g := vB.heap.size) (fun h => by omega) (vcells X.v)
          refine held_st (i := 11) rfl (by kernel_rfl) (by kernel_rfl) (st_row 44 (.tmp 15) (.tmp 70) rfl (g := vB.heap.size) (cells := vcells X.v) (by kernel_rfl) (by kernel_rfl) bA (by kernel_rfl) rfl (by simp [vcells, Value.oneCell'])) S1 ?_
          have bB1 := bB.otherRow (g := vB.heap.size) (by omega) (vcells X.v)
          have S2 := S1.setRow (g := wF.heap.size) (fun h => by omega) (kcells X.k x cx y cy)
          refine held_st (i := 12) rfl (by kernel_rfl) (by kernel_rfl) (st_row 56 (.tmp 16) (.tmp 71) rfl (g := wF.heap.size) (cells := kcells X.k x cx y cy) (by kernel_rfl) (by kernel_rfl) bB1 (by kernel_rfl) rfl (by simp [kcells, Value.oneCell'])) S2 ?_
          refine held_done (by kernel_rfl) ?_
          have bA1 := (bA.setRow (vcells X.v)).otherRow (g := wF.heap.size) (by omega) (kcells X.k x cx y cy)
          have bB2 := bB1.setRow (kcells X.k x cx y cy)
          have QF := ((QV.set (b := vB.heap.size) zA (by omega) (vcells X.v)).set (b := wF.heap.size) zB (by omega) (kcells X.k x cx y cy)).pick zA zB
          have NF := hDD.trans ((NV.setRow (g := vB.heap.size) (fun h => by omega) (vcells X.v)).setRow (g := wF.heap.size) (fun h => by omega) (kcells X.k x cx y cy)) fun _ _ h => h
          go_wp2
          go_meet
          have hX := hX.out
          subst hX
          exact ⟨vB.heap.size, wF.heap.size, x, cx, y, cy, rfl, rfl, bA1, bB2, ⟨by omega, by omega, by omega⟩, QF, S2, NF⟩
    · have hA : Below D.heap.size D (D.alloc (.cells #[.int .i64 0, .int .i64 0, .int .u64 0, .bool false] 44)) := (Below.refl _ _).alloc (Nat.le_refl _) _
      have bA := Blk.new D #[.int .i64 0, .int .i64 0, .int .u64 0, .bool false] 44
      have mA : D.heap.size < (D.alloc (.cells #[.int .i64 0, .int .i64 0, .int .u64 0, .bool false] 44)).heap.size := by simp
      generalize D.alloc (.cells #[.int .i64 0, .int .i64 0, .int .u64 0, .bool false] 44) = vA at *
      have zL := LV.size
      have zD := LD.size
      have LV := Base.next LV hA
      have LD := Base.next LD hA
      have SV : Fr AA X6 vA := Fr.of_below LV
      refine held_two (i := 4) (j := 10) (by kernel_rfl) (op_call (i := 4) (f := 22) (args := #[.agg #[.slice p sp.length c, .slice none 0 0, .int .u64 tr, .int .u64 a3, .bool false]]) rfl (by kernel_rfl) (by kernel_rfl) ((CF vA LV).mono ?_)) (op_value (i := 10) (v := .pointer (some ⟨vA.heap.size, 0, none⟩)) (w' := vA.alloc (.cells #[.slice none 0 0, .slice none 0 0, .int .u64 0, .int .u64 0, .bool false] 56)) rfl (by kernel_rfl) (by kernel_rfl) ⟨SV.alloc _, ?_⟩)
      · rintro e wF ⟨pf, cf, rfl, hnc, hcm, hpn, hrow, LF⟩
        have zF := LF.size
        have zL := LV.size
        have zD := LD.size
        have bA := bA.below LF bA.lt
        have row := hrow.mono (T := fun k => k < w.heap.size ∨ X6.heap.size ≤ k) fun k _ h => .inr (by omega)
        have LV := Base.next LV LF
        have LD := Base.next LD LF
        have SV : Fr AA X6 wF := Fr.of_below LV
        refine ⟨_, rfl, SV, ?_⟩
        refine held_two (i := 5) (j := 10) (by kernel_rfl) (op_call (i := 5) (f := 18) (args := #[.pointer (some gp), .pointer (some a), .slice pf fr.length cf, .int .u64 7]) rfl (by kernel_rfl) (by kernel_rfl) ((CT wF LV pf cf hnc row).mono ?_)) (op_value (i := 10) (v := .pointer (some ⟨wF.heap.size, 0, none⟩)) (w' := wF.alloc (.cells #[.slice none 0 0, .slice none 0 0, .int .u64 0, .int .u64 0, .bool false] 56)) rfl (by kernel_rfl) (by kernel_rfl) ⟨SV.alloc _, ?_⟩)
        · rintro e wT ⟨x, cx, y, cy, Yf, rfl, hrw, QV, FT⟩
          have zT' := FT.size
          have zL := LV.size
          have zD := LD.size
          have lA := bA.lt
          have zA : (fun k => X6.heap.size ≤ k ∧ k < wF.heap.size) (D.heap.size) := ⟨by omega, lA⟩
          have bA := bA.kept FT (fun h => h (.inr ⟨by omega, lA⟩))
          have SV := QV.fr
          have NV : Fr (fun k => k < X6.heap.size) D wT := (Fr.of_below LD : Fr (fun k => k < X6.heap.size) D wF).trans FT (fun k hk h => Nat.lt_of_not_le fun h2 => h (.inr ⟨h2, by omega⟩))
          clear CT CF
          generalize hX : takeT d0 g fr 7 = X at *
          have hX := Lib.hid hX
          refine ⟨_, rfl, SV, ?_⟩
          refine held_take (i := 6) (v := .tuple #[.agg (vcells X.v), .agg (kcells X.k x cx y cy)]) rfl (by kernel_rfl) (by kernel_rfl) (by kernel_rfl) (fun _ _ _ h => h) (by kernel_rfl) SV (fun _ hu => by kernel_rfl) ?_
          refine held_take (i := 7) (v := .agg (vcells X.v)) rfl (by kernel_rfl) (by kernel_rfl) (by kernel_rfl) (fun _ _ _ h => h) (by kernel_rfl) SV (fun _ hu => by kernel_rfl) ?_
          refine held_take (i := 8) (v := .agg (kcells X.k x cx y cy)) rfl (by kernel_rfl) (by kernel_rfl) (by kernel_rfl) (fun _ _ _ h => h) (by kernel_rfl) SV (fun _ hu => by kernel_rfl) ?_
          refine held_one (i := 10) (v := .pointer (some ⟨wT.heap.size, 0, none⟩)) (w' := wT.alloc (.cells #[.slice none 0 0, .slice none 0 0, .int .u64 0, .int .u64 0, .bool false] 56)) rfl (by kernel_rfl) (by kernel_rfl) (by kernel_rfl) (SV.alloc _) ?_
          have hB : Below wT.heap.size wT (wT.alloc (.cells #[.slice none 0 0, .slice none 0 0, .int .u64 0, .int .u64 0, .bool false] 56)) := (Below.refl _ _).alloc (Nat.le_refl _) _
          have bB := Blk.new wT #[.slice none 0 0, .slice none 0 0, .int .u64 0, .int .u64 0, .bool false] 56
          have mB : wT.heap.size < (wT.alloc (.cells #[.slice none 0 0, .slice none 0 0, .int .u64 0, .int .u64 0, .bool false] 56)).heap.size := by simp
          generalize wT.alloc (.cells #[.slice none 0 0, .slice none 0 0, .int .u64 0, .int .u64 0, .bool false] 56) = vB at *
          have bA := bA.below hB bA.lt
          have zS' := SV.size
          have zD := NV.size
          obtain ⟨FB, ZB, QV, zzB, zB⟩ := QV.grow hB (by omega)
          have zA := zzB _ zA
          have NV := NV.trans (T := fun _ => False) (Fr.of_below hB) fun _ _ h => h.elim
          have SV := QV.fr
          have S1 := SV.setRow (g := D.heap.size) (fun h => by omega) (vcells X.v)
          refine held_st (i := 11) rfl (by kernel_rfl) (by kernel_rfl) (st_row 44 (.tmp 15) (.tmp 70) rfl (g := D.heap.size) (cells := vcells X.v) (by kernel_rfl) (by kernel_rfl) bA (by kernel_rfl) rfl (by simp [vcells, Value.oneCell'])) S1 ?_
          have bB1 := bB.otherRow (g := D.heap.size) (by omega) (vcells X.v)
          have S2 := S1.setRow (g := wT.heap.size) (fun h => by omega) (kcells X.k x cx y cy)
          refine held_st (i := 12) rfl (by kernel_rfl) (by kernel_rfl) (st_row 56 (.tmp 16) (.tmp 71) rfl (g := wT.heap.size) (cells := kcells X.k x cx y cy) (by kernel_rfl) (by kernel_rfl) bB1 (by kernel_rfl) rfl (by simp [kcells, Value.oneCell'])) S2 ?_
          refine held_done (by kernel_rfl) ?_
          have bA1 := (bA.setRow (vcells X.v)).otherRow (g := wT.heap.size) (by omega) (kcells X.k x cx y cy)
          have bB2 := bB1.setRow (kcells X.k x cx y cy)
          have QF := ((QV.set (b := D.heap.size) zA (by omega) (vcells X.v)).set (b := wT.heap.size) zB (by omega) (kcells X.k x cx y cy)).pick zA zB
          have NF := hDD.trans ((NV.setRow (g := D.heap.size) (fun h => by omega) (vcells X.v)).setRow (g := wT.heap.size) (fun h => by omega) (kcells X.k x cx y cy)) fun _ _ h => h
          go_wp2
          go_meet
          have hX := hX.out
          subst hX
          exact ⟨D.heap.size, wT.heap.size, x, cx, y, cy, rfl, rfl, bA1, bB2, ⟨by omega, by omega, by omega⟩, QF, S2, NF⟩
        · have hB : Below wF.heap.size wF (wF.alloc (.cells #[.slice none 0 0, .slice none 0 0, .int .u64 0, .int .u64 0, .bool false] 56)) := (Below.refl _ _).alloc (Nat.le_refl _) _
          have bB := Blk.new wF #[.slice none 0 0, .slice none 0 0, .int .u64 0, .int .u64 0, .bool false] 56
          have mB : wF.heap.size < (wF.alloc (.cells #[.slice none 0 0, .slice none 0 0, .int .u64 0, .int .u64 0, .bool false] 56)).heap.size := by simp
          generalize wF.alloc (.cells #[.slice none 0 0, .slice none 0 0, .int .u64 0, .int .u64 0, .bool false] 56) = vB at *
          have bA := bA.below hB bA.lt
          have row := row.kept (T := fun _ => False) (Fr.of_below hB) (fun _ _ h => h)
          have zL := LV.size
          have zD := LD.size
          have LV := Base.next LV hB
          have LD := Base.next LD hB
          have SV : Fr AA X6 vB := Fr.of_below LV
          refine held_call (i := 5) (f := 18) (args := #[.pointer (some gp), .pointer (some a), .slice pf fr.length cf, .int .u64 7]) rfl (by kernel_rfl) (by kernel_rfl) (by kernel_rfl) ((CT vB LV pf cf hnc row).mono ?_)
          rintro e wT ⟨x, cx, y, cy, Yf, rfl, hrw, QV, FT⟩
          have zT' := FT.size
          have zL := LV.size
          have zD := LD.size
          have lA := bA.lt
          have zA : (fun k => X6.heap.size ≤ k ∧ k < vB.heap.size) (D.heap.size) := ⟨by omega, lA⟩
          have bA := bA.kept FT (fun h => h (.inr ⟨by omega, lA⟩))
          have lB := bB.lt
          have zB : (fun k => X6.heap.size ≤ k ∧ k < vB.heap.size) (wF.heap.size) := ⟨by omega, lB⟩
          have bB := bB.kept FT (fun h => h (.inr ⟨by omega, lB⟩))
          have SV := QV.fr
          have NV : Fr (fun k => k < X6.heap.size) D wT := (Fr.of_below LD : Fr (fun k => k < X6.heap.size) D vB).trans FT (fun k hk h => Nat.lt_of_not_le fun h2 => h (.inr ⟨h2, by omega⟩))
          clear CT CF
          generalize hX : takeT d0 g fr 7 = X at *
          have hX := Lib.hid hX
          refine ⟨_, rfl, SV, ?_⟩
          refine held_take (i := 6) (v := .tuple #[.agg (vcells X.v), .agg (kcells X.k x cx y cy)]) rfl (by kernel_rfl) (by kernel_rfl) (by kernel_rfl) (fun _ _ _ h => h) (by kernel_rfl) SV (fun _ hu => by kernel_rfl) ?_
          refine held_take (i := 7) (v := .agg (vcells X.v)) rfl (by kernel_rfl) (by kernel_rfl) (by kernel_rfl) (fun _ _ _ h => h) (by kernel_rfl) SV (fun _ hu => by kernel_rfl) ?_
          refine held_take (i := 8) (v := .agg (kcells X.k x cx y cy)) rfl (by kernel_rfl) (by kernel_rfl) (by kernel_rfl) (fun _ _ _ h => h) (by kernel_rfl) SV (fun _ hu => by kernel_rfl) ?_
          have S1 := SV.setRow (g := D.heap.size) (fun h => by omega) (vcells X.v)
          refine held_st (i := 11) rfl (by kernel_rfl) (by kernel_rfl) (st_row 44 (.tmp 15) (.tmp 70) rfl (g := D.heap.size) (cells := vcells X.v) (by kernel_rfl) (by kernel_rfl) bA (by kernel_rfl) rfl (by simp [vcells, Value.oneCell'])) S1 ?_
          have bB1 := bB.otherRow (g := D.heap.size) (by omega) (vcells X.v)
          have S2 := S1.setRow (g := wF.heap.size) (fun h => by omega) (kcells X.k x cx y cy)
          refine held_st (i := 12) rfl (by kernel_rfl) (by kernel_rfl) (st_row 56 (.tmp 16) (.tmp 71) rfl (g := wF.heap.size) (cells := kcells X.k x cx y cy) (by kernel_rfl) (by kernel_rfl) bB1 (by kernel_rfl) rfl (by simp [kcells, Value.oneCell'])) S2 ?_
          refine held_done (by kernel_rfl) ?_
          have bA1 := (bA.setRow (vcells X.v)).otherRow (g := wF.heap.size) (by omega) (kcells X.k x cx y cy)
          have bB2 := bB1.setRow (kcells X.k x cx y cy)
          have QF := ((QV.set (b := D.heap.size) zA (by omega) (vcells X.v)).set (b := wF.heap.size) zB (by omega) (kcells X.k x cx y cy)).pick zA zB
          have NF := hDD.trans ((NV.setRow (g := D.heap.size) (fun h => by omega) (vcells X.v)).setRow (g := wF.heap.size) (fun h => by omega) (kcells X.k x cx y cy)) fun _ _ h => h
          go_wp2
          go_meet
          have hX := hX.out
          subst hX
          exact ⟨D.heap.size, wF.heap.size, x, cx, y, cy, rfl, rfl, bA1, bB2, ⟨by omega, by omega, by omega⟩, QF, S2, NF⟩
      · have hB : Below vA.heap.size vA (vA.alloc (.cells #[.slice none 0 0, .slice none 0 0, .int .u64 0, .int .u64 0, .bool false] 56)) := (Below.refl _ _).alloc (Nat.le_refl _) _
        have bB := Blk.new vA #[.slice none 0 0, .slice none 0 0, .int .u64 0, .int .u64 0, .bool false] 56
        have mB : vA.heap.size < (vA.alloc (.cells #[.slice none 0 0, .slice none 0 0, .int .u64 0, .int .u64 0, .bool false] 56)).heap.size := by simp
        generalize vA.alloc (.cells #[.slice none 0 0, .slice none 0 0, .int .u64 0, .int .u64 0, .bool false] 56) = vB at *
        have bA := bA.below hB bA.lt
        have zL := LV.size
        have zD := LD.size
        have LV := Base.next LV hB
        have LD := Base.next LD hB
        have SV : Fr AA X6 vB := Fr.of_below LV
        refine held_call (i := 4) (f := 22) (args := #[.agg #[.slice p sp.length c, .slice none 0 0, .int .u64 tr, .int .u64 a3, .bool false]]) rfl (by kernel_rfl) (by kernel_rfl) (by kernel_rfl) ((CF vB LV).mono ?_)
        rintro e wF ⟨pf, cf, rfl, hnc, hcm, hpn, hrow, LF⟩
        have zF := LF.size
        have zL := LV.size
        have zD := LD.size
        have bA := bA.below LF bA.lt
        have bB := bB.below LF bB.lt
        have row := hrow.mono (T := fun k => k < w.heap.size ∨ X6.heap.size ≤ k) fun k _ h => .inr (by omega)
        have LV := Base.next LV LF
        have LD := Base.next LD LF
        have SV : Fr AA X6 wF := Fr.of_below LV
        refine ⟨_, rfl, SV, ?_⟩
        refine held_call (i := 5) (f := 18) (args := #[.pointer (some gp), .pointer (some a), .slice pf fr.length cf, .int .u64 7]) rfl (by kernel_rfl) (by kernel_rfl) (by kernel_rfl) ((CT wF LV pf cf hnc row).mono ?_)
        rintro e wT ⟨x, cx, y, cy, Yf, rfl, hrw, QV, FT⟩
        have zT' := FT.size
        have zL := LV.size
        have zD := LD.size
        have lA := bA.lt
        have zA : (fun k => X6.heap.size ≤ k ∧ k < wF.heap.size) (D.heap.size) := ⟨by omega, lA⟩
        have bA := bA.kept FT (fun h => h (.inr ⟨by omega, lA⟩))
        have lB := bB.lt
        have zB : (fun k => X6.heap.size ≤ k ∧ k < wF.heap.size) (vA.heap.size) := ⟨by omega, lB⟩
        have bB := bB.kept FT (fun h => h (.inr ⟨by omega, lB⟩))
        have SV := QV.fr
        have NV : Fr (fun k => k < X6.heap.size) D wT := (Fr.of_below LD : Fr (fun k => k < X6.heap.size) D wF).trans FT (fun k hk h => Nat.lt_of_not_le fun h2 => h (.inr ⟨h2, by omega⟩))
        clear CT CF
        generalize hX : takeT d0 g fr 7 = X at *
        have hX := Lib.hid hX
        refine ⟨_, rfl, SV, ?_⟩
        refine held_take (i := 6) (v := .tuple #[.agg (vcells X.v), .agg (kcells X.k x cx y cy)]) rfl (by kernel_rfl) (by kernel_rfl) (by kernel_rfl) (fun _ _ _ h => h) (by kernel_rfl) SV (fun _ hu => by kernel_rfl) ?_
        refine held_take (i := 7) (v := .agg (vcells X.v)) rfl (by kernel_rfl) (by kernel_rfl) (by kernel_rfl) (fun _ _ _ h => h) (by kernel_rfl) SV (fun _ hu => by kernel_rfl) ?_
        refine held_take (i := 8) (v := .agg (kcells X.k x cx y cy)) rfl (by kernel_rfl) (by kernel_rfl) (by kernel_rfl) (fun _ _ _ h => h) (by kernel_rfl) SV (fun _ hu => by kernel_rfl) ?_
        have S1 := SV.setRow (g := D.heap.size) (fun h => by omega) (vcells X.v)
        refine held_st (i := 11) rfl (by kernel_rfl) (by kernel_rfl) (st_row 44 (.tmp 15) (.tmp 70) rfl (g := D.heap.size) (cells := vcells X.v) (by kernel_rfl) (by kernel_rfl) bA (by kernel_rfl) rfl (by simp [vcells, Value.oneCell'])) S1 ?_
        have bB1 := bB.otherRow (g := D.heap.size) (by omega) (vcells X.v)
        have S2 := S1.setRow (g := vA.heap.size) (fun h => by omega) (kcells X.k x cx y cy)
        refine held_st (i := 12) rfl (by kernel_rfl) (by kernel_rfl) (st_row 56 (.tmp 16) (.tmp 71) rfl (g := vA.heap.size) (cells := kcells X.k x cx y cy) (by kernel_rfl) (by kernel_rfl) bB1 (by kernel_rfl) rfl (by simp [kcells, Value.oneCell'])) S2 ?_
        refine held_done (by kernel_rfl) ?_
        have bA1 := (bA.setRow (vcells X.v)).otherRow (g := vA.heap.size) (by omega) (kcells X.k x cx y cy)
        have bB2 := bB1.setRow (kcells X.k x cx y cy)
        have QF := ((QV.set (b := D.heap.size) zA (by omega) (vcells X.v)).set (b := vA.heap.size) zB (by omega) (kcells X.k x cx y cy)).pick zA zB
        have NF := hDD.trans ((NV.setRow (g := D.heap.size) (fun h => by omega) (vcells X.v)).setRow (g := vA.heap.size) (fun h => by omega) (kcells X.k x cx y cy)) fun _ _ h => h
        go_wp2
        go_meet
        have hX := hX.out
        subst hX
        exact ⟨D.heap.size, vA.heap.size, x, cx, y, cy, rfl, rfl, bA1, bB2, ⟨by omega, by omega, by omega⟩, QF, S2, NF⟩
    · have hB : Below D.heap.size D (D.alloc (.cells #[.slice none 0 0, .slice none 0 0, .int .u64 0, .int .u64 0, .bool false] 56)) := (Below.refl _ _).alloc (Nat.le_refl _) _
      have bB := Blk.new D #[.slice none 0 0, .slice none 0 0, .int .u64 0, .int .u64 0, .bool false] 56
      have mB : D.heap.size < (D.alloc (.cells #[.slice none 0 0, .slice none 0 0, .int .u64 0, .int .u64 0, .bool false] 56)).heap.size := by simp
      generalize D.alloc (.cells #[.slice none 0 0, .slice none 0 0, .int .u64 0, .int .u64 0, .bool false] 56) = vB at *
      have zL := LV.size
      have zD := LD.size
      have LV := Base.next LV hB
      have LD := Base.next LD hB
      have SV : Fr AA X6 vB := Fr.of_below LV
      refine held_two (i := 4) (j := 9) (by kernel_rfl) (op_call (i := 4) (f := 22) (args := #[.agg #[.slice p sp.length c, .slice none 0 0, .int .u64 tr, .int .u64 a3, .bool false]]) rfl (by kernel_rfl) (by kernel_rfl) ((CF vB LV).mono ?_)) (op_value (i := 9) (v := .pointer (some ⟨vB.heap.size, 0, none⟩)) (w' := vB.alloc (.cells #[.int .i64 0, .int .i64 0, .int .u64 0, .bool false] 44)) rfl (by kernel_rfl) (by kernel_rfl) ⟨SV.alloc _, ?_⟩)
      · rintro e wF ⟨pf, cf, rfl, hnc, hcm, hpn, hrow, LF⟩
        have zF := LF.size
        have zL := LV.size
        have zD := LD.size
        have bB := bB.below LF bB.lt
        have row := hrow.mono (T := fun k => k < w.heap.size ∨ X6.heap.size ≤ k) fun k _ h => .inr (by omega)
        have LV := Base.next LV LF
        have LD := Base.next LD LF
        have SV : Fr AA X6 wF := Fr.of_below LV
        refine ⟨_, rfl, SV, ?_⟩
        refine held_two (i := 5) (j := 9) (by kernel_rfl) (op_call (i := 5) (f := 18) (args := #[.pointer (some gp), .pointer (some a), .slice pf fr.length cf, .int .u64 7]) rfl (by kernel_rfl) (by kernel_rfl) ((CT wF LV pf cf hnc row).mono ?_)) (op_value (i := 9) (v := .pointer (some ⟨wF.heap.size, 0, none⟩)) (w' := wF.alloc (.cells #[.int .i64 0, .int .i64 0, .int .u64 0, .bool false] 44)) rfl (by kernel_rfl) (by kernel_rfl) ⟨SV.alloc _, ?_⟩)
        · rintro e wT ⟨x, cx, y, cy, Yf, rfl, hrw, QV, FT⟩
          have zT' := FT.size
          have zL := LV.size
          have zD := LD.size
          have lB := bB.lt
          have zB : (fun k => X6.heap.size ≤ k ∧ k < wF.heap.size) (D.heap.size) := ⟨by omega, lB⟩
          have bB := bB.kept FT (fun h => h (.inr ⟨by omega, lB⟩))
          have SV := QV.fr
          have NV : Fr (fun k => k < X6.heap.size) D wT := (Fr.of_below LD : Fr (fun k => k < X6.heap.size) D wF).trans FT (fun k hk h => Nat.lt_of_not_le fun h2 => h (.inr ⟨h2, by omega⟩))
          clear CT CF
          generalize hX : takeT d0 g fr 7 = X at *
          have hX := Lib.hid hX
          refine ⟨_, rfl, SV, ?_⟩
          refine held_take (i := 6) (v := .tuple #[.agg (vcells X.v), .agg (kcells X.k x cx y cy)]) rfl (by kernel_rfl) (by kernel_rfl) (by kernel_rfl) (fun _ _ _ h => h) (by kernel_rfl) SV (fun _ hu => by kernel_rfl) ?_
          refine held_take (i := 7) (v := .agg (vcells X.v)) rfl (by kernel_rfl) (by kernel_rfl) (by kernel_rfl) (fun _ _ _ h => h) (by kernel_rfl) SV (fun _ hu => by kernel_rfl) ?_
          refine held_take (i := 8) (v := .agg (kcells X.k x cx y cy)) rfl (by kernel_rfl) (by kernel_rfl) (by kernel_rfl) (fun _ _ _ h => h) (by kernel_rfl) SV (fun _ hu => by kernel_rfl) ?_
          refine held_one (i := 9) (v := .pointer (some ⟨wT.heap.size, 0, none⟩)) (w' := wT.alloc (.cells #[.int .i64 0, .int .i64 0, .int .u64 0, .bool false] 44)) rfl (by kernel_rfl) (by kernel_rfl) (by kernel_rfl) (SV.alloc _) ?_
          have hA : Below wT.heap.size wT (wT.alloc (.cells #[.int .i64 0, .int .i64 0, .int .u64 0, .bool false] 44)) := (Below.refl _ _).alloc (Nat.le_refl _) _
          have bA := Blk.new wT #[.int .i64 0, .int .i64 0, .int .u64 0, .bool false] 44
          have mA : wT.heap.size < (wT.alloc (.cells #[.int .i64 0, .int .i64 0, .int .u64 0, .bool false] 44)).heap.size := by simp
          generalize wT.alloc (.cells #[.int .i64 0, .int .i64 0, .int .u64 0, .bool false] 44) = vA at *
          have bB := bB.below hA bB.lt
          have zS' := SV.size
          have zD := NV.size
          obtain ⟨FA, ZA, QV, zzA, zA⟩ := QV.grow hA (by omega)
          have zB := zzA _ zB
          have NV := NV.trans (T := fun _ => False) (Fr.of_below hA) fun _ _ h => h.elim
          have SV := QV.fr
          have S1 := SV.setRow (g := wT.heap.size) (fun h => by omega) (vcells X.v)
          refine held_st (i := 11) rfl (by kernel_rfl) (by kernel_rfl) (st_row 44 (.tmp 15) (.tmp 70) rfl (g := wT.heap.size) (cells := vcells X.v) (by kernel_rfl) (by kernel_rfl) bA (by kernel_rfl) rfl (by simp [vcells, Value.oneCell'])) S1 ?_
          have bB1 := bB.otherRow (g := wT.heap.size) (by omega) (vcells X.v)
          have S2 := S1.setRow (g := D.heap.size) (fun h => by omega) (kcells X.k x cx y cy)
          refine held_st (i := 12) rfl (by kernel_rfl) (by kernel_rfl) (st_row 56 (.tmp 16) (.tmp 71) rfl (g := D.heap.size) (cells := kcells X.k x cx y cy) (by kernel_rfl) (by kernel_rfl) bB1 (by kernel_rfl) rfl (by simp [kcells, Value.oneCell'])) S2 ?_
          refine held_done (by kernel_rfl) ?_
          have bA1 := (bA.setRow (vcells X.v)).otherRow (g := D.heap.size) (by omega) (kcells X.k x cx y cy)
          have bB2 := bB1.setRow (kcells X.k x cx y cy)
          have QF := ((QV.set (b := wT.heap.size) zA (by omega) (vcells X.v)).set (b := D.heap.size) zB (by omega) (kcells X.k x cx y cy)).pick zA zB
          have NF := hDD.trans ((NV.setRow (g := wT.heap.size) (fun h => by omega) (vcells X.v)).setRow (g := D.heap.size) (fun h => by omega) (kcells X.k x cx y cy)) fun _ _ h => h
          go_wp2
          go_meet
          have hX := hX.out
          subst hX
          exact ⟨wT.heap.size, D.heap.size, x, cx, y, cy, rfl, rfl, bA1, bB2, ⟨by omega, by omega, by omega⟩, QF, S2, NF⟩
        · have hA : Below wF.heap.size wF (wF.alloc (.cells #[.int .i64 0, .int .i64 0, .int .u64 0, .bool false] 44)) := (Below.refl _ _).alloc (Nat.le_refl _) _
          have bA := Blk.new wF #[.int .i64 0, .int .i64 0, .int .u64 0, .bool false] 44
          have mA : wF.heap.size < (wF.alloc (.cells #[.int .i64 0, .int .i64 0, .int .u64 0, .bool false] 44)).heap.size := by simp
          generalize wF.alloc (.cells #[.int .i64 0, .int .i64 0, .int .u64 0, .bool false] 44) = vA at *
          have bB := bB.below hA bB.lt
          have row := row.kept (T := fun _ => False) (Fr.of_below hA) (fun _ _ h => h)
          have zL := LV.size
          have zD := LD.size
          have LV := Base.next LV hA
          have LD := Base.next LD hA
          have SV : Fr AA X6 vA := Fr.of_below LV
          refine held_call (i := 5) (f := 18) (args := #[.pointer (some gp), .pointer (some a), .slice pf fr.length cf, .int .u64 7]) rfl (by kernel_rfl) (by kernel_rfl) (by kernel_rfl) ((CT vA LV pf cf hnc row).mono ?_)
          rintro e wT ⟨x, cx, y, cy, Yf, rfl, hrw, QV, FT⟩
          have zT' := FT.size
          have zL := LV.size
          have zD := LD.size
          have lA := bA.lt
          have zA : (fun k => X6.heap.size ≤ k ∧ k < vA.heap.size) (wF.heap.size) := ⟨by omega, lA⟩
          have bA := bA.kept FT (fun h => h (.inr ⟨by omega, lA⟩))
          have lB := bB.lt
          have zB : (fun k => X6.heap.size ≤ k ∧ k < vA.heap.size) (D.heap.size) := ⟨by omega, lB⟩
          have bB := bB.kept FT (fun h => h (.inr ⟨by omega, lB⟩))
          have SV := QV.fr
          have NV : Fr (fun k => k < X6.heap.size) D wT := (Fr.of_below LD : Fr (fun k => k < X6.heap.size) D vA).trans FT (fun k hk h => Nat.lt_of_not_le fun h2 => h (.inr ⟨h2, by omega⟩))
          clear CT CF
          generalize hX : takeT d0 g fr 7 = X at *
          have hX := Lib.hid hX
          refine ⟨_, rfl, SV, ?_⟩
          refine held_take (i := 6) (v := .tuple #[.agg (vcells X.v), .agg (kcells X.k x cx y cy)]) rfl (by kernel_rfl) (by kernel_rfl) (by kernel_rfl) (fun _ _ _ h => h) (by kernel_rfl) SV (fun _ hu => by kernel_rfl) ?_
          refine held_take (i := 7) (v := .agg (vcells X.v)) rfl (by kernel_rfl) (by kernel_rfl) (by kernel_rfl) (fun _ _ _ h => h) (by kernel_rfl) SV (fun _ hu => by kernel_rfl) ?_
          refine held_take (i := 8) (v := .agg (kcells X.k x cx y cy)) rfl (by kernel_rfl) (by kernel_rfl) (by kernel_rfl) (fun _ _ _ h => h) (by kernel_rfl) SV (fun _ hu => by kernel_rfl) ?_
          have S1 := SV.setRow (g := wF.heap.size) (fun h => by omega) (vcells X.v)
          refine held_st (i := 11) rfl (by kernel_rfl) (by kernel_rfl) (st_row 44 (.tmp 15) (.tmp 70) rfl (g := wF.heap.size) (cells := vcells X.v) (by kernel_rfl) (by kernel_rfl) bA (by kernel_rfl) rfl (by simp [vcells, Value.oneCell'])) S1 ?_
          have bB1 := bB.otherRow (g := wF.heap.size) (by omega) (vcells X.v)
          have S2 := S1.setRow (g := D.heap.size) (fun h => by omega) (kcells X.k x cx y cy)
          refine held_st (i := 12) rfl (by kernel_rfl) (by kernel_rfl) (st_row 56 (.tmp 16) (.tmp 71) rfl (g := D.heap.size) (cells := kcells X.k x cx y cy) (by kernel_rfl) (by kernel_rfl) bB1 (by kernel_rfl) rfl (by simp [kcells, Value.oneCell'])) S2 ?_
          refine held_done (by kernel_rfl) ?_
          have bA1 := (bA.setRow (vcells X.v)).otherRow (g := D.heap.size) (by omega) (kcells X.k x cx y cy)
          have bB2 := bB1.setRow (kcells X.k x cx y cy)
          have QF := ((QV.set (b := wF.heap.size) zA (by omega) (vcells X.v)).set (b := D.heap.size) zB (by omega) (kcells X.k x cx y cy)).pick zA zB
          have NF := hDD.trans ((NV.setRow (g := wF.heap.size) (fun h => by omega) (vcells X.v)).setRow (g := D.heap.size) (fun h => by omega) (kcells X.k x cx y cy)) fun _ _ h => h
          go_wp2
          go_meet
          have hX := hX.out
          subst hX
          exact ⟨wF.heap.size, D.heap.size, x, cx, y, cy, rfl, rfl, bA1, bB2, ⟨by omega, by omega, by omega⟩, QF, S2, NF⟩
      · have hA : Below vB.heap.size vB (vB.alloc (.cells #[.int .i64 0, .int .i64 0, .int .u64 0, .bool false] 44)) := (Below.refl _ _).alloc (Nat.le_refl _) _
        have bA := Blk.new vB #[.int .i64 0, .int .i64 0, .int .u64 0, .bool false] 44
        have mA : vB.heap.size < (vB.alloc (.cells #[.int .i64 0, .int .i64 0, .int .u64 0, .bool false] 44)).heap.size := by simp
        generalize vB.alloc (.cells #[.int .i64 0, .int .i64 0, .int .u64 0, .bool false] 44) = vA at *
        have bB := bB.below hA bB.lt
        have zL := LV.size
        have zD := LD.size
        have LV := Base.next LV hA
        have LD := Base.next LD hA
        have SV : Fr AA X6 vA := Fr.of_below LV
        refine held_call (i := 4) (f := 22) (args := #[.agg #[.slice p sp.length c, .slice none 0 0, .int .u64 tr, .int .u64 a3, .bool false]]) rfl (by kernel_rfl) (by kernel_rfl) (by kernel_rfl) ((CF vA LV).mono ?_)
        rintro e wF ⟨pf, cf, rfl, hnc, hcm, hpn, hrow, LF⟩
        have zF := LF.size
        have zL := LV.size
        have zD := LD.size
        have bA := bA.below LF bA.lt
        have bB := bB.below LF bB.lt
        have row := hrow.mono (T := fun k => k < w.heap.size ∨ X6.heap.size ≤ k) fun k _ h => .inr (by omega)
        have LV := Base.next LV LF
        have LD := Base.next LD LF
        have SV : Fr AA X6 wF := Fr.of_below LV
        refine ⟨_, rfl, SV, ?_⟩
        refine held_call (i := 5) (f := 18) (args := #[.pointer (some gp), .pointer (some a), .slice pf fr.length cf, .int .u64 7]) rfl (by kernel_rfl) (by kernel_rfl) (by kernel_rfl) ((CT wF LV pf cf hnc row).mono ?_)
        rintro e wT ⟨x, cx, y, cy, Yf, rfl, hrw, QV, FT⟩
        have zT' := FT.size
        have zL := LV.size
        have zD := LD.size
        have lA := bA.lt
        have zA : (fun k => X6.heap.size ≤ k ∧ k < wF.heap.size) (vB.heap.size) := ⟨by omega, lA⟩
        have bA := bA.kept FT (fun h => h (.inr ⟨by omega, lA⟩))
        have lB := bB.lt
        have zB : (fun k => X6.heap.size ≤ k ∧ k < wF.heap.size) (D.heap.size) := ⟨by omega, lB⟩
        have bB := bB.kept FT (fun h => h (.inr ⟨by omega, lB⟩))
        have SV := QV.fr
        have NV : Fr (fun k => k < X6.heap.size) D wT := (Fr.of_below LD : Fr (fun k => k < X6.heap.size) D wF).trans FT (fun k hk h => Nat.lt_of_not_le fun h2 => h (.inr ⟨h2, by omega⟩))
        clear CT CF
        generalize hX : takeT d0 g fr 7 = X at *
        have hX := Lib.hid hX
        refine ⟨_, rfl, SV, ?_⟩
        refine held_take (i := 6) (v := .tuple #[.agg (vcells X.v), .agg (kcells X.k x cx y cy)]) rfl (by kernel_rfl) (by kernel_rfl) (by kernel_rfl) (fun _ _ _ h => h) (by kernel_rfl) SV (fun _ hu => by kernel_rfl) ?_
        refine held_take (i := 7) (v := .agg (vcells X.v)) rfl (by kernel_rfl) (by kernel_rfl) (by kernel_rfl) (fun _ _ _ h => h) (by kernel_rfl) SV (fun _ hu => by kernel_rfl) ?_
        refine held_take (i := 8) (v := .agg (kcells X.k x cx y cy)) rfl (by kernel_rfl) (by kernel_rfl) (by kernel_rfl) (fun _ _ _ h => h) (by kernel_rfl) SV (fun _ hu => by kernel_rfl) ?_
        have S1 := SV.setRow (g := vB.heap.size) (fun h => by omega) (vcells X.v)
        refine held_st (i := 11) rfl (by kernel_rfl) (by kernel_rfl) (st_row 44 (.tmp 15) (.tmp 70) rfl (g := vB.heap.size) (cells := vcells X.v) (by kernel_rfl) (by kernel_rfl) bA (by kernel_rfl) rfl (by simp [vcells, Value.oneCell'])) S1 ?_
        have bB1 := bB.otherRow (g := vB.heap.size) (by omega) (vcells X.v)
        have S2 := S1.setRow (g := D.heap.size) (fun h => by omega) (kcells X.k x cx y cy)
        refine held_st (i := 12) rfl (by kernel_rfl) (by kernel_rfl) (st_row 56 (.tmp 16) (.tmp 71) rfl (g := D.heap.size) (cells := kcells X.k x cx y cy) (by kernel_rfl) (by kernel_rfl) bB1 (by kernel_rfl) rfl (by simp [kcells, Value.oneCell'])) S2 ?_
        refine held_done (by kernel_rfl) ?_
        have bA1 := (bA.setRow (vcells X.v)).otherRow (g := D.heap.size) (by omega) (kcells X.k x cx y cy)
        have bB2 := bB1.setRow (kcells X.k x cx y cy)
        have QF := ((QV.set (b := vB.heap.size) zA (by omega) (vcells X.v)).set (b := D.heap.size) zB (by omega) (kcells X.k x cx y cy)).pick zA zB
        have NF := hDD.trans ((NV.setRow (g := vB.heap.size) (fun h => by omega) (vcells X.v)).setRow (g := D.heap.size) (fun h => by omega) (kcells X.k x cx y cy)) fun _ _ h => h
        go_wp2
        go_meet
        have hX := hX.out
        subst hX
        exact ⟨vB.heap.size, D.heap.size, x, cx, y, cy, rfl, rfl, bA1, bB2, ⟨by omega, by omega, by omega⟩, QF, S2, NF⟩
  case rest =>
    obtain ⟨q1, q2, x, cx, y, cy, rfl, rfl, bA, bB, ⟨r1, r2, r3⟩, QF, SF, NF⟩ := hcut
    have hok := QA.ok
    have hcb2 := cb_take hcb hok hpb (now := 7) (by decide) (by decide)
    have hlen2 := len_take d0 g fr 7
    have hE := take_ends hd0.1 g fr 7
    rw [hgp] at hE
    have hM := M7.trans (SF.toBelow' (B := w.heap.size) M7.size fun k _ hk => hA0 k hk)
    have hkk : Kok (⟨sp, [], tr, a3, false⟩ : K) := kok_may hmay hfi
    generalize takeT d0 g fr 7 = Y at *
    have v0 : wc.cell? ⟨q1, 0, none⟩ = some (.int .i64 Y.v.kind) := bA.cell 0
    have vl := bA.lt
    have CE := tri_evidence QF hcb2 (by decide)
    simp only [ecells] at CE
    have T8 := T6.kept SF hAt
    have D8 := D6.kept SF (hAn _ (by omega) (by omega))
    have rs8 := rs6.kept SF (fun k hk => hAn k (by omega) (by omega))
    have sF := SF.size
    clear bB CPt hgp
    rcases hE with ⟨e1, e2⟩ | ⟨e1, e2, e3, e4, e5, e6⟩
    · rw [e2] at CE
      go_upto_region 9 with (go_at_call 23; refine CE.mono ?_; rintro e V8 ⟨ea, ec, eb, ed, A', rfl, hrw, Q8, hB2, hB3, L8⟩)
      refine at_world ?_
      intro V9 hU
      obtain ⟨hw0, hw1⟩ : Below wc.heap.size wc V9 ∧ wc.heap.size ≤ V8.heap.size := by
        subst hU
        exact ⟨L8.alloc L8.size _, L8.size⟩
      clear hU
      have v9 := keepCell hw0 v0
      have M9 := Base.next hM hw0
      have s9 := hw0.size
      go_wp2
      all_goals go_ret
      all_goals exact ⟨rfl, M9⟩
    · rw [e2] at CE
      go_upto_region 9 with (go_at_call 23; refine CE.mono ?_; rintro e V8 ⟨ea, ec, eb, ed, A', rfl, hrw, Q8, hB2, hB3, L8⟩)
      refine at_world ?_
      intro V9 hU
      have s8 := L8.size
      obtain ⟨eB, h9⟩ : Blk V9 V8.heap.size #[.int .u64 7, .int .u64 Y.v.pn, .int .u64 Y.g.e.used, .int .i64 Y.v.why, .slice ea sp.length ec, .slice eb 0 ed, .int .u64 tr, .int .u64 a3, .bool false] 65 ∧ Below V8.heap.size V8 V9 := by
        subst hU
        exact ⟨Blk.new _ _ _, (Below.refl _ _).alloc (Nat.le_refl _) _⟩
      clear hU CE
      have heV := eB.lt
      have L9 := Base.next L8 h9
      have T9 := T8.below L9 T8.lt
      have D9 := D8.below L9 D8.lt
      have rs9 := rs8.below L9 (fun k hk => by omega)
      have A9 := bA.below L9 bA.lt
      have v9 : V9.cell? ⟨q1, 0, none⟩ = some (.int .i64 3) := by
        rw [← e1]
        exact A9.cell 0
      have hrw9 := hrw.below h9
      have Q9 := Q8.next h9
      have M9 := Base.next hM L9
      have s9 := h9.size
      have lA9 := A9.lt
      have t0 : V9.cell? ⟨tb, 0, none⟩ = some (.pointer (some a)) := T9.cell 0
      have htl := T9.lt
      obtain ⟨SL, hLd⟩ := Q9.led
      have C1 := Led.all_any hLd (by omega)
      have C2 := fun V (hV : Below V9.heap.size V9 V) => tri_counts (Q9.next hV) hcb2 (by decide)
      clear v0 T8 D8 rs8 bA
      go_upto_region 14 with (first
        | (go_at_call 16; refine C1.mono ?_; rintro e v1 ⟨pw, cw, rfl, hw1, hw2, rw1, L1⟩)
        | (go_at_call 17; refine (C2 v1 L1).mono ?_; rintro e v2 ⟨rfl, L2⟩))
      refine at_world ?_
      intro Z hU
      have e1' := L1.size
      have e2' := L2.size
      obtain ⟨nB, rwZ, LZ⟩ : Blk Z v2.heap.size #[.int .u64 Y.g.n.mal, .int .u64 Y.g.n.drop, .int .u64 Y.g.n.taken, .int .u64 Y.g.n.chal, .int .u64 Y.g.n.late] 52 ∧ RowIn (fun k => V9.heap.size ≤ k ∧ k < v2.heap.size) Z pw (sents (allS Y.l)) ∧ Below V9.heap.size V9 Z := by
        subst hU
        have h2 : Below v2.heap.size v2 (v2.alloc (.cells #[.int .u64 Y.g.n.mal, .int .u64 Y.g.n.drop, .int .u64 Y.g.n.taken, .int .u64 Y.g.n.chal, .int .u64 Y.g.n.late] 52)) := (Below.refl _ _).alloc (Nat.le_refl _) _
        have h12 := Base.next L2 h2
        have h3 := h12.size
        exact ⟨Blk.new _ _ _, ((rw1.mono (T := fun k => V9.heap.size ≤ k ∧ k < v1.heap.size) fun k hk h => ⟨h, hk⟩).below h12 (fun k h => h.2)).mono fun k _ h => ⟨h.1, by omega⟩, Base.next L1 h12⟩
      clear hU C1 C2 hLd rw1 L1 L2 t0
      have hn3 := nB.lt
      have h8Z := Base.next h9 LZ
      have sZ := LZ.size
      have s8Z := h8Z.size
      have hnV : V8.heap.size ≤ v2.heap.size := by omega
      obtain ⟨AB, QB', hC2, hC3⟩ := (Q8.with_ h8Z (fun _ => False) (fun k h => h.elim)).tight
      have QB := QB'.less (F' := fun k => k = v2.heap.size) (Z' := fun k => k = v2.heap.size) (fun k hk => by subst hk; exact ⟨hnV, hn3⟩) (fun k hk => by subst hk; exact ⟨hnV, hn3⟩) (fun k hk => hk)
      have hBn : ∀ k, V8.heap.size ≤ k → k < Z.heap.size → ¬ AB k := fun k h1 h2 hk => (hC3 k h2 hk).2 (.inr ⟨h1, h2⟩)
      have hBo : ∀ k, k < V8.heap.size → AB k → A' k := fun k h1 hk => ((hC3 k (by omega) hk).1).resolve_right (by omega)
      have hB0 : ∀ k, AB k → w.heap.size ≤ k := fun k hk => by
        rcases Nat.lt_or_ge k V8.heap.size with h | h
        · rcases (hB3 k h (hBo k h hk)).2.1 with h2 | h2
          · exact hA0 k h2
          · have := M7.size
            omega
        · have := hM.size
          omega
      have hB1 : ∀ k, AB k → k ≠ tb := fun k hk e => by
        subst e
        rcases (hB3 _ (by omega) (hBo _ (by omega) hk)).2.1 with h2 | h2
        · exact hAt h2
        · omega
      have hBk1 : ¬ AB kb := fun hk => by
        rcases (hB3 _ (by omega) (hBo _ (by omega) hk)).2.1 with h2 | h2
        · exact hAn _ (by omega) (by omega) h2
        · omega
      have hBp : ∀ k, U.heap.size ≤ k → k < X6.heap.size → ¬ AB k := fun k h1 h2 hk => by
        rcases (hB3 _ (by omega) (hBo _ (by omega) hk)).2.1 with h2 | h2
        · exact hAn _ (by omega) (by omega) h2
        · omega
      have hBq : ¬ AB q1 := fun hk => (hB3 _ (by omega) (hBo _ (by omega) hk)).2.2 (.inl rfl)
      have hBe : ∀ k, k < V8.heap.size ∧ ¬ A' k → ¬ AB k := fun k h hk => h.2 (hBo k h.1 hk)
      have TZ := T9.below LZ T9.lt
      have DZ := D9.below LZ D9.lt
      have rsZ := rs9.below LZ (fun k hk => by omega)
      have AZ := A9.below LZ A9.lt
      have eZ := eB.below LZ eB.lt
      have hrwZ := (hrw9.mono (T := fun k => k < V8.heap.size ∧ ¬ A' k) fun k _ h => h).below LZ
      have MZ := Base.next M9 LZ
      have hAg : Y.g.ended = true := e2
      have ok2 := QB.ok
      clear hC3 hB3 hBo hB2 QB' Q8 Q9 QF T9 D9 rs9 A9 eB hrw hrw9 QA hA2 hAn hAt hA0 SF NF v9 L8 h9 L9 LZ h8Z
      generalize hnb : v2.heap.size = nb at *
      go_wp2
      go_loopw [21, 22, 23] (fun i _ _ wr => ∃ (t : Nat) (G : Gd), t ≤ z4.length ∧ i = .int .i64 t ∧ G.ended = true ∧ G.e = Y.g.e ∧ G.n = { Y.g.n with late := Y.g.n.late + t } ∧ Cb G (t + 1) ∧ Tri AB (fun k => k = nb) (fun k => k = nb) wr wr a b gp Y.l g G ∧ Fr AB Z wr) (fun i _ _ _ => z4.length - (intOf i).toNat)
      case atStart => exact ⟨0, Y.g, Nat.zero_le _, rfl, hAg, rfl, by simp, hcb2, QB, Fr.refl _ _⟩
      case round =>
        obtain ⟨t, G, ht, rfl, hge, hgee, hgn, hc, Q, hF⟩ := hrel
        have hL : Below w.heap.size w wr := MZ.trans (hF.toBelow' (B := w.heap.size) MZ.size fun k _ hk => hB0 k hk)
        have T7 := TZ.kept hF (fun h => hB1 _ h rfl)
        have hUw := hF.size
        have hwV := MZ.size
        by_cases hlt : t < z4.length
        · have hlI : (t : Int) < (z4.length : Int) := by omega
          obtain ⟨bz, off, rfl, hbz, ds⟩ := w4.at_ hlt
          have hFit := f4 (z4.getD t sh0) (by simp [List.getD, hlt])
          generalize z4.getD t sh0 = s at *
          replace ds : ∀ j x, (shC s)[j]? = some x → wr.cell? ⟨bz, off + t * 9 + j, none⟩ = some x := fun j x hj => by
            rw [hL.cell (p := ⟨bz, off + t * 9 + j, none⟩) hbz]
            exact ds j x hj
          have hbw : bz < wr.heap.size := Nat.lt_of_lt_of_le hbz hL.size
          go_upto_region 17 with fail
          go_cut [22, 23] from 95 to 109 (fun s1 s2 wx => ∃ (p1 p2 : Nat) (fr : List Int) (x : Option Addr) (cx : Nat) (y : Option Addr) (cy : Nat), s1 = .pointer (some ⟨p1, 0, none⟩) ∧ s2 = .pointer (some ⟨p2, 0, none⟩) ∧ OctPlain.Bytes fr ∧ Blk wx p1 (vcells (takeT G Y.l fr (t : Int)).v) 44 ∧ Blk wx p2 (kcells (takeT G Y.l fr (t : Int)).k x cx y cy) 56 ∧ (wr.heap.size ≤ p1 ∧ wr.heap.size ≤ p2 ∧ p1 ≠ p2) ∧ Tri AB (fun k => k = nb ∨ k = p1 ∨ k = p2) (fun k => k = nb ∨ k = p1 ∨ k = p2) wr wx a b gp (takeT G Y.l fr (t : Int)).l g (takeT G Y.l fr (t : Int)).g ∧ Fr AB wr wx ∧ Fr (fun k => k < wr.heap.size) wr wx)
          case first =>
            have TW := T7
            have LV : Below wr.heap.size wr wr.drew := Base.drew1 (Below.refl _ _)
            have hDD : Fr (fun k => k < wr.heap.size) wr wr.drew := Fr.of_below (Base.drew1 (Below.refl _ _))
            have hDs : wr.heap.size ≤ wr.drew.heap.size := Nat.le_refl _
            have hWD := LV.size
            have SV : Fr AB wr wr.drew := Fr.of_below LV
            have hBk : ∀ k, k < w.heap.size → k < wr.heap.size ∧ ¬ AB k := fun k hk => ⟨by have := hL.size; omega, fun h => by have := hB0 _ h; omega⟩
            have hnow0 : 0 ≤ (t : Int) := by omega
            have hnow1 : (t : Int) ≤ 18446744073709551615 := by omega
            have hwW := hL.size
            have CF := fun V (hV : Below wr.heap.size wr V) => tri_frame (Q.next hV) (by omega) (Base.next hL hV) hFit
            have CT := fun V (hV : Below wr.heap.size wr V) p n c fr hfn hnc hnm hby (hrow : RowIn (fun k => k < w.heap.size ∨ wr.heap.size ≤ k) V p (fr.map (.int .u8))) => tri_p ((Q.more hV)) hc (by omega) (by omega) p n c fr hfn hnc hnm hby (fun v hv => RowIn.row ((hrow.mono (T := fun k => k < V.heap.size) fun k hk _ => hk).kept hv fun k hk h => by omega)) (t : Int) hnow0 hnow1
            refine held_start (fun v => Fr AB wr v) (by kernel_rfl) ?_
            generalize wr.drew = D at *
            have LD : Below D.heap.size D D := Below.refl _ _
            have zt0 := fun V (hV : Fr AB wr V) => show V.cell? ⟨tb, 0, none⟩ = some (.pointer (some a)) from (TW.kept hV (fun h => hB1 _ h rfl)).cell 0
            have zT := fun V (hV : Fr AB wr V) => show V.rangeAt tb 0 [.pointer (some a), .pointer (some ⟨b, 0, none⟩)] from Blk.range (TW.kept hV (fun h => hB1 _ h rfl)) (fun j u hj => by rw [Nat.zero_add]; rcases j with _ | _ | j <;> first | exact hj | simp at hj)
            have zS := fun V (hV : Fr AB wr V) => show V.rangeAt bz (off + t * 9) (shC s) from fun j x hj => by
              rw [hV.cell (p := ⟨bz, off + t * 9 + j, none⟩) hbw (fun h => absurd (show w.heap.size ≤ bz from hB0 _ h) (by omega))]
              exact ds j x hj
            refine held_take (i := 0) (v := .pointer (some gp)) rfl (by kernel_rfl) (by kernel_rfl) (by kernel_rfl) (fun _ _ _ h => h) (by kernel_rfl) SV (fun _ hu => by kernel_rfl) ?_
            refine held_take (i := 1) (v := .pointer (some ⟨tb, 0, none⟩)) rfl (by kernel_rfl) (by kernel_rfl) (by kernel_rfl) (fun _ _ _ h => h) (by kernel_rfl) SV (fun _ hu => by kernel_rfl) ?_
            refine held_take (i := 2) (v := .pointer (some a)) rfl (by kernel_rfl) (by kernel_rfl) (by kernel_rfl) (fun _ _ _ h => h) (by kernel_rfl) SV (fun _ hu => by exact lb_any 25 (.tmp 97) rfl (by kernel_rfl) (by kernel_rfl) (zt0 _ hu)) ?_
            refine held_take (i := 3) (v := .slice (some ⟨bz, off, none⟩) z4.length cap4) rfl (by kernel_rfl) (by kernel_rfl) (by kernel_rfl) (fun _ _ _ h => h) (by kernel_rfl) SV (fun _ hu => by kernel_rfl) ?_
            refine held_take (i := 4) (v := .int .i64 t) rfl (by kernel_rfl) (by kernel_rfl) (by kernel_rfl) (fun _ _ _ h => h) (by kernel_rfl) SV (fun _ hu => by kernel_rfl) ?_
            refine held_take (i := 5) (v := .pointer (some ⟨bz, off + t * 9, none⟩)) rfl (by kernel_rfl) (by kernel_rfl) (by kernel_rfl) (fun _ _ _ h => h) (by kernel_rfl) SV (fun _ hu => by exact ix_shots (.tmp 99) (.tmp 100) (n := z4.length) (cap := cap4) rfl (by kernel_rfl) (by kernel_rfl) hlt) ?_
            refine held_take (i := 6) (v := .agg (shC s).toArray) rfl (by kernel_rfl) (by kernel_rfl) (by kernel_rfl) (fun _ _ _ h => h) (by kernel_rfl) SV (fun _ hu => by exact lb_mid 42 (.tmp 101) rfl (by kernel_rfl) (zS _ hu) Tryz.underlying42 rfl (by kernel_rfl)) ?_
            refine held_take (i := 7) (v := .agg #[.pointer (some a), .pointer (some ⟨b, 0, none⟩)]) rfl (by kernel_rfl) (by kernel_rfl) (by kernel_rfl) (fun _ _ _ h => h) (by kernel_rfl) SV (fun _ hu => by exact lb_mid 28 (.tmp 11) rfl (by kernel_rfl) (zT _ hu) Tryz.underlying28 rfl (by kernel_rfl)) ?_
            refine held_take (i := 9) (v := .int .i64 t) rfl (by kernel_rfl) (by kernel_rfl) (by kernel_rfl) (fun _ _ _ h => h) (by kernel_rfl) SV (fun _ hu => by kernel_rfl) ?_
            refine held_take (i := 10) (v := .int .u64 (t : Int)) rfl (by kernel_rfl) (by kernel_rfl) (by kernel_rfl) (fun _ _ _ h => h) (by kernel_rfl) SV (fun _ hu => by exact cv_any (.tmp 105) rfl (by kernel_rfl) (by omega) (by omega)) ?_
            refine held_three (i := 8) (j := 15) (k := 16) (by kernel_rfl) (op_call (i := 8) (f := 14) (args := #[.agg (shC s).toArray, .agg #[.pointer (some a), .pointer (some ⟨b, 0, none⟩)]]) rfl (by kernel_rfl) (by kernel_rfl) ((CF D LV).mono ?_)) (op_value (i := 15) (v := .pointer (some ⟨D.heap.size, 0, none⟩)) (w' := D.alloc (.cells #[.int .i64 0, .int .i64 0, .int .u64 0, .bool false] 44)) rfl (by kernel_rfl) (by kernel_rfl) ⟨SV.alloc _, ?_⟩) (op_value (i := 16) (v := .pointer (some ⟨D.heap.size, 0, none⟩)) (w' := D.alloc (.cells #[.slice none 0 0, .slice none 0 0, .int .u64 0, .int .u64 0, .bool false] 56)) rfl (by kernel_rfl) (by kernel_rfl) ⟨SV.alloc _, ?_⟩)
            · rintro e wF ⟨p, n, c, fr, rfl, hfn, hnc, hnm, hby, hrow, LF⟩
              have zF := LF.size
              have zL := LV.size
              have zD := LD.size
              have row := hrow.mono (T := fun k => k < w.heap.size ∨ wr.heap.size ≤ k) fun k _ h => h.imp id fun h => (by omega)
              have LV := Base.next LV LF
              have LD := Base.next LD LF
              have SV : Fr AB wr wF := Fr.of_below LV
              refine ⟨_, rfl, SV, ?_⟩
              refine held_three (i := 11) (j := 15) (k := 16) (by kernel_rfl) (op_call (i := 11) (f := 18) (args := #[.pointer (some gp), .pointer (some a), .slice p n c, .int .u64 (t : Int)]) rfl (by kernel_rfl) (by kernel_rfl) ((CT wF LV p n c fr hfn hnc hnm hby row).mono ?_)) (op_value (i := 15) (v := .pointer (some ⟨wF.heap.size, 0, none⟩)) (w' := wF.alloc (.cells #[.int .i64 0, .int .i64 0, .int .u64 0, .bool false] 44)) rfl (by kernel_rfl) (by kernel_rfl) ⟨SV.alloc _, ?_⟩) (op_value (i := 16) (v := .pointer (some ⟨wF.heap.size, 0, none⟩)) (w' := wF.alloc (.cells #[.slice none 0 0, .slice none 0 0, .int .u64 0, .int .u64 0, .bool false] 56)) rfl (by kernel_rfl) (by kernel_rfl) ⟨SV.alloc _, ?_⟩)
              · rintro e wT ⟨x, cx, y, cy, Yf, rfl, hrw, QV, FT⟩
                have zT' := FT.size
                have zL := LV.size
                have zD := LD.size
                have zK : ∀ k, (fun k => k = nb) k → (fun k => (fun k => k = nb) k ∨ (wr.heap.size ≤ k ∧ k < wF.heap.size)) k := fun k h => .inl h
                have SV := QV.fr
                have NV : Fr (fun k => k < wr.heap.size) D wT := (Fr.of_below LD : Fr (fun k => k < wr.heap.size) D wF).trans FT (fun k hk h => Nat.lt_of_not_le fun h2 => h (.inr ⟨h2, by omega⟩))
                clear CT CF
                generalize hX : takeT G Y.l fr (t : Int) = X at *
                have hX := Lib.hid hX
                refine ⟨_, rfl, SV, ?_⟩
                refine held_take (i := 12) (v := .tuple #[.agg (vcells X.v), .agg (kcells X.k x cx y cy)]) rfl (by kernel_rfl) (by kernel_rfl) (by kernel_rfl) (fun _ _ _ h => h) (by kernel_rfl) SV (fun _ hu => by kernel_rfl) ?_
                refine held_take (i := 13) (v := .agg (vcells X.v)) rfl (by kernel_rfl) (by kernel_rfl) (by kernel_rfl) (fun _ _ _ h => h) (by kernel_rfl) SV (fun _ hu => by kernel_rfl) ?_
                refine held_take (i := 14) (v := .agg (kcells X.k x cx y cy)) rfl (by kernel_rfl) (by kernel_rfl) (by kernel_rfl) (fun _ _ _ h => h) (by kernel_rfl) SV (fun _ hu => by kernel_rfl) ?_
                refine held_two (i := 15) (j := 16) (by kernel_rfl) (op_value (i := 15) (v := .pointer (some ⟨wT.heap.size, 0, none⟩)) (w' := wT.alloc (.cells #[.int .i64 0, .int .i64 0, .int .u64 0, .bool false] 44)) rfl (by kernel_rfl) (by kernel_rfl) ⟨SV.alloc _, ?_⟩) (op_value (i := 16) (v := .pointer (some ⟨wT.heap.size, 0, none⟩)) (w' := wT.alloc (.cells #[.slice none 0 0, .slice none 0 0, .int .u64 0, .int .u64 0, .bool false] 56)) rfl (by kernel_rfl) (by kernel_rfl) ⟨SV.alloc _, ?_⟩)
                · have hA : Below wT.heap.size wT (wT.alloc (.cells #[.int .i64 0, .int .i64 0, .int .u64 0, .bool false] 44)) := (Below.refl _ _).alloc (Nat.le_refl _) _
                  have bA := Blk.new wT #[.int .i64 0, .int .i64 0, .int .u64 0, .bool false] 44
                  have mA : wT.heap.size < (wT.alloc (.cells #[.int .i64 0, .int .i64 0, .int .u64 0, .bool false] 44)).heap.size := by simp
                  generalize wT.alloc (.cells #[.int .i64 0, .int .i64 0, .int .u64 0, .bool false] 44) = vA at *
                  have zS' := SV.size
                  have zD := NV.size
                  obtain ⟨FA, ZA, QV, zzA, zA⟩ := QV.grow hA (by omega)
                  have zK := fun k h => zzA k (zK k h)
                  have NV := NV.trans (T := fun _ => False) (Fr.of_below hA) fun _ _ h => h.elim
                  have SV := QV.fr
                  refine held_one (i := 16) (v := .pointer (some ⟨vA.heap.size, 0, none⟩)) (w' := vA.alloc (.cells #[.slice none 0 0, .slice none 0 0, .int .u64 0, .int .u64 0, .bool false] 56)) rfl (by kernel_rfl) (by kernel_rfl) (by kernel_rfl) (SV.alloc _) ?_
                  have hB : Below vA.heap.size vA (vA.alloc (.cells #[.slice none 0 0, .slice none 0 0, .int .u64 0, .int .u64 0, .bool false] 56)) := (Below.refl _ _).alloc (Nat.le_refl _) _
                  have bB := Blk.new vA #[.slice none 0 0, .slice none 0 0, .int .u64 0, .int .u64 0, .bool false] 56
                  have mB : vA.heap.size < (vA.alloc (.cells #[.slice none 0 0, .slice none 0 0, .int .u64 0, .int .u64 0, .bool false] 56)).heap.size := by simp
                  generalize vA.alloc (.cells #[.slice none 0 0, .slice none 0 0, .int .u64 0, .int .u64 0, .bool false] 56) = vB at *
                  have bA := bA.below hB bA.lt
                  have zS' := SV.size
                  have zD := NV.size
                  obtain ⟨FB, ZB, QV, zzB, zB⟩ := QV.grow hB (by omega)
                  have zA := zzB _ zA
                  have zK := fun k h => zzB k (zK k h)
                  have NV := NV.trans (T := fun _ => False) (Fr.of_below hB) fun _ _ h => h.elim
                  have SV := QV.fr
                  have S1 := SV.setRow (g := wT.heap.size) (fun h => by omega) (vcells X.v)
                  refine held_st (i := 17) rfl (by kernel_rfl) (by kernel_rfl) (st_row 44 (.tmp 22) (.tmp 108) rfl (g := wT.heap.size) (cells := vcells X.v) (by kernel_rfl) (by kernel_rfl) bA (by kernel_rfl) rfl (by simp [vcells, Value.oneCell'])) S1 ?_
                  have bB1 := bB.otherRow (g := wT.heap.size) (by omega) (vcells X.v)
                  have S2 := S1.setRow (g := vA.heap.size) (fun h => by omega) (kcells X.k x cx y cy)
                  refine held_st (i := 18) rfl (by kernel_rfl) (by kernel_rfl) (st_row 56 (.tmp 23) (.tmp 109) rfl (g := vA.heap.size) (cells := kcells X.k x cx y cy) (by kernel_rfl) (by kernel_rfl) bB1 (by kernel_rfl) rfl (by simp [kcells, Value.oneCell'])) S2 ?_
                  refine held_done (by kernel_rfl) ?_
                  have bA1 := (bA.setRow (vcells X.v)).otherRow (g := vA.heap.size) (by omega) (kcells X.k x cx y cy)
                  have bB2 := bB1.setRow (kcells X.k x cx y cy)
                  have QF := ((QV.set (b := wT.heap.size) zA (by omega) (vcells X.v)).set (b := vA.heap.size) zB (by omega) (kcells X.k x cx y cy)).pickK zK zA zB
                  have NF := hDD.trans ((NV.setRow (g := wT.heap.size) (fun h => by omega) (vcells X.v)).setRow (g := vA.heap.size) (fun h => by omega) (kcells X.k x cx y cy)) fun _ _ h => h
                  go_wp2
                  go_meet
                  have hX := hX.out
                  subst hX
                  exact ⟨wT.heap.size, vA.heap.size, fr, x, cx, y, cy, rfl, rfl, hby, bA1, bB2, ⟨by omega, by omega, by omega⟩, QF, S2, NF⟩
                · have hB : Below wT.heap.size wT (wT.alloc (.cells #[.slice none 0 0, .slice none 0 0, .int .u64 0, .int .u64 0, .bool false] 56)) := (Below.refl _ _).alloc (Nat.le_refl _) _
                  have bB := Blk.new wT #[.slice none 0 0, .slice none 0 0, .int .u64 0, .int .u64 0, .bool false] 56
                  have mB : wT.heap.size < (wT.alloc (.cells #[.slice none 0 0, .slice none 0 0, .int .u64 0, .int .u64 0, .bool false] 56)).heap.size := by simp
                  generalize wT.alloc (.cells #[.slice none 0 0, .slice none 0 0, .int .u64 0, .int .u64 0, .bool false] 56) = vB at *
                  have zS' := SV.size
                  have zD := NV.size
                  obtain ⟨FB, ZB, QV, zzB, zB⟩ := QV.grow hB (by omega)
                  have zK := fun k h => zzB k (zK k h)
                  have NV := NV.trans (T := fun _ => False) (Fr.of_below hB) fun _ _ h => h.elim
                  have SV := QV.fr
                  refine held_one (i := 15) (v := .pointer (some ⟨vB.heap.size, 0, none⟩)) (w' := vB.alloc (.cells #[.int .i64 0, .int .i64 0, .int .u64 0, .bool false] 44)) rfl (by kernel_rfl) (by kernel_rfl) (by kernel_rfl) (SV.alloc _) ?_
                  have hA : Below vB.heap.size vB (vB.alloc (.cells #[.int .i64 0, .int .i64 0, .int .u64 0, .bool false] 44)) := (Below.refl _ _).alloc (Nat.le_refl _) _
                  have bA := Blk.new vB #[.int .i64 0, .int .i64 0, .int .u64 0, .bool false] 44
                  have mA : vB.heap.size < (vB.alloc (.cells #[.int .i64 0, .int .i64 0, .int .u64 0, .bool false] 44)).heap.size := by simp
                  generalize vB.alloc (.cells #[.int .i64 0, .int .i64 0, .int .u64 0, .bool false] 44) = vA at *
                  have bB := bB.below hA bB.lt
                  have zS' := SV.size
                  have zD := NV.size
                  obtain ⟨FA, ZA, QV, zzA, zA⟩ := QV.grow hA (by omega)
                  have zB := zzA _ zB
                  have zK := fun k h => zzA k (zK k h)
                  have NV := NV.trans (T := fun _ => False) (Fr.of_below hA) fun _ _ h => h.elim
                  have SV := QV.fr
                  have S1 := SV.setRow (g := vB.heap.size) (fun h => by omega) (vcells X.v)
                  refine held_st (i := 17) rfl (by kernel_rfl) (by kernel_rfl) (st_row 44 (.tmp 22) (.tmp 108) rfl (g := vB.heap.size) (cells := vcells X.v) (by kernel_rfl) (by kernel_rfl) bA (by kernel_rfl) rfl (by simp [vcells, Value.oneCell'])) S1 ?_
                  have bB1 := bB.otherRow (g := vB.heap.size) (by omega) (vcells X.v)
                  have S2 := S1.setRow (g := wT.heap.size) (fun h => by omega) (kcells X.k x cx y cy)
                  refine held_st (i := 18) rfl (by kernel_rfl) (by kernel_rfl) (st_row 56 (.tmp 23) (.tmp 109) rfl (g := wT.heap.size) (cells := kcells X.k x cx y cy) (by kernel_rfl) (by kernel_rfl) bB1 (by kernel_rfl) rfl (by simp [kcells, Value.oneCell'])) S2 ?_
                  refine held_done (by kernel_rfl) ?_
                  have bA1 := (bA.setRow (vcells X.v)).otherRow (g := wT.heap.size) (by omega) (kcells X.k x cx y cy)
                  have bB2 := bB1.setRow (kcells X.k x cx y cy)
                  have QF := ((QV.set (b := vB.heap.size) zA (by omega) (vcells X.v)).set (b := wT.heap.size) zB (by omega) (kcells X.k x cx y cy)).pickK zK zA zB
                  have NF := hDD.trans ((NV.setRow (g := vB.heap.size) (fun h => by omega) (vcells X.v)).setRow (g := wT.heap.size) (fun h => by omega) (kcells X.k x cx y cy)) fun _ _ h => h
                  go_wp2
                  go_meet
                  have hX := hX.out
                  subst hX
                  exact ⟨vB.heap.size, wT.heap.size, fr, x, cx, y, cy, rfl, rfl, hby, bA1, bB2, ⟨by omega, by omega, by omega⟩, QF, S2, NF⟩
              · have hA : Below wF.heap.size wF (wF.alloc (.cells #[.int .i64 0, .int .i64 0, .int .u64 0, .bool false] 44)) := (Below.refl _ _).alloc (Nat.le_refl _) _
                have bA := Blk.new wF #[.int .i64 0, .int .i64 0, .int .u64 0, .bool false] 44
                have mA : wF.heap.size < (wF.alloc (.cells #[.int .i64 0, .int .i64 0, .int .u64 0, .bool false] 44)).heap.size := by simp
                generalize wF.alloc (.cells #[.int .i64 0, .int .i64 0, .int .u64 0, .bool false] 44) = vA at *
                have row := row.kept (T := fun _ => False) (Fr.of_below hA) (fun _ _ h => h)
                have zL := LV.size
                have zD := LD.size
                have LV := Base.next LV hA
                have LD := Base.next LD hA
                have SV : Fr AB wr vA := Fr.of_below LV
                refine held_two (i := 11) (j := 16) (by kernel_rfl) (op_call (i := 11) (f := 18) (args := #[.pointer (some gp), .pointer (some a), .slice p n c, .int .u64 (t : Int)]) rfl (by kernel_rfl) (by kernel_rfl) ((CT vA LV p n c fr hfn hnc hnm hby row).mono ?_)) (op_value (i := 16) (v := .pointer (some ⟨vA.heap.size, 0, none⟩)) (w' := vA.alloc (.cells #[.slice none 0 0, .slice none 0 0, .int .u64 0, .int .u64 0, .bool false] 56)) rfl (by kernel_rfl) (by kernel_rfl) ⟨SV.alloc _, ?_⟩)
                · rintro e wT ⟨x, cx, y, cy, Yf, rfl, hrw, QV, FT⟩
                  have zT' := FT.size
                  have zL := LV.size
                  have zD := LD.size
                  have lA := bA.lt
                  have zA : (fun k => (fun k => k = nb) k ∨ (wr.heap.size ≤ k ∧ k < vA.heap.size)) (wF.heap.size) := .inr ⟨by omega, lA⟩
                  have bA := bA.kept FT (fun h => h (.inr ⟨by omega, lA⟩))
                  have zK : ∀ k, (fun k => k = nb) k → (fun k => (fun k => k = nb) k ∨ (wr.heap.size ≤ k ∧ k < vA.heap.size)) k := fun k h => .inl h
                  have SV := QV.fr
                  have NV : Fr (fun k => k < wr.heap.size) D wT := (Fr.of_below LD : Fr (fun k => k < wr.heap.size) D vA).trans FT (fun k hk h => Nat.lt_of_not_le fun h2 => h (.inr ⟨h2, by omega⟩))
                  clear CT CF
                  generalize hX : takeT G Y.l fr (t : Int) = X at *
                  have hX := Lib.hid hX
                  refine ⟨_, rfl, SV, ?_⟩
                  refine held_take (i := 12) (v := .tuple #[.agg (vcells X.v), .agg (kcells X.k x cx y cy)]) rfl (by kernel_rfl) (by kernel_rfl) (by kernel_rfl) (fun _ _ _ h => h) (by kernel_rfl) SV (fun _ hu => by kernel_rfl) ?_
                  refine held_take (i := 13) (v := .agg (vcells X.v)) rfl (by kernel_rfl) (by kernel_rfl) (by kernel_rfl) (fun _ _ _ h => h) (by kernel_rfl) SV (fun _ hu => by kernel_rfl) ?_
                  refine held_take (i := 14) (v := .agg (kcells X.k x cx y cy)) rfl (by kernel_rfl) (by kernel_rfl) (by kernel_rfl) (fun _ _ _ h => h) (by kernel_rfl) SV (fun _ hu => by kernel_rfl) ?_
                  refine held_one (i := 16) (v := .pointer (some ⟨wT.heap.size, 0, none⟩)) (w' := wT.alloc (.cells #[.slice none 0 0, .slice none 0 0, .int .u64 0, .int .u64 0, .bool false] 56)) rfl (by kernel_rfl) (by kernel_rfl) (by kernel_rfl) (SV.alloc _) ?_
                  have hB : Below wT.heap.size wT (wT.alloc (.cells #[.slice none 0 0, .slice none 0 0, .int .u64 0, .int .u64 0, .bool false] 56)) := (Below.refl _ _).alloc (Nat.le_refl _) _
                  have bB := Blk.new wT #[.slice none 0 0, .slice none 0 0, .int .u64 0, .int .u64 0, .bool false] 56
                  have mB : wT.heap.size < (wT.alloc (.cells #[.slice none 0 0, .slice none 0 0, .int .u64 0, .int .u64 0, .bool false] 56)).heap.size := by simp
                  generalize wT.alloc (.cells #[.slice none 0 0, .slice none 0 0, .int .u64 0, .int .u64 0, .bool false] 56) = vB at *
                  have bA := bA.below hB bA.lt
                  have zS' := SV.size
                  have zD := NV.size
                  obtain ⟨FB, ZB, QV, zzB, zB⟩ := QV.grow hB (by omega)
                  have zA := zzB _ zA
                  have zK := fun k h => zzB k (zK k h)
                  have NV := NV.trans (T := fun _ => False) (Fr.of_below hB) fun _ _ h => h.elim
                  have SV := QV.fr
                  have S1 := SV.setRow (g := wF.heap.size) (fun h => by omega) (vcells X.v)
                  refine held_st (i := 17) rfl (by kernel_rfl) (by kernel_rfl) (st_row 44 (.tmp 22) (.tmp 108) rfl (g := wF.heap.size) (cells := vcells X.v) (by kernel_rfl) (by kernel_rfl) bA (by kernel_rfl) rfl (by simp [vcells, Value.oneCell'])) S1 ?_
                  have bB1 := bB.otherRow (g := wF.heap.size) (by omega) (vcells X.v)
                  have S2 := S1.setRow (g := wT.heap.size) (fun h => by omega) (kcells X.k x cx y cy)
                  refine held_st (i := 18) rfl (by kernel_rfl) (by kernel_rfl) (st_row 56 (.tmp 23) (.tmp 109) rfl (g := wT.heap.size) (cells := kcells X.k x cx y cy) (by kernel_rfl) (by kernel_rfl) bB1 (by kernel_rfl) rfl (by simp [kcells, Value.oneCell'])) S2 ?_
                  refine held_done (by kernel_rfl) ?_
                  have bA1 := (bA.setRow (vcells X.v)).otherRow (g := wT.heap.size) (by omega) (kcells X.k x cx y cy)
                  have bB2 := bB1.setRow (kcells X.k x cx y cy)
                  have QF := ((QV.set (b := wF.heap.size) zA (by omega) (vcells X.v)).set (b := wT.heap.size) zB (by omega) (kcells X.k x cx y cy)).pickK zK zA zB
                  have NF := hDD.trans ((NV.setRow (g := wF.heap.size) (fun h => by omega) (vcells X.v)).setRow (g := wT.heap.size) (fun h => by omega) (kcells X.k x cx y cy)) fun _ _ h => h
                  go_wp2
                  go_meet
                  have hX := hX.out
                  subst hX
                  exact ⟨wF.heap.size, wT.heap.size, fr, x, cx, y, cy, rfl, rfl, hby, bA1, bB2, ⟨by omega, by omega, by omega⟩, QF, S2, NF⟩
                · have hB : Below vA.heap.size vA (vA.alloc (.cells #[.slice none 0 0, .slice none 0 0, .int .u64 0, .int .u64 0, .bool false] 56)) := (Below.refl _ _).alloc (Nat.le_refl _) _
                  have bB := Blk.new vA #[.slice none 0 0, .slice none 0 0, .int .u64 0, .int .u64 0, .bool false] 56
                  have mB : vA.heap.size < (vA.alloc (.cells #[.slice none 0 0, .slice none 0 0, .int .u64 0, .int .u64 0, .bool false] 56)).heap.size := by simp
                  generalize vA.alloc (.cells #[.slice none 0 0, .slice none 0 0, .int .u64 0, .int .u64 0, .bool false] 56) = vB at *
                  have bA := bA.below hB bA.lt
                  have row := row.kept (T := fun _ => False) (Fr.of_below hB) (fun _ _ h => h)
                  have zL := LV.size
                  have zD := LD.size
                  have LV := Base.next LV hB
                  have LD := Base.next LD hB
                  have SV : Fr AB wr vB := Fr.of_below LV
                  refine held_call (i := 11) (f := 18) (args := #[.pointer (some gp), .pointer (some a), .slice p n c, .int .u64 (t : Int)]) rfl (by kernel_rfl) (by kernel_rfl) (by kernel_rfl) ((CT vB LV p n c fr hfn hnc hnm hby row).mono ?_)
                  rintro e wT ⟨x, cx, y, cy, Yf, rfl, hrw, QV, FT⟩
                  have zT' := FT.size
                  have zL := LV.size
                  have zD := LD.size
                  have lA := bA.lt
                  have zA : (fun k => (fun k => k = nb) k ∨ (wr.heap.size ≤ k ∧ k < vB.heap.size)) (wF.heap.size) := .inr ⟨by omega, lA⟩
                  have bA := bA.kept FT (fun h => h (.inr ⟨by omega, lA⟩))
                  have lB := bB.lt
                  have zB : (fun k => (fun k => k = nb) k ∨ (wr.heap.size ≤ k ∧ k < vB.heap.size)) (vA.heap.size) := .inr ⟨by omega, lB⟩
                  have bB := bB.kept FT (fun h => h (.inr ⟨by omega, lB⟩))
                  have zK : ∀ k, (fun k => k = nb) k → (fun k => (fun k => k = nb) k ∨ (wr.heap.size ≤ k ∧ k < vB.heap.size)) k := fun k h => .inl h
                  have SV := QV.fr
                  have NV : Fr (fun k => k < wr.heap.size) D wT := (Fr.of_below LD : Fr (fun k => k < wr.heap.size) D vB).trans FT (fun k hk h => Nat.lt_of_not_le fun h2 => h (.inr ⟨h2, by omega⟩))
                  clear CT CF
                  generalize hX : takeT G Y.l fr (t : Int) = X at *
                  have hX := Lib.hid hX
                  refine ⟨_, rfl, SV, ?_⟩
                  refine held_take (i := 12) (v := .tuple #[.agg (vcells X.v), .agg (kcells X.k x cx y cy)]) rfl (by kernel_rfl) (by kernel_rfl) (by kernel_rfl) (fun _ _ _ h => h) (by kernel_rfl) SV (fun _ hu => by kernel_rfl) ?_
                  refine held_take (i := 13) (v := .agg (vcells X.v)) rfl (by kernel_rfl) (by kernel_rfl) (by kernel_rfl) (fun _ _ _ h => h) (by kernel_rfl) SV (fun _ hu => by kernel_rfl) ?_
                  refine held_take (i := 14) (v := .agg (kcells X.k x cx y cy)) rfl (by kernel_rfl) (by kernel_rfl) (by kernel_rfl) (fun _ _ _ h => h) (by kernel_rfl) SV (fun _ hu => by kernel_rfl) ?_
                  have S1 := SV.setRow (g := wF.heap.size) (fun h => by omega) (vcells X.v)
                  refine held_st (i := 17) rfl (by kernel_rfl) (by kernel_rfl) (st_row 44 (.tmp 22) (.tmp 108) rfl (g := wF.heap.size) (cells := vcells X.v) (by kernel_rfl) (by kernel_rfl) bA (by kernel_rfl) rfl (by simp [vcells, Value.oneCell'])) S1 ?_
                  have bB1 := bB.otherRow (g := wF.heap.size) (by omega) (vcells X.v)
                  have S2 := S1.setRow (g := vA.heap.size) (fun h => by omega) (kcells X.k x cx y cy)
                  refine held_st (i := 18) rfl (by kernel_rfl) (by kernel_rfl) (st_row 56 (.tmp 23) (.tmp 109) rfl (g := vA.heap.size) (cells := kcells X.k x cx y cy) (by kernel_rfl) (by kernel_rfl) bB1 (by kernel_rfl) rfl (by simp [kcells, Value.oneCell'])) S2 ?_
                  refine held_done (by kernel_rfl) ?_
                  have bA1 := (bA.setRow (vcells X.v)).otherRow (g := vA.heap.size) (by omega) (kcells X.k x cx y cy)
                  have bB2 := bB1.setRow (kcells X.k x cx y cy)
                  have QF := ((QV.set (b := wF.heap.size) zA (by omega) (vcells X.v)).set (b := vA.heap.size) zB (by omega) (kcells X.k x cx y cy)).pickK zK zA zB
                  have NF := hDD.trans ((NV.setRow (g := wF.heap.size) (fun h => by omega) (vcells X.v)).setRow (g := vA.heap.size) (fun h => by omega) (kcells X.k x cx y cy)) fun _ _ h => h
                  go_wp2
                  go_meet
                  have hX := hX.out
                  subst hX
                  exact ⟨wF.heap.size, vA.heap.size, fr, x, cx, y, cy, rfl, rfl, hby, bA1, bB2, ⟨by omega, by omega, by omega⟩, QF, S2, NF⟩
              · have hB : Below wF.heap.size wF (wF.alloc (.cells #[.slice none 0 0, .slice none 0 0, .int .u64 0, .int .u64 0, .bool false] 56)) := (Below.refl _ _).alloc (Nat.le_refl _) _
                have bB := Blk.new wF #[.slice none 0 0, .slice none 0 0, .int .u64 0, .int .u64 0, .bool false] 56
                have mB : wF.heap.size < (wF.alloc (.cells #[.slice none 0 0, .slice none 0 0, .int .u64 0, .int .u64 0, .bool false] 56)).heap.size := by simp
                generalize wF.alloc (.cells #[.slice none 0 0, .slice none 0 0, .int .u64 0, .int .u64 0, .bool false] 56) = vB at *
                have row := row.kept (T := fun _ => False) (Fr.of_below hB) (fun _ _ h => h)
                have zL := LV.size
                have zD := LD.size
                have LV := Base.next LV hB
                have LD := Base.next LD hB
                have SV : Fr AB wr vB := Fr.of_below LV
                refine held_two (i := 11) (j := 15) (by kernel_rfl) (op_call (i := 11) (f := 18) (args := #[.pointer (some gp), .pointer (some a), .slice p n c, .int .u64 (t : Int)]) rfl (by kernel_rfl) (by kernel_rfl) ((CT vB LV p n c fr hfn hnc hnm hby row).mono ?_)) (op_value (i := 15) (v := .pointer (some ⟨vB.heap.size, 0, none⟩)) (w' := vB.alloc (.cells #[.int .i64 0, .int .i64 0, .int .u64 0, .bool false] 44)) rfl (by kernel_rfl) (by kernel_rfl) ⟨SV.alloc _, ?_⟩)
                · rintro e wT ⟨x, cx, y, cy, Yf, rfl, hrw, QV, FT⟩
                  have zT' := FT.size
                  have zL := LV.size
                  have zD := LD.size
                  have lB := bB.lt
                  have zB : (fun k => (fun k => k = nb) k ∨ (wr.heap.size ≤ k ∧ k < vB.heap.size)) (wF.heap.size) := .inr ⟨by omega, lB⟩
                  have bB := bB.kept FT (fun h => h (.inr ⟨by omega, lB⟩))
                  have zK : ∀ k, (fun k => k = nb) k → (fun k => (fun k => k = nb) k ∨ (wr.heap.size ≤ k ∧ k < vB.heap.size)) k := fun k h => .inl h
                  have SV := QV.fr
                  have NV : Fr (fun k => k < wr.heap.size) D wT := (Fr.of_below LD : Fr (fun k => k < wr.heap.size) D vB).trans FT (fun k hk h => Nat.lt_of_not_le fun h2 => h (.inr ⟨h2, by omega⟩))
                  clear CT CF
                  generalize hX : takeT G Y.l fr (t : Int) = X at *
                  have hX := Lib.hid hX
                  refine ⟨_, rfl, SV, ?_⟩
                  refine held_take (i := 12) (v := .tuple #[.agg (vcells X.v), .agg (kcells X.k x cx y cy)]) rfl (by kernel_rfl) (by kernel_rfl) (by kernel_rfl) (fun _ _ _ h => h) (by kernel_rfl) SV (fun _ hu => by kernel_rfl) ?_
                  refine held_take (i := 13) (v := .agg (vcells X.v)) rfl (by kernel_rfl) (by kernel_rfl) (by kernel_rfl) (fun _ _ _ h => h) (by kernel_rfl) SV (fun _ hu => by kernel_rfl) ?_
                  refine held_take (i := 14) (v := .agg (kcells X.k x cx y cy)) rfl (by kernel_rfl) (by kernel_rfl) (by kernel_rfl) (fun _ _ _ h => h) (by kernel_rfl) SV (fun _ hu => by kernel_rfl) ?_
                  refine held_one (i := 15) (v := .pointer (some ⟨wT.heap.size, 0, none⟩)) (w' := wT.alloc (.cells #[.int .i64 0, .int .i64 0, .int .u64 0, .bool false] 44)) rfl (by kernel_rfl) (by kernel_rfl) (by kernel_rfl) (SV.alloc _) ?_
                  have hA : Below wT.heap.size wT (wT.alloc (.cells #[.int .i64 0, .int .i64 0, .int .u64 0, .bool false] 44)) := (Below.refl _ _).alloc (Nat.le_refl _) _
                  have bA := Blk.new wT #[.int .i64 0, .int .i64 0, .int .u64 0, .bool false] 44
                  have mA : wT.heap.size < (wT.alloc (.cells #[.int .i64 0, .int .i64 0, .int .u64 0, .bool false] 44)).heap.size := by simp
                  generalize wT.alloc (.cells #[.int .i64 0, .int .i64 0, .int .u64 0, .bool false] 44) = vA at *
                  have bB := bB.below hA bB.lt
                  have zS' := SV.size
                  have zD := NV.size
                  obtain ⟨FA, ZA, QV, zzA, zA⟩ := QV.grow hA (by omega)
                  have zB := zzA _ zB
                  have zK := fun k h => zzA k (zK k h)
                  have NV := NV.trans (T := fun _ => False) (Fr.of_below hA) fun _ _ h => h.elim
                  have SV := QV.fr
                  have S1 := SV.setRow (g := wT.heap.size) (fun h => by omega) (vcells X.v)
                  refine held_st (i := 17) rfl (by kernel_rfl) (by kernel_rfl) (st_row 44 (.tmp 22) (.tmp 108) rfl (g := wT.heap.size) (cells := vcells X.v) (by kernel_rfl) (by kernel_rfl) bA (by kernel_rfl) rfl (by simp [vcells, Value.oneCell'])) S1 ?_
                  have bB1 := bB.otherRow (g := wT.heap.size) (by omega) (vcells X.v)
                  have S2 := S1.setRow (g := wF.heap.size) (fun h => by omega) (kcells X.k x cx y cy)
                  refine held_st (i := 18) rfl (by kernel_rfl) (by kernel_rfl) (st_row 56 (.tmp 23) (.tmp 109) rfl (g := wF.heap.size) (cells := kcells X.k x cx y cy) (by kernel_rfl) (by kernel_rfl) bB1 (by kernel_rfl) rfl (by simp [kcells, Value.oneCell'])) S2 ?_
                  refine held_done (by kernel_rfl) ?_
                  have bA1 := (bA.setRow (vcells X.v)).otherRow (g := wF.heap.size) (by omega) (kcells X.k x cx y cy)
                  have bB2 := bB1.setRow (kcells X.k x cx y cy)
                  have QF := ((QV.set (b := wT.heap.size) zA (by omega) (vcells X.v)).set (b := wF.heap.size) zB (by omega) (kcells X.k x cx y cy)).pickK zK zA zB
                  have NF := hDD.trans ((NV.setRow (g := wT.heap.size) (fun h => by omega) (vcells X.v)).setRow (g := wF.heap.size) (fun h => by omega) (kcells X.k x cx y cy)) fun _ _ h => h
                  go_wp2
                  go_meet
                  have hX := hX.out
                  subst hX
                  exact ⟨wT.heap.size, wF.heap.size, fr, x, cx, y, cy, rfl, rfl, hby, bA1, bB2, ⟨by omega, by omega, by omega⟩, QF, S2, NF⟩
                · have hA : Below vB.heap.size vB (vB.alloc (.cells #[.int .i64 0, .int .i64 0, .int .u64 0, .bool false] 44)) := (Below.refl _ _).alloc (Nat.le_refl _) _
                  have bA := Blk.new vB #[.int .i64 0, .int .i64 0, .int .u64 0, .bool false] 44
                  have mA : vB.heap.size < (vB.alloc (.cells #[.int .i64 0, .int .i64 0, .int .u64 0, .bool false] 44)).heap.size := by simp
                  generalize vB.alloc (.cells #[.int .i64 0, .int .i64 0, .int .u64 0, .bool false] 44) = vA at *
                  have bB := bB.below hA bB.lt
                  have row := row.kept (T := fun _ => False) (Fr.of_below hA) (fun _ _ h => h)
                  have zL := LV.size
                  have zD := LD.size
                  have LV := Base.next LV hA
                  have LD := Base.next LD hA
                  have SV : Fr AB wr vA := Fr.of_below LV
                  refine held_call (i := 11) (f := 18) (args := #[.pointer (some gp), .pointer (some a), .slice p n c, .int .u64 (t : Int)]) rfl (by kernel_rfl) (by kernel_rfl) (by kernel_rfl) ((CT vA LV p n c fr hfn hnc hnm hby row).mono ?_)
                  rintro e wT ⟨x, cx, y, cy, Yf, rfl, hrw, QV, FT⟩
                  have zT' := FT.size
                  have zL := LV.size
                  have zD := LD.size
                  have lA := bA.lt
                  have zA : (fun k => (fun k => k = nb) k ∨ (wr.heap.size ≤ k ∧ k < vA.heap.size)) (vB.heap.size) := .inr ⟨by omega, lA⟩
                  have bA := bA.kept FT (fun h => h (.inr ⟨by omega, lA⟩))
                  have lB := bB.lt
                  have zB : (fun k => (fun k => k = nb) k ∨ (wr.heap.size ≤ k ∧ k < vA.heap.size)) (wF.heap.size) := .inr ⟨by omega, lB⟩
                  have bB := bB.kept FT (fun h => h (.inr ⟨by omega, lB⟩))
                  have zK : ∀ k, (fun k => k = nb) k → (fun k => (fun k => k = nb) k ∨ (wr.heap.size ≤ k ∧ k < vA.heap.size)) k := fun k h => .inl h
                  have SV := QV.fr
                  have NV : Fr (fun k => k < wr.heap.size) D wT := (Fr.of_below LD : Fr (fun k => k < wr.heap.size) D vA).trans FT (fun k hk h => Nat.lt_of_not_le fun h2 => h (.inr ⟨h2, by omega⟩))
                  clear CT CF
                  generalize hX : takeT G Y.l fr (t : Int) = X at *
                  have hX := Lib.hid hX
                  refine ⟨_, rfl, SV, ?_⟩
                  refine held_take (i := 12) (v := .tuple #[.agg (vcells X.v), .agg (kcells X.k x cx y cy)]) rfl (by kernel_rfl) (by kernel_rfl) (by kernel_rfl) (fun _ _ _ h => h) (by kernel_rfl) SV (fun _ hu => by kernel_rfl) ?_
                  refine held_take (i := 13) (v := .agg (vcells X.v)) rfl (by kernel_rfl) (by kernel_rfl) (by kernel_rfl) (fun _ _ _ h => h) (by kernel_rfl) SV (fun _ hu => by kernel_rfl) ?_
                  refine held_take (i := 14) (v := .agg (kcells X.k x cx y cy)) rfl (by kernel_rfl) (by kernel_rfl) (by kernel_rfl) (fun _ _ _ h => h) (by kernel_rfl) SV (fun _ hu => by kernel_rfl) ?_
                  have S1 := SV.setRow (g := vB.heap.size) (fun h => by omega) (vcells X.v)
                  refine held_st (i := 17) rfl (by kernel_rfl) (by kernel_rfl) (st_row 44 (.tmp 22) (.tmp 108) rfl (g := vB.heap.size) (cells := vcells X.v) (by kernel_rfl) (by kernel_rfl) bA (by kernel_rfl) rfl (by simp [vcells, Value.oneCell'])) S1 ?_
                  have bB1 := bB.otherRow (g := vB.heap.size) (by omega) (vcells X.v)
                  have S2 := S1.setRow (g := wF.heap.size) (fun h => by omega) (kcells X.k x cx y cy)
                  refine held_st (i := 18) rfl (by kernel_rfl) (by kernel_rfl) (st_row 56 (.tmp 23) (.tmp 109) rfl (g := wF.heap.size) (cells := kcells X.k x cx y cy) (by kernel_rfl) (by kernel_rfl) bB1 (by kernel_rfl) rfl (by simp [kcells, Value.oneCell'])) S2 ?_
                  refine held_done (by kernel_rfl) ?_
                  have bA1 := (bA.setRow (vcells X.v)).otherRow (g := wF.heap.size) (by omega) (kcells X.k x cx y cy)
                  have bB2 := bB1.setRow (kcells X.k x cx y cy)
                  have QF := ((QV.set (b := vB.heap.size) zA (by omega) (vcells X.v)).set (b := wF.heap.size) zB (by omega) (kcells X.k x cx y cy)).pickK zK zA zB
                  have NF := hDD.trans ((NV.setRow (g := vB.heap.size) (fun h => by omega) (vcells X.v)).setRow (g := wF.heap.size) (fun h => by omega) (kcells X.k x cx y cy)) fun _ _ h => h
                  go_wp2
                  go_meet
                  have hX := hX.out
                  subst hX
                  exact ⟨vB.heap.size, wF.heap.size, fr, x, cx, y, cy, rfl, rfl, hby, bA1, bB2, ⟨by omega, by omega, by omega⟩, QF, S2, NF⟩
            · have hA : Below D.heap.size D (D.alloc (.cells #[.int .i64 0, .int .i64 0, .int .u64 0, .bool false] 44)) := (Below.refl _ _).alloc (Nat.le_refl _) _
              have bA := Blk.new D #[.int .i64 0, .int .i64 0, .int .u64 0, .bool false] 44
              have mA : D.heap.size < (D.alloc (.cells #[.int .i64 0, .int .i64 0, .int .u64 0, .bool false] 44)).heap.size := by simp
              generalize D.alloc (.cells #[.int .i64 0, .int .i64 0, .int .u64 0, .bool false] 44) = vA at *
              have zL := LV.size
              have zD := LD.size
              have LV := Base.next LV hA
              have LD := Base.next LD hA
              have SV : Fr AB wr vA := Fr.of_below LV
              refine held_two (i := 8) (j := 16) (by kernel_rfl) (op_call (i := 8) (f := 14) (args := #[.agg (shC s).toArray, .agg #[.pointer (some a), .pointer (some ⟨b, 0, none⟩)]]) rfl (by kernel_rfl) (by kernel_rfl) ((CF vA LV).mono ?_)) (op_value (i := 16) (v := .pointer (some ⟨vA.heap.size, 0, none⟩)) (w' := vA.alloc (.cells #[.slice none 0 0, .slice none 0 0, .int .u64 0, .int .u64 0, .bool false] 56)) rfl (by kernel_rfl) (by kernel_rfl) ⟨SV.alloc _, ?_⟩)
              · rintro e wF ⟨p, n, c, fr, rfl, hfn, hnc, hnm, hby, hrow, LF⟩
                have zF := LF.size
                have zL := LV.size
                have zD := LD.size
                have bA := bA.below LF bA.lt
                have row := hrow.mono (T := fun k => k < w.heap.size ∨ wr.heap.size ≤ k) fun k _ h => h.imp id fun h => (by omega)
                have LV := Base.next LV LF
                have LD := Base.next LD LF
                have SV : Fr AB wr wF := Fr.of_below LV
                refine ⟨_, rfl, SV, ?_⟩
                refine held_two (i := 11) (j := 16) (by kernel_rfl) (op_call (i := 11) (f := 18) (args := #[.pointer (some gp), .pointer (some a), .slice p n c, .int .u64 (t : Int)]) rfl (by kernel_rfl) (by kernel_rfl) ((CT wF LV p n c fr hfn hnc hnm hby row).mono ?_)) (op_value (i := 16) (v := .pointer (some ⟨wF.heap.size, 0, none⟩)) (w' := wF.alloc (.cells #[.slice none 0 0, .slice none 0 0, .int .u64 0, .int .u64 0, .bool false] 56)) rfl (by kernel_rfl) (by kernel_rfl) ⟨SV.alloc _, ?_⟩)
                · rintro e wT ⟨x, cx, y, cy, Yf, rfl, hrw, QV, FT⟩
                  have zT' := FT.size
                  have zL := LV.size
                  have zD := LD.size
                  have lA := bA.lt
                  have zA : (fun k => (fun k => k = nb) k ∨ (wr.heap.size ≤ k ∧ k < wF.heap.size)) (D.heap.size) := .inr ⟨by omega, lA⟩
                  have bA := bA.kept FT (fun h => h (.inr ⟨by omega, lA⟩))
                  have zK : ∀ k, (fun k => k = nb) k → (fun k => (fun k => k = nb) k ∨ (wr.heap.size ≤ k ∧ k < wF.heap.size)) k := fun k h => .inl h
                  have SV := QV.fr
                  have NV : Fr (fun k => k < wr.heap.size) D wT := (Fr.of_below LD : Fr (fun k => k < wr.heap.size) D wF).trans FT (fun k hk h => Nat.lt_of_not_le fun h2 => h (.inr ⟨h2, by omega⟩))
                  clear CT CF
                  generalize hX : takeT G Y.l fr (t : Int) = X at *
                  have hX := Lib.hid hX
                  refine ⟨_, rfl, SV, ?_⟩
                  refine held_take (i := 12) (v := .tuple #[.agg (vcells X.v), .agg (kcells X.k x cx y cy)]) rfl (by kernel_rfl) (by kernel_rfl) (by kernel_rfl) (fun _ _ _ h => h) (by kernel_rfl) SV (fun _ hu => by kernel_rfl) ?_
                  refine held_take (i := 13) (v := .agg (vcells X.v)) rfl (by kernel_rfl) (by kernel_rfl) (by kernel_rfl) (fun _ _ _ h => h) (by kernel_rfl) SV (fun _ hu => by kernel_rfl) ?_
                  refine held_take (i := 14) (v := .agg (kcells X.k x cx y cy)) rfl (by kernel_rfl) (by kernel_rfl) (by kernel_rfl) (fun _ _ _ h => h) (by kernel_rfl) SV (fun _ hu => by kernel_rfl) ?_
                  refine held_one (i := 16) (v := .pointer (some ⟨wT.heap.size, 0, none⟩)) (w' := wT.alloc (.cells #[.slice none 0 0, .slice none 0 0, .int .u64 0, .int .u64 0, .bool false] 56)) rfl (by kernel_rfl) (by kernel_rfl) (by kernel_rfl) (SV.alloc _) ?_
                  have hB : Below wT.heap.size wT (wT.alloc (.cells #[.slice none 0 0, .slice none 0 0, .int .u64 0, .int .u64 0, .bool false] 56)) := (Below.refl _ _).alloc (Nat.le_refl _) _
                  have bB := Blk.new wT #[.slice none 0 0, .slice none 0 0, .int .u64 0, .int .u64 0, .bool false] 56
                  have mB : wT.heap.size < (wT.alloc (.cells #[.slice none 0 0, .slice none 0 0, .int .u64 0, .int .u64 0, .bool false] 56)).heap.size := by simp
                  generalize wT.alloc (.cells #[.slice none 0 0, .slice none 0 0, .int .u64 0, .int .u64 0, .bool false] 56) = vB at *
                  have bA := bA.below hB bA.lt
                  have zS' := SV.size
                  have zD := NV.size
                  obtain ⟨FB, ZB, QV, zzB, zB⟩ := QV.grow hB (by omega)
                  have zA := zzB _ zA
                  have zK := fun k h => zzB k (zK k h)
                  have NV := NV.trans (T := fun _ => False) (Fr.of_below hB) fun _ _ h => h.elim
                  have SV := QV.fr
                  have S1 := SV.setRow (g := D.heap.size) (fun h => by omega) (vcells X.v)
                  refine held_st (i := 17) rfl (by kernel_rfl) (by kernel_rfl) (st_row 44 (.tmp 22) (.tmp 108) rfl (g := D.heap.size) (cells := vcells X.v) (by kernel_rfl) (by kernel_rfl) bA (by kernel_rfl) rfl (by simp [vcells, Value.oneCell'])) S1 ?_
                  have bB1 := bB.otherRow (g := D.heap.size) (by omega) (vcells X.v)
                  have S2 := S1.setRow (g := wT.heap.size) (fun h => by omega) (kcells X.k x cx y cy)
                  refine held_st (i := 18) rfl (by kernel_rfl) (by kernel_rfl) (st_row 56 (.tmp 23) (.tmp 109) rfl (g := wT.heap.size) (cells := kcells X.k x cx y cy) (by kernel_rfl) (by kernel_rfl) bB1 (by kernel_rfl) rfl (by simp [kcells, Value.oneCell'])) S2 ?_
                  refine held_done (by kernel_rfl) ?_
                  have bA1 := (bA.setRow (vcells X.v)).otherRow (g := wT.heap.size) (by omega) (kcells X.k x cx y cy)
                  have bB2 := bB1.setRow (kcells X.k x cx y cy)
                  have QF := ((QV.set (b := D.heap.size) zA (by omega) (vcells X.v)).set (b := wT.heap.size) zB (by omega) (kcells X.k x cx y cy)).pickK zK zA zB
                  have NF := hDD.trans ((NV.setRow (g := D.heap.size) (fun h => by omega) (vcells X.v)).setRow (g := wT.heap.size) (fun h => by omega) (kcells X.k x cx y cy)) fun _ _ h => h
                  go_wp2
                  go_meet
                  have hX := hX.out
                  subst hX
                  exact ⟨D.heap.size, wT.heap.size, fr, x, cx, y, cy, rfl, rfl, hby, bA1, bB2, ⟨by omega, by omega, by omega⟩, QF, S2, NF⟩
                · have hB : Below wF.heap.size wF (wF.alloc (.cells #[.slice none 0 0, .slice none 0 0, .int .u64 0, .int .u64 0, .bool false] 56)) := (Below.refl _ _).alloc (Nat.le_refl _) _
                  have bB := Blk.new wF #[.slice none 0 0, .slice none 0 0, .int .u64 0, .int .u64 0, .bool false] 56
                  have mB : wF.heap.size < (wF.alloc (.cells #[.slice none 0 0, .slice none 0 0, .int .u64 0, .int .u64 0, .bool false] 56)).heap.size := by simp
                  generalize wF.alloc (.cells #[.slice none 0 0, .slice none 0 0, .int .u64 0, .int .u64 0, .bool false] 56) = vB at *
                  have bA := bA.below hB bA.lt
                  have row := row.kept (T := fun _ => False) (Fr.of_below hB) (fun _ _ h => h)
                  have zL := LV.size
                  have zD := LD.size
                  have LV := Base.next LV hB
                  have LD := Base.next LD hB
                  have SV : Fr AB wr vB := Fr.of_below LV
                  refine held_call (i := 11) (f := 18) (args := #[.pointer (some gp), .pointer (some a), .slice p n c, .int .u64 (t : Int)]) rfl (by kernel_rfl) (by kernel_rfl) (by kernel_rfl) ((CT vB LV p n c fr hfn hnc hnm hby row).mono ?_)
                  rintro e wT ⟨x, cx, y, cy, Yf, rfl, hrw, QV, FT⟩
                  have zT' := FT.size
                  have zL := LV.size
                  have zD := LD.size
                  have lA := bA.lt
                  have zA : (fun k => (fun k => k = nb) k ∨ (wr.heap.size ≤ k ∧ k < vB.heap.size)) (D.heap.size) := .inr ⟨by omega, lA⟩
                  have bA := bA.kept FT (fun h => h (.inr ⟨by omega, lA⟩))
                  have lB := bB.lt
                  have zB : (fun k => (fun k => k = nb) k ∨ (wr.heap.size ≤ k ∧ k < vB.heap.size)) (wF.heap.size) := .inr ⟨by omega, lB⟩
                  have bB := bB.kept FT (fun h => h (.inr ⟨by omega, lB⟩))
                  have zK : ∀ k, (fun k => k = nb) k → (fun k => (fun k => k = nb) k ∨ (wr.heap.size ≤ k ∧ k < vB.heap.size)) k := fun k h => .inl h
                  have SV := QV.fr
                  have NV : Fr (fun k => k < wr.heap.size) D wT := (Fr.of_below LD : Fr (fun k => k < wr.heap.size) D vB).trans FT (fun k hk h => Nat.lt_of_not_le fun h2 => h (.inr ⟨h2, by omega⟩))
                  clear CT CF
                  generalize hX : takeT G Y.l fr (t : Int) = X at *
                  have hX := Lib.hid hX
                  refine ⟨_, rfl, SV, ?_⟩
                  refine held_take (i := 12) (v := .tuple #[.agg (vcells X.v), .agg (kcells X.k x cx y cy)]) rfl (by kernel_rfl) (by kernel_rfl) (by kernel_rfl) (fun _ _ _ h => h) (by kernel_rfl) SV (fun _ hu => by kernel_rfl) ?_
                  refine held_take (i := 13) (v := .agg (vcells X.v)) rfl (by kernel_rfl) (by kernel_rfl) (by kernel_rfl) (fun _ _ _ h => h) (by kernel_rfl) SV (fun _ hu => by kernel_rfl) ?_
                  refine held_take (i := 14) (v := .agg (kcells X.k x cx y cy)) rfl (by kernel_rfl) (by kernel_rfl) (by kernel_rfl) (fun _ _ _ h => h) (by kernel_rfl) SV (fun _ hu => by kernel_rfl) ?_
                  have S1 := SV.setRow (g := D.heap.size) (fun h => by omega) (vcells X.v)
                  refine held_st (i := 17) rfl (by kernel_rfl) (by kernel_rfl) (st_row 44 (.tmp 22) (.tmp 108) rfl (g := D.heap.size) (cells := vcells X.v) (by kernel_rfl) (by kernel_rfl) bA (by kernel_rfl) rfl (by simp [vcells, Value.oneCell'])) S1 ?_
                  have bB1 := bB.otherRow (g := D.heap.size) (by omega) (vcells X.v)
                  have S2 := S1.setRow (g := wF.heap.size) (fun h => by omega) (kcells X.k x cx y cy)
                  refine held_st (i := 18) rfl (by kernel_rfl) (by kernel_rfl) (st_row 56 (.tmp 23) (.tmp 109) rfl (g := wF.heap.size) (cells := kcells X.k x cx y cy) (by kernel_rfl) (by kernel_rfl) bB1 (by kernel_rfl) rfl (by simp [kcells, Value.oneCell'])) S2 ?_
                  refine held_done (by kernel_rfl) ?_
                  have bA1 := (bA.setRow (vcells X.v)).otherRow (g := wF.heap.size) (by omega) (kcells X.k x cx y cy)
                  have bB2 := bB1.setRow (kcells X.k x cx y cy)
                  have QF := ((QV.set (b := D.heap.size) zA (by omega) (vcells X.v)).set (b := wF.heap.size) zB (by omega) (kcells X.k x cx y cy)).pickK zK zA zB
                  have NF := hDD.trans ((NV.setRow (g := D.heap.size) (fun h => by omega) (vcells X.v)).setRow (g := wF.heap.size) (fun h => by omega) (kcells X.k x cx y cy)) fun _ _ h => h
                  go_wp2
                  go_meet
                  have hX := hX.out
                  subst hX
                  exact ⟨D.heap.size, wF.heap.size, fr, x, cx, y, cy, rfl, rfl, hby, bA1, bB2, ⟨by omega, by omega, by omega⟩, QF, S2, NF⟩
              · have hB : Below vA.heap.size vA (vA.alloc (.cells #[.slice none 0 0, .slice none 0 0, .int .u64 0, .int .u64 0, .bool false] 56)) := (Below.refl _ _).alloc (Nat.le_refl _) _
                have bB := Blk.new vA #[.slice none 0 0, .slice none 0 0, .int .u64 0, .int .u64 0, .bool false] 56
                have mB : vA.heap.size < (vA.alloc (.cells #[.slice none 0 0, .slice none 0 0, .int .u64 0, .int .u64 0, .bool false] 56)).heap.size := by simp
                generalize vA.alloc (.cells #[.slice none 0 0, .slice none 0 0, .int .u64 0, .int .u64 0, .bool false] 56) = vB at *
                have bA := bA.below hB bA.lt
                have zL := LV.size
                have zD := LD.size
                have LV := Base.next LV hB
                have LD := Base.next LD hB
                have SV : Fr AB wr vB := Fr.of_below LV
                refine held_call (i := 8) (f := 14) (args := #[.agg (shC s).toArray, .agg #[.pointer (some a), .pointer (some ⟨b, 0, none⟩)]]) rfl (by kernel_rfl) (by kernel_rfl) (by kernel_rfl) ((CF vB LV).mono ?_)
                rintro e wF ⟨p, n, c, fr, rfl, hfn, hnc, hnm, hby, hrow, LF⟩
                have zF := LF.size
                have zL := LV.size
                have zD := LD.size
                have bA := bA.below LF bA.lt
                have bB := bB.below LF bB.lt
                have row := hrow.mono (T := fun k => k < w.heap.size ∨ wr.heap.size ≤ k) fun k _ h => h.imp id fun h => (by omega)
                have LV := Base.next LV LF
                have LD := Base.next LD LF
                have SV : Fr AB wr wF := Fr.of_below LV
                refine ⟨_, rfl, SV, ?_⟩
                refine held_call (i := 11) (f := 18) (args := #[.pointer (some gp), .pointer (some a), .slice p n c, .int .u64 (t : Int)]) rfl (by kernel_rfl) (by kernel_rfl) (by kernel_rfl) ((CT wF LV p n c fr hfn hnc hnm hby row).mono ?_)
                rintro e wT ⟨x, cx, y, cy, Yf, rfl, hrw, QV, FT⟩
                have zT' := FT.size
                have zL := LV.size
                have zD := LD.size
                have lA := bA.lt
                have zA : (fun k => (fun k => k = nb) k ∨ (wr.heap.size ≤ k ∧ k < wF.heap.size)) (D.heap.size) := .inr ⟨by omega, lA⟩
                have bA := bA.kept FT (fun h => h (.inr ⟨by omega, lA⟩))
                have lB := bB.lt
                have zB : (fun k => (fun k => k = nb) k ∨ (wr.heap.size ≤ k ∧ k < wF.heap.size)) (vA.heap.size) := .inr ⟨by omega, lB⟩
                have bB := bB.kept FT (fun h => h (.inr ⟨by omega, lB⟩))
                have zK : ∀ k, (fun k => k = nb) k → (fun k => (fun k => k = nb) k ∨ (wr.heap.size ≤ k ∧ k < wF.heap.size)) k := fun k h => .inl h
                have SV := QV.fr
                have NV : Fr (fun k => k < wr.heap.size) D wT := (Fr.of_below LD : Fr (fun k => k < wr.heap.size) D wF).trans FT (fun k hk h => Nat.lt_of_not_le fun h2 => h (.inr ⟨h2, by omega⟩))
                clear CT CF
                generalize hX : takeT G Y.l fr (t : Int) = X at *
                have hX := Lib.hid hX
                refine ⟨_, rfl, SV, ?_⟩
                refine held_take (i := 12) (v := .tuple #[.agg (vcells X.v), .agg (kcells X.k x cx y cy)]) rfl (by kernel_rfl) (by kernel_rfl) (by kernel_rfl) (fun _ _ _ h => h) (by kernel_rfl) SV (fun _ hu => by kernel_rfl) ?_
                refine held_take (i := 13) (v := .agg (vcells X.v)) rfl (by kernel_rfl) (by kernel_rfl) (by kernel_rfl) (fun _ _ _ h => h) (by kernel_rfl) SV (fun _ hu => by kernel_rfl) ?_
                refine held_take (i := 14) (v := .agg (kcells X.k x cx y cy)) rfl (by kernel_rfl) (by kernel_rfl) (by kernel_rfl) (fun _ _ _ h => h) (by kernel_rfl) SV (fun _ hu => by kernel_rfl) ?_
                have S1 := SV.setRow (g := D.heap.size) (fun h => by omega) (vcells X.v)
                refine held_st (i := 17) rfl (by kernel_rfl) (by kernel_rfl) (st_row 44 (.tmp 22) (.tmp 108) rfl (g := D.heap.size) (cells := vcells X.v) (by kernel_rfl) (by kernel_rfl) bA (by kernel_rfl) rfl (by simp [vcells, Value.oneCell'])) S1 ?_
                have bB1 := bB.otherRow (g := D.heap.size) (by omega) (vcells X.v)
                have S2 := S1.setRow (g := vA.heap.size) (fun h => by omega) (kcells X.k x cx y cy)
                refine held_st (i := 18) rfl (by kernel_rfl) (by kernel_rfl) (st_row 56 (.tmp 23) (.tmp 109) rfl (g := vA.heap.size) (cells := kcells X.k x cx y cy) (by kernel_rfl) (by kernel_rfl) bB1 (by kernel_rfl) rfl (by simp [kcells, Value.oneCell'])) S2 ?_
                refine held_done (by kernel_rfl) ?_
                have bA1 := (bA.setRow (vcells X.v)).otherRow (g := vA.heap.size) (by omega) (kcells X.k x cx y cy)
                have bB2 := bB1.setRow (kcells X.k x cx y cy)
                have QF := ((QV.set (b := D.heap.size) zA (by omega) (vcells X.v)).set (b := vA.heap.size) zB (by omega) (kcells X.k x cx y cy)).pickK zK zA zB
                have NF := hDD.trans ((NV.setRow (g := D.heap.size) (fun h => by omega) (vcells X.v)).setRow (g := vA.heap.size) (fun h => by omega) (kcells X.k x cx y cy)) fun _ _ h => h
                go_wp2
                go_meet
                have hX := hX.out
                subst hX
                exact ⟨D.heap.size, vA.heap.size, fr, x, cx, y, cy, rfl, rfl, hby, bA1, bB2, ⟨by omega, by omega, by omega⟩, QF, S2, NF⟩
            · have hB : Below D.heap.size D (D.alloc (.cells #[.slice none 0 0, .slice none 0 0, .int .u64 0, .int .u64 0, .bool false] 56)) := (Below.refl _ _).alloc (Nat.le_refl _) _
              have bB := Blk.new D #[.slice none 0 0, .slice none 0 0, .int .u64 0, .int .u64 0, .bool false] 56
              have mB : D.heap.size < (D.alloc (.cells #[.slice none 0 0, .slice none 0 0, .int .u64 0, .int .u64 0, .bool false] 56)).heap.size := by simp
              generalize D.alloc (.cells #[.slice none 0 0, .slice none 0 0, .int .u64 0, .int .u64 0, .bool false] 56) = vB at *
              have zL := LV.size
              have zD := LD.size
              have LV := Base.next LV hB
              have LD := Base.next LD hB
              have SV : Fr AB wr vB := Fr.of_below LV
              refine held_two (i := 8) (j := 15) (by kernel_rfl) (op_call (i := 8) (f := 14) (args := #[.agg (shC s).toArray, .agg #[.pointer (some a), .pointer (some ⟨b, 0, none⟩)]]) rfl (by kernel_rfl) (by kernel_rfl) ((CF vB LV).mono ?_)) (op_value (i := 15) (v := .pointer (some ⟨vB.heap.size, 0, none⟩)) (w' := vB.alloc (.cells #[.int .i64 0, .int .i64 0, .int .u64 0, .bool false] 44)) rfl (by kernel_rfl) (by kernel_rfl) ⟨SV.alloc _, ?_⟩)
              · rintro e wF ⟨p, n, c, fr, rfl, hfn, hnc, hnm, hby, hrow, LF⟩
                have zF := LF.size
                have zL := LV.size
                have zD := LD.size
                have bB := bB.below LF bB.lt
                have row := hrow.mono (T := fun k => k < w.heap.size ∨ wr.heap.size ≤ k) fun k _ h => h.imp id fun h => (by omega)
                have LV := Base.next LV LF
                have LD := Base.next LD LF
                have SV : Fr AB wr wF := Fr.of_below LV
                refine ⟨_, rfl, SV, ?_⟩
                refine held_two (i := 11) (j := 15) (by kernel_rfl) (op_call (i := 11) (f := 18) (args := #[.pointer (some gp), .pointer (some a), .slice p n c, .int .u64 (t : Int)]) rfl (by kernel_rfl) (by kernel_rfl) ((CT wF LV p n c fr hfn hnc hnm hby row).mono ?_)) (op_value (i := 15) (v := .pointer (some ⟨wF.heap.size, 0, none⟩)) (w' := wF.alloc (.cells #[.int .i64 0, .int .i64 0, .int .u64 0, .bool false] 44)) rfl (by kernel_rfl) (by kernel_rfl) ⟨SV.alloc _, ?_⟩)
                · rintro e wT ⟨x, cx, y, cy, Yf, rfl, hrw, QV, FT⟩
                  have zT' := FT.size
                  have zL := LV.size
                  have zD := LD.size
                  have lB := bB.lt
                  have zB : (fun k => (fun k => k = nb) k ∨ (wr.heap.size ≤ k ∧ k < wF.heap.size)) (D.heap.size) := .inr ⟨by omega, lB⟩
                  have bB := bB.kept FT (fun h => h (.inr ⟨by omega, lB⟩))
                  have zK : ∀ k, (fun k => k = nb) k → (fun k => (fun k => k = nb) k ∨ (wr.heap.size ≤ k ∧ k < wF.heap.size)) k := fun k h => .inl h
                  have SV := QV.fr
                  have NV : Fr (fun k => k < wr.heap.size) D wT := (Fr.of_below LD : Fr (fun k => k < wr.heap.size) D wF).trans FT (fun k hk h => Nat.lt_of_not_le fun h2 => h (.inr ⟨h2, by omega⟩))
                  clear CT CF
                  generalize hX : takeT G Y.l fr (t : Int) = X at *
                  have hX := Lib.hid hX
                  refine ⟨_, rfl, SV, ?_⟩
                  refine held_take (i := 12) (v := .tuple #[.agg (vcells X.v), .agg (kcells X.k x cx y cy)]) rfl (by kernel_rfl) (by kernel_rfl) (by kernel_rfl) (fun _ _ _ h => h) (by kernel_rfl) SV (fun _ hu => by kernel_rfl) ?_
                  refine held_take (i := 13) (v := .agg (vcells X.v)) rfl (by kernel_rfl) (by kernel_rfl) (by kernel_rfl) (fun _ _ _ h => h) (by kernel_rfl) SV (fun _ hu => by kernel_rfl) ?_
                  refine held_take (i := 14) (v := .agg (kcells X.k x cx y cy)) rfl (by kernel_rfl) (by kernel_rfl) (by kernel_rfl) (fun _ _ _ h => h) (by kernel_rfl) SV (fun _ hu => by kernel_rfl) ?_
                  refine held_one (i := 15) (v := .pointer (some ⟨wT.heap.size, 0, none⟩)) (w' := wT.alloc (.cells #[.int .i64 0, .int .i64 0, .int .u64 0, .bool false] 44)) rfl (by kernel_rfl) (by kernel_rfl) (by kernel_rfl) (SV.alloc _) ?_
                  have hA : Below wT.heap.size wT (wT.alloc (.cells #[.int .i64 0, .int .i64 0, .int .u64 0, .bool false] 44)) := (Below.refl _ _).alloc (Nat.le_refl _) _
                  have bA := Blk.new wT #[.int .i64 0, .int .i64 0, .int .u64 0, .bool false] 44
                  have mA : wT.heap.size < (wT.alloc (.cells #[.int .i64 0, .int .i64 0, .int .u64 0, .bool false] 44)).heap.size := by simp
                  generalize wT.alloc (.cells #[.int .i64 0, .int .i64 0, .int .u64 0, .bool false] 44) = vA at *
                  have bB := bB.below hA bB.lt
                  have zS' := SV.size
                  have zD := NV.size
                  obtain ⟨FA, ZA, QV, zzA, zA⟩ := QV.grow hA (by omega)
                  have zB := zzA _ zB
                  have zK := fun k h => zzA k (zK k h)
                  have NV := NV.trans (T := fun _ => False) (Fr.of_below hA) fun _ _ h => h.elim
                  have SV := QV.fr
                  have S1 := SV.setRow (g := wT.heap.size) (fun h => by omega) (vcells X.v)
                  refine held_st (i := 17) rfl (by kernel_rfl) (by kernel_rfl) (st_row 44 (.tmp 22) (.tmp 108) rfl (g := wT.heap.size) (cells := vcells X.v) (by kernel_rfl) (by kernel_rfl) bA (by kernel_rfl) rfl (by simp [vcells, Value.oneCell'])) S1 ?_
                  have bB1 := bB.otherRow (g := wT.heap.size) (by omega) (vcells X.v)
                  have S2 := S1.setRow (g := D.heap.size) (fun h => by omega) (kcells X.k x cx y cy)
                  refine held_st (i := 18) rfl (by kernel_rfl) (by kernel_rfl) (st_row 56 (.tmp 23) (.tmp 109) rfl (g := D.heap.size) (cells := kcells X.k x cx y cy) (by kernel_rfl) (by kernel_rfl) bB1 (by kernel_rfl) rfl (by simp [kcells, Value.oneCell'])) S2 ?_
                  refine held_done (by kernel_rfl) ?_
                  have bA1 := (bA.setRow (vcells X.v)).otherRow (g := D.heap.size) (by omega) (kcells X.k x cx y cy)
                  have bB2 := bB1.setRow (kcells X.k x cx y cy)
                  have QF := ((QV.set (b := wT.heap.size) zA (by omega) (vcells X.v)).set (b := D.heap.size) zB (by omega) (kcells X.k x cx y cy)).pickK zK zA zB
                  have NF := hDD.trans ((NV.setRow (g := wT.heap.size) (fun h => by omega) (vcells X.v)).setRow (g := D.heap.size) (fun h => by omega) (kcells X.k x cx y cy)) fun _ _ h => h
                  go_wp2
                  go_meet
                  have hX := hX.out
                  subst hX
                  exact ⟨wT.heap.size, D.heap.size, fr, x, cx, y, cy, rfl, rfl, hby, bA1, bB2, ⟨by omega, by omega, by omega⟩, QF, S2, NF⟩
                · have hA : Below wF.heap.size wF (wF.alloc (.cells #[.int .i64 0, .int .i64 0, .int .u64 0, .bool false] 44)) := (Below.refl _ _).alloc (Nat.le_refl _) _
                  have bA := Blk.new wF #[.int .i64 0, .int .i64 0, .int .u64 0, .bool false] 44
                  have mA : wF.heap.size < (wF.alloc (.cells #[.int .i64 0, .int .i64 0, .int .u64 0, .bool false] 44)).heap.size := by simp
                  generalize wF.alloc (.cells #[.int .i64 0, .int .i64 0, .int .u64 0, .bool false] 44) = vA at *
                  have bB := bB.below hA bB.lt
                  have row := row.kept (T := fun _ => False) (Fr.of_below hA) (fun _ _ h => h)
                  have zL := LV.size
                  have zD := LD.size
                  have LV := Base.next LV hA
                  have LD := Base.next LD hA
                  have SV : Fr AB wr vA := Fr.of_below LV
                  refine held_call (i := 11) (f := 18) (args := #[.pointer (some gp), .pointer (some a), .slice p n c, .int .u64 (t : Int)]) rfl (by kernel_rfl) (by kernel_rfl) (by kernel_rfl) ((CT vA LV p n c fr hfn hnc hnm hby row).mono ?_)
                  rintro e wT ⟨x, cx, y, cy, Yf, rfl, hrw, QV, FT⟩
                  have zT' := FT.size
                  have zL := LV.size
                  have zD := LD.size
                  have lA := bA.lt
                  have zA : (fun k => (fun k => k = nb) k ∨ (wr.heap.size ≤ k ∧ k < vA.heap.size)) (wF.heap.size) := .inr ⟨by omega, lA⟩
                  have bA := bA.kept FT (fun h => h (.inr ⟨by omega, lA⟩))
                  have lB := bB.lt
                  have zB : (fun k => (fun k => k = nb) k ∨ (wr.heap.size ≤ k ∧ k < vA.heap.size)) (D.heap.size) := .inr ⟨by omega, lB⟩
                  have bB := bB.kept FT (fun h => h (.inr ⟨by omega, lB⟩))
                  have zK : ∀ k, (fun k => k = nb) k → (fun k => (fun k => k = nb) k ∨ (wr.heap.size ≤ k ∧ k < vA.heap.size)) k := fun k h => .inl h
                  have SV := QV.fr
                  have NV : Fr (fun k => k < wr.heap.size) D wT := (Fr.of_below LD : Fr (fun k => k < wr.heap.size) D vA).trans FT (fun k hk h => Nat.lt_of_not_le fun h2 => h (.inr ⟨h2, by omega⟩))
                  clear CT CF
                  generalize hX : takeT G Y.l fr (t : Int) = X at *
                  have hX := Lib.hid hX
                  refine ⟨_, rfl, SV, ?_⟩
                  refine held_take (i := 12) (v := .tuple #[.agg (vcells X.v), .agg (kcells X.k x cx y cy)]) rfl (by kernel_rfl) (by kernel_rfl) (by kernel_rfl) (fun _ _ _ h => h) (by kernel_rfl) SV (fun _ hu => by kernel_rfl) ?_
                  refine held_take (i := 13) (v := .agg (vcells X.v)) rfl (by kernel_rfl) (by kernel_rfl) (by kernel_rfl) (fun _ _ _ h => h) (by kernel_rfl) SV (fun _ hu => by kernel_rfl) ?_
                  refine held_take (i := 14) (v := .agg (kcells X.k x cx y cy)) rfl (by kernel_rfl) (by kernel_rfl) (by kernel_rfl) (fun _ _ _ h => h) (by kernel_rfl) SV (fun _ hu => by kernel_rfl) ?_
                  have S1 := SV.setRow (g := wF.heap.size) (fun h => by omega) (vcells X.v)
                  refine held_st (i := 17) rfl (by kernel_rfl) (by kernel_rfl) (st_row 44 (.tmp 22) (.tmp 108) rfl (g := wF.heap.size) (cells := vcells X.v) (by kernel_rfl) (by kernel_rfl) bA (by kernel_rfl) rfl (by simp [vcells, Value.oneCell'])) S1 ?_
                  have bB1 := bB.otherRow (g := wF.heap.size) (by omega) (vcells X.v)
                  have S2 := S1.setRow (g := D.heap.size) (fun h => by omega) (kcells X.k x cx y cy)
                  refine held_st (i := 18) rfl (by kernel_rfl) (by kernel_rfl) (st_row 56 (.tmp 23) (.tmp 109) rfl (g := D.heap.size) (cells := kcells X.k x cx y cy) (by kernel_rfl) (by kernel_rfl) bB1 (by kernel_rfl) rfl (by simp [kcells, Value.oneCell'])) S2 ?_
                  refine held_done (by kernel_rfl) ?_
                  have bA1 := (bA.setRow (vcells X.v)).otherRow (g := D.heap.size) (by omega) (kcells X.k x cx y cy)
                  have bB2 := bB1.setRow (kcells X.k x cx y cy)
                  have QF := ((QV.set (b := wF.heap.size) zA (by omega) (vcells X.v)).set (b := D.heap.size) zB (by omega) (kcells X.k x cx y cy)).pickK zK zA zB
                  have NF := hDD.trans ((NV.setRow (g := wF.heap.size) (fun h => by omega) (vcells X.v)).setRow (g := D.heap.size) (fun h => by omega) (kcells X.k x cx y cy)) fun _ _ h => h
                  go_wp2
                  go_meet
                  have hX := hX.out
                  subst hX
                  exact ⟨wF.heap.size, D.heap.size, fr, x, cx, y, cy, rfl, rfl, hby, bA1, bB2, ⟨by omega, by omega, by omega⟩, QF, S2, NF⟩
              · have hA : Below vB.heap.size vB (vB.alloc (.cells #[.int .i64 0, .int .i64 0, .int .u64 0, .bool false] 44)) := (Below.refl _ _).alloc (Nat.le_refl _) _
                have bA := Blk.new vB #[.int .i64 0, .int .i64 0, .int .u64 0, .bool false] 44
                have mA : vB.heap.size < (vB.alloc (.cells #[.int .i64 0, .int .i64 0, .int .u64 0, .bool false] 44)).heap.size := by simp
                generalize vB.alloc (.cells #[.int .i64 0, .int .i64 0, .int .u64 0, .bool false] 44) = vA at *
                have bB := bB.below hA bB.lt
                have zL := LV.size
                have zD := LD.size
                have LV := Base.next LV hA
                have LD := Base.next LD hA
                have SV : Fr AB wr vA := Fr.of_below LV
                refine held_call (i := 8) (f := 14) (args := #[.agg (shC s).toArray, .agg #[.pointer (some a), .pointer (some ⟨b, 0, none⟩)]]) rfl (by kernel_rfl) (by kernel_rfl) (by kernel_rfl) ((CF vA LV).mono ?_)
                rintro e wF ⟨p, n, c, fr, rfl, hfn, hnc, hnm, hby, hrow, LF⟩
                have zF := LF.size
                have zL := LV.size
                have zD := LD.size
                have bA := bA.below LF bA.lt
                have bB := bB.below LF bB.lt
                have row := hrow.mono (T := fun k => k < w.heap.size ∨ wr.heap.size ≤ k) fun k _ h => h.imp id fun h => (by omega)
                have LV := Base.next LV LF
                have LD := Base.next LD LF
                have SV : Fr AB wr wF := Fr.of_below LV
                refine ⟨_, rfl, SV, ?_⟩
                refine held_call (i := 11) (f := 18) (args := #[.pointer (some gp), .pointer (some a), .slice p n c, .int .u64 (t : Int)]) rfl (by kernel_rfl) (by kernel_rfl) (by kernel_rfl) ((CT wF LV p n c fr hfn hnc hnm hby row).mono ?_)
                rintro e wT ⟨x, cx, y, cy, Yf, rfl, hrw, QV, FT⟩
                have zT' := FT.size
                have zL := LV.size
                have zD := LD.size
                have lA := bA.lt
                have zA : (fun k => (fun k => k = nb) k ∨ (wr.heap.size ≤ k ∧ k < wF.heap.size)) (vB.heap.size) := .inr ⟨by omega, lA⟩
                have bA := bA.kept FT (fun h => h (.inr ⟨by omega, lA⟩))
                have lB := bB.lt
                have zB : (fun k => (fun k => k = nb) k ∨ (wr.heap.size ≤ k ∧ k < wF.heap.size)) (D.heap.size) := .inr ⟨by omega, lB⟩
                have bB := bB.kept FT (fun h => h (.inr ⟨by omega, lB⟩))
                have zK : ∀ k, (fun k => k = nb) k → (fun k => (fun k => k = nb) k ∨ (wr.heap.size ≤ k ∧ k < wF.heap.size)) k := fun k h => .inl h
                have SV := QV.fr
                have NV : Fr (fun k => k < wr.heap.size) D wT := (Fr.of_below LD : Fr (fun k => k < wr.heap.size) D wF).trans FT (fun k hk h => Nat.lt_of_not_le fun h2 => h (.inr ⟨h2, by omega⟩))
                clear CT CF
                generalize hX : takeT G Y.l fr (t : Int) = X at *
                have hX := Lib.hid hX
                refine ⟨_, rfl, SV, ?_⟩
                refine held_take (i := 12) (v := .tuple #[.agg (vcells X.v), .agg (kcells X.k x cx y cy)]) rfl (by kernel_rfl) (by kernel_rfl) (by kernel_rfl) (fun _ _ _ h => h) (by kernel_rfl) SV (fun _ hu => by kernel_rfl) ?_
                refine held_take (i := 13) (v := .agg (vcells X.v)) rfl (by kernel_rfl) (by kernel_rfl) (by kernel_rfl) (fun _ _ _ h => h) (by kernel_rfl) SV (fun _ hu => by kernel_rfl) ?_
                refine held_take (i := 14) (v := .agg (kcells X.k x cx y cy)) rfl (by kernel_rfl) (by kernel_rfl) (by kernel_rfl) (fun _ _ _ h => h) (by kernel_rfl) SV (fun _ hu => by kernel_rfl) ?_
                have S1 := SV.setRow (g := vB.heap.size) (fun h => by omega) (vcells X.v)
                refine held_st (i := 17) rfl (by kernel_rfl) (by kernel_rfl) (st_row 44 (.tmp 22) (.tmp 108) rfl (g := vB.heap.size) (cells := vcells X.v) (by kernel_rfl) (by kernel_rfl) bA (by kernel_rfl) rfl (by simp [vcells, Value.oneCell'])) S1 ?_
                have bB1 := bB.otherRow (g := vB.heap.size) (by omega) (vcells X.v)
                have S2 := S1.setRow (g := D.heap.size) (fun h => by omega) (kcells X.k x cx y cy)
                refine held_st (i := 18) rfl (by kernel_rfl) (by kernel_rfl) (st_row 56 (.tmp 23) (.tmp 109) rfl (g := D.heap.size) (cells := kcells X.k x cx y cy) (by kernel_rfl) (by kernel_rfl) bB1 (by kernel_rfl) rfl (by simp [kcells, Value.oneCell'])) S2 ?_
                refine held_done (by kernel_rfl) ?_
                have bA1 := (bA.setRow (vcells X.v)).otherRow (g := D.heap.size) (by omega) (kcells X.k x cx y cy)
                have bB2 := bB1.setRow (kcells X.k x cx y cy)
                have QF := ((QV.set (b := vB.heap.size) zA (by omega) (vcells X.v)).set (b := D.heap.size) zB (by omega) (kcells X.k x cx y cy)).pickK zK zA zB
                have NF := hDD.trans ((NV.setRow (g := vB.heap.size) (fun h => by omega) (vcells X.v)).setRow (g := D.heap.size) (fun h => by omega) (kcells X.k x cx y cy)) fun _ _ h => h
                go_wp2
                go_meet
                have hX := hX.out
                subst hX
                exact ⟨vB.heap.size, D.heap.size, fr, x, cx, y, cy, rfl, rfl, hby, bA1, bB2, ⟨by omega, by omega, by omega⟩, QF, S2, NF⟩
          case rest =>
            obtain ⟨p1, p2, fr2, x2, cx2, y2, cy2, rfl, rfl, hby, bA, bB, ⟨r1', r2', r3'⟩, QF, SF, NF⟩ := hcut
            have hcb3 := cb_take hc ok2 hby (now := (t : Int)) (by omega) (by omega)
            rw [take_late hge] at hcb3 bA QF
            simp only [vcells, lateT] at bA
            have a0 : wc.cell? ⟨p1, 0, none⟩ = some (.int .i64 1) := bA.cell 0
            have a1 : wc.cell? ⟨p1, 1, none⟩ = some (.int .i64 8) := bA.cell 1
            have a2 : wc.cell? ⟨p1, 2, none⟩ = some (.int .u64 0) := bA.cell 2
            have a3' : wc.cell? ⟨p1, 3, none⟩ = some (.bool false) := bA.cell 3
            have hpl1 := bA.lt
            have hAw : ∀ k, wr.heap.size ≤ k → AB k := fun k hk => hC2 k (by omega)
            have QN := (QF.less (F' := fun k => k = nb) (Z' := fun k => k = nb) (fun k h => .inl h) (fun k h => .inl h) (fun k h => h)).at_ hAw
            have hFn := hF.trans SF fun _ _ h => h
            clear bA bB QF NF
            go_wp2
            all_goals go_roundw
            case rel => exact ⟨t + 1, (lateT G Y.l).g, by omega, by go_num, hge, hgee, by unfold lateT; simp only [hgn]; simp [Int.add_assoc], hcb3, QN, hFn⟩
            case measure => simp only [intOf]; omega
        · have hlI : ¬ (t : Int) < (z4.length : Int) := by omega
          obtain rfl : t = z4.length := by omega
          have l0 := hcb2.l0
          have l1' := hcb2.l1
          have hnbk : ¬ AB nb := hBn _ (by omega) hn3
          have nW := nB.kept hF hnbk
          have n4 : wr.cell? ⟨nb, 4, none⟩ = some (.int .u64 Y.g.n.late) := nW.cell 4
          have f4' := nW.free 4
          have hnl := nW.lt
          go_upto_region 21 with fail
          refine at_world ?_
          intro W1 hU
          obtain ⟨nB1, hf1⟩ : Blk W1 nb #[.int .u64 Y.g.n.mal, .int .u64 Y.g.n.drop, .int .u64 Y.g.n.taken, .int .u64 Y.g.n.chal, .int .u64 (Y.g.n.late + (z4.length : Int))] 52 ∧ Fr (fun k => k = nb) wr W1 := by
            subst hU
            exact ⟨nW.set 4 _, (Fr.refl (fun k => k = nb) wr).setCell (p := ⟨nb, 4, none⟩) (fun _ => rfl) _⟩
          clear hU n4 f4' nW
          have hAw : ∀ k, wr.heap.size ≤ k → AB k := fun k hk => hC2 k (by omega)
          have Q1 := Q.poke hf1 hAw
          have EW := (eZ.kept hF (hBn _ (Nat.le_refl _) (by omega))).kept hf1 (fun h => by omega)
          have AW := (AZ.kept hF hBq).kept hf1 (fun h => by omega)
          have DW := (DZ.kept hF hBk1).kept hf1 (fun h => by omega)
          have TW := T7.kept hf1 (fun h => by omega)
          have rwW := (rwZ.kept hF (fun k hk => hBn k (by omega) (by omega))).kept hf1 (fun k hk h => by omega)
          have hrwW := (hrwZ.kept hF hBe).kept hf1 (fun k hk h => by have := hk.1; omega)
          have rsW := (rsZ.kept hF (fun k hk => hBp k (by omega) (by omega))).kept hf1 (fun k hk h => by omega)
          have M1 : Below w.heap.size w W1 := hL.trans (hf1.toBelow' (B := w.heap.size) hL.size fun k _ h => by have := MZ.size; omega)
          have CE := tri_evidence Q1 hc (by omega)
          rw [hge] at CE
          simp only [ecells, hgee, e3, e4, e5, e6] at CE
          clear eZ AZ DZ T7 rwZ hrwZ rsZ Q hf1 hBn hBe hBp hF TZ
          go_upto_region 22 with (go_at_call 23; refine CE.mono ?_; rintro e W1' ⟨pf, cf, qf, df, A2, rfl, hrf, Q2, hD2, hD3, LE⟩)
          refine at_world ?_
          intro W2 hU
          obtain ⟨fB, hE2⟩ : Blk W2 W1'.heap.size #[.int .u64 7, .int .u64 Y.v.pn, .int .u64 Y.g.e.used, .int .i64 Y.v.why, .slice pf sp.length cf, .slice qf 0 df, .int .u64 tr, .int .u64 a3, .bool false] 65 ∧ Below W1'.heap.size W1' W2 := by
            subst hU
            exact ⟨Blk.new _ _ _, (Below.refl _ _).alloc (Nat.le_refl _) _⟩
          clear hU CE
          have L12 := Base.next LE hE2
          have EV := EW.below L12 EW.lt
          have AV := AW.below L12 AW.lt
          have DV := DW.below L12 DW.lt
          have TV := TW.below L12 TW.lt
          have NV := nB1.below L12 nB1.lt
          have rwV := (rwW.mono (T := fun k => k < W1.heap.size) fun k hk _ => hk).below L12 (fun k h => h)
          have hrwV := hrwW.below L12
          have rsV := (rsW.mono (T := fun k => k < W1.heap.size) fun k hk _ => hk).below L12 (fun k h => h)
          have hrfV := hrf.below hE2
          have QV := Q2.next hE2
          have MV := Base.next M1 L12
          clear EW AW DW TW nB1 rwW hrwW rsW hrf Q2 Q1 hD2 hD3
          have KE := fun V (hV : Below W2.heap.size W2 V) => EV.below hV EV.lt
          have KF := fun V (hV : Below W2.heap.size W2 V) => fB.below hV fB.lt
          have KA := fun V (hV : Below W2.heap.size W2 V) => AV.below hV AV.lt
          have KD := fun V (hV : Below W2.heap.size W2 V) => DV.below hV DV.lt
          have KT := fun V (hV : Below W2.heap.size W2 V) => TV.below hV TV.lt
          have KN := fun V (hV : Below W2.heap.size W2 V) => NV.below hV NV.lt
          have RE := fun V (hV : Below W2.heap.size W2 V) => show V.rangeAt V8.heap.size 0 [.int .u64 7, .int .u64 Y.v.pn, .int .u64 Y.g.e.used, .int .i64 Y.v.why, .slice ea sp.length ec, .slice eb 0 ed, .int .u64 tr, .int .u64 a3, .bool false] from Blk.range (KE V hV) (fun j u hj => by rw [Nat.zero_add]; rcases j with _ | _ | _ | _ | _ | _ | _ | _ | _ | j <;> first | exact hj | simp at hj)
          have RF := fun V (hV : Below W2.heap.size W2 V) => show V.rangeAt W1'.heap.size 0 [.int .u64 7, .int .u64 Y.v.pn, .int .u64 Y.g.e.used, .int .i64 Y.v.why, .slice pf sp.length cf, .slice qf 0 df, .int .u64 tr, .int .u64 a3, .bool false] from Blk.range (KF V hV) (fun j u hj => by rw [Nat.zero_add]; rcases j with _ | _ | _ | _ | _ | _ | _ | _ | _ | j <;> first | exact hj | simp at hj)
          have RD := fun V (hV : Below W2.heap.size W2 V) => show V.rangeAt kb 0 [.slice p sp.length c, .slice none 0 0, .int .u64 tr, .int .u64 a3, .bool false] from Blk.range (KD V hV) (fun j u hj => by rw [Nat.zero_add]; rcases j with _ | _ | _ | _ | _ | j <;> first | exact hj | simp at hj)
          have RK := fun V (hV : Below W2.heap.size W2 V) => show V.rangeAt V8.heap.size 4 [.slice ea sp.length ec, .slice eb 0 ed, .int .u64 tr, .int .u64 a3, .bool false] from Blk.range (KE V hV) (fun j u hj => by rcases j with _ | _ | _ | _ | _ | j <;> first | exact hj | simp at hj)
          have RN := fun V (hV : Below W2.heap.size W2 V) => show V.rangeAt nb 0 [.int .u64 Y.g.n.mal, .int .u64 Y.g.n.drop, .int .u64 Y.g.n.taken, .int .u64 Y.g.n.chal, .int .u64 (Y.g.n.late + (z4.length : Int))] from Blk.range (KN V hV) (fun j u hj => by rw [Nat.zero_add]; rcases j with _ | _ | _ | _ | _ | j <;> first | exact hj | simp at hj)
          have CSE := fun V (hV : Below W2.heap.size W2 V) => ref_same_ev Y.g 1 hcb2 ea eb pf qf ec ed cf df _ _ V (hrwV.below hV) ((e6 ▸ hrfV : Rw _ W2 Y.g.e.ack pf cf qf df).below hV)
          simp only [e3, e4, e5, e6] at CSE
          have CSA := fun V (hV : Below W2.heap.size W2 V) => Ack.ref_same_ack ⟨sp, [], tr, a3, false⟩ ea eb p none sp.length ec 0 ed sp.length c 0 0 V rfl rfl rfl rfl (show sp.length ≤ _ by omega) (Nat.zero_le _) ((e6 ▸ hrwV : Rw _ W2 ⟨sp, [], tr, a3, false⟩ ea ec eb ed).below hV).s.row (Row.nil _ _) (rsV.below hV (fun k h => by have := L12.size; omega)).row (Row.nil _ _)
          simp only at CSA
          have CN := fun V (hV : Below W2.heap.size W2 V) => tri_counts (QV.next hV) hc (by omega)
          simp only [hgn] at CN
          have CAl := fun V (hV : Below W2.heap.size W2 V) => Led.all_any (QV.next hV).led.choose_spec (by omega)
          have LS : Below W2.heap.size W2 W2.drew := Base.drew1 (Below.refl _ _)
          refine held_start (fun v => Below W2.heap.size W2 v) (by kernel_rfl) ?_
          refine held_take (i := 0) (v := .bool true) rfl (by kernel_rfl) (by kernel_rfl) (by kernel_rfl) (fun _ _ _ h => h) (by kernel_rfl) LS (fun _ hu => by kernel_rfl) ?_
          refine held_take (i := 1) (v := .bool true) rfl (by kernel_rfl) (by kernel_rfl) (by kernel_rfl) (fun _ _ _ h => h) (by kernel_rfl) LS (fun _ hu => by kernel_rfl) ?_
          refine held_take (i := 2) (v := .agg #[.int .u64 7, .int .u64 Y.v.pn, .int .u64 Y.g.e.used, .int .i64 Y.v.why, .slice ea sp.length ec, .slice eb 0 ed, .int .u64 tr, .int .u64 a3, .bool false]) rfl (by kernel_rfl) (by kernel_rfl) (by kernel_rfl) (fun _ _ _ h => h) (by kernel_rfl) LS (fun _ hu => by exact lb_mid 65 (.tmp 17) rfl (by kernel_rfl) (RE _ hu) Tryz.underlying65 rfl (by kernel_rfl)) ?_
          refine held_take (i := 3) (v := .agg #[.int .u64 7, .int .u64 Y.v.pn, .int .u64 Y.g.e.used, .int .i64 Y.v.why, .slice pf sp.length cf, .slice qf 0 df, .int .u64 tr, .int .u64 a3, .bool false]) rfl (by kernel_rfl) (by kernel_rfl) (by kernel_rfl) (fun _ _ _ h => h) (by kernel_rfl) LS (fun _ hu => by exact lb_mid 65 (.tmp 24) rfl (by kernel_rfl) (RF _ hu) Tryz.underlying65 rfl (by kernel_rfl)) ?_
          refine held_call (i := 4) (f := 24) (args := #[.agg #[.int .u64 7, .int .u64 Y.v.pn, .int .u64 Y.g.e.used, .int .i64 Y.v.why, .slice ea sp.length ec, .slice eb 0 ed, .int .u64 tr, .int .u64 a3, .bool false], .agg #[.int .u64 7, .int .u64 Y.v.pn, .int .u64 Y.g.e.used, .int .i64 Y.v.why, .slice pf sp.length cf, .slice qf 0 df, .int .u64 tr, .int .u64 a3, .bool false]]) rfl (by kernel_rfl) (by kernel_rfl) (by kernel_rfl) ((CSE _ LS).mono ?_)
          rintro e y1 ⟨rfl, LN⟩
          replace LS := LS.trans (LN.mono LS.size)
          refine ⟨_, rfl, LS, ?_⟩
          refine held_take (i := 5) (v := .bool true) rfl (by kernel_rfl) (by kernel_rfl) (by kernel_rfl) (fun _ _ _ h => h) (by kernel_rfl) LS (fun _ hu => by kernel_rfl) ?_
          refine held_take (i := 6) (v := .bool true) rfl (by kernel_rfl) (by kernel_rfl) (by kernel_rfl) (fun _ _ _ h => h) (by kernel_rfl) LS (fun _ hu => by kernel_rfl) ?_
          refine held_take (i := 7) (v := .pointer (some ⟨V8.heap.size, 0, none⟩)) rfl (by kernel_rfl) (by kernel_rfl) (by kernel_rfl) (fun _ _ _ h => h) (by kernel_rfl) LS (fun _ hu => by kernel_rfl) ?_
          refine held_take (i := 8) (v := .int .u64 7) rfl (by kernel_rfl) (by kernel_rfl) (by kernel_rfl) (fun _ _ _ h => h) (by kernel_rfl) LS (fun _ hu => by exact lb_any 23 (.tmp 132) rfl (by kernel_rfl) (by kernel_rfl) ((KE _ hu).cell 0)) ?_
          refine held_take (i := 9) (v := .bool true) rfl (by kernel_rfl) (by kernel_rfl) (by kernel_rfl) (fun _ _ _ h => h) (by kernel_rfl) LS (fun _ hu => by exact eq_same .u64 23 (.tmp 133) (.const (.int .u64 7)) (n := 7) rfl (by kernel_rfl) rfl Tryz.underlying23) ?_
          refine held_take (i := 10) (v := .bool true) rfl (by kernel_rfl) (by kernel_rfl) (by kernel_rfl) (fun _ _ _ h => h) (by kernel_rfl) LS (fun _ hu => by kernel_rfl) ?_
          refine held_take (i := 11) (v := .bool true) rfl (by kernel_rfl) (by kernel_rfl) (by kernel_rfl) (fun _ _ _ h => h) (by kernel_rfl) LS (fun _ hu => by kernel_rfl) ?_
          refine held_take (i := 12) (v := .pointer (some ⟨V8.heap.size, 3, none⟩)) rfl (by kernel_rfl) (by kernel_rfl) (by kernel_rfl) (fun _ _ _ h => h) (by kernel_rfl) LS (fun _ hu => by kernel_rfl) ?_
          refine held_take (i := 13) (v := .int .i64 Y.v.why) rfl (by kernel_rfl) (by kernel_rfl) (by kernel_rfl) (fun _ _ _ h => h) (by kernel_rfl) LS (fun _ hu => by exact lb_any 3 (.tmp 137) rfl (by kernel_rfl) (by kernel_rfl) ((KE _ hu).cell 3)) ?_
          refine held_take (i := 14) (v := .pointer (some ⟨q1, 1, none⟩)) rfl (by kernel_rfl) (by kernel_rfl) (by kernel_rfl) (fun _ _ _ h => h) (by kernel_rfl) LS (fun _ hu => by kernel_rfl) ?_
          refine held_take (i := 15) (v := .int .i64 Y.v.why) rfl (by kernel_rfl) (by kernel_rfl) (by kernel_rfl) (fun _ _ _ h => h) (by kernel_rfl) LS (fun _ hu => by exact lb_any 3 (.tmp 139) rfl (by kernel_rfl) (by kernel_rfl) ((KA _ hu).cell 1)) ?_
          refine held_take (i := 16) (v := .bool true) rfl (by kernel_rfl) (by kernel_rfl) (by kernel_rfl) (fun _ _ _ h => h) (by kernel_rfl) LS (fun _ hu => by exact eq_same .i64 3 (.tmp 138) (.tmp 140) (n := Y.v.why) rfl (by kernel_rfl) (by kernel_rfl) Tryz.underlying3) ?_
          refine held_take (i := 17) (v := .bool true) rfl (by kernel_rfl) (by kernel_rfl) (by kernel_rfl) (fun _ _ _ h => h) (by kernel_rfl) LS (fun _ hu => by kernel_rfl) ?_
          refine held_take (i := 18) (v := .bool true) rfl (by kernel_rfl) (by kernel_rfl) (by kernel_rfl) (fun _ _ _ h => h) (by kernel_rfl) LS (fun _ hu => by kernel_rfl) ?_
          refine held_take (i := 19) (v := .pointer (some ⟨V8.heap.size, 1, none⟩)) rfl (by kernel_rfl) (by kernel_rfl) (by kernel_rfl) (fun _ _ _ h => h) (by kernel_rfl) LS (fun _ hu => by kernel_rfl) ?_
          refine held_take (i := 20) (v := .int .u64 Y.v.pn) rfl (by kernel_rfl) (by kernel_rfl) (by kernel_rfl) (fun _ _ _ h => h) (by kernel_rfl) LS (fun _ hu => by exact lb_any 23 (.tmp 144) rfl (by kernel_rfl) (by kernel_rfl) ((KE _ hu).cell 1)) ?_
          refine held_take (i := 21) (v := .pointer (some ⟨q1, 2, none⟩)) rfl (by kernel_rfl) (by kernel_rfl) (by kernel_rfl) (fun _ _ _ h => h) (by kernel_rfl) LS (fun _ hu => by kernel_rfl) ?_
          refine held_take (i := 22) (v := .int .u64 Y.v.pn) rfl (by kernel_rfl) (by kernel_rfl) (by kernel_rfl) (fun _ _ _ h => h) (by kernel_rfl) LS (fun _ hu => by exact lb_any 23 (.tmp 146) rfl (by kernel_rfl) (by kernel_rfl) ((KA _ hu).cell 2)) ?_
          refine held_take (i := 23) (v := .bool true) rfl (by kernel_rfl) (by kernel_rfl) (by kernel_rfl) (fun _ _ _ h => h) (by kernel_rfl) LS (fun _ hu => by exact eq_same .u64 23 (.tmp 145) (.tmp 147) (n := Y.v.pn) rfl (by kernel_rfl) (by kernel_rfl) Tryz.underlying23) ?_
          refine held_take (i := 24) (v := .bool true) rfl (by kernel_rfl) (by kernel_rfl) (by kernel_rfl) (fun _ _ _ h => h) (by kernel_rfl) LS (fun _ hu => by kernel_rfl) ?_
          refine held_take (i := 25) (v := .bool true) rfl (by kernel_rfl) (by kernel_rfl) (by kernel_rfl) (fun _ _ _ h => h) (by kernel_rfl) LS (fun _ hu => by kernel_rfl) ?_
          refine held_take (i := 26) (v := .pointer (some ⟨V8.heap.size, 4, none⟩)) rfl (by kernel_rfl) (by kernel_rfl) (by kernel_rfl) (fun _ _ _ h => h) (by kernel_rfl) LS (fun _ hu => by kernel_rfl) ?_
          refine held_take (i := 27) (v := .agg #[.slice ea sp.length ec, .slice eb 0 ed, .int .u64 tr, .int .u64 a3, .bool false]) rfl (by kernel_rfl) (by kernel_rfl) (by kernel_rfl) (fun _ _ _ h => h) (by kernel_rfl) LS (fun _ hu => by exact lb_mid 56 (.tmp 151) rfl (by kernel_rfl) (RK _ hu) Tryz.underlying56 rfl (by kernel_rfl)) ?_
          refine held_take (i := 28) (v := .agg #[.slice p sp.length c, .slice none 0 0, .int .u64 tr, .int .u64 a3, .bool false]) rfl (by kernel_rfl) (by kernel_rfl) (by kernel_rfl) (fun _ _ _ h => h) (by kernel_rfl) LS (fun _ hu => by exact lb_mid 56 (.tmp 14) rfl (by kernel_rfl) (RD _ hu) Tryz.underlying56 rfl (by kernel_rfl)) ?_
          refine held_call (i := 29) (f := 25) (args := #[.agg #[.slice ea sp.length ec, .slice eb 0 ed, .int .u64 tr, .int .u64 a3, .bool false], .agg #[.slice p sp.length c, .slice none 0 0, .int .u64 tr, .int .u64 a3, .bool false]]) rfl (by kernel_rfl) (by kernel_rfl) (by kernel_rfl) ((CSA _ LS).mono ?_)
          rintro e y2 ⟨rfl, LN⟩
          replace LS := LS.trans (LN.mono LS.size)
          refine ⟨_, rfl, LS, ?_⟩
          refine held_take (i := 30) (v := .bool true) rfl (by kernel_rfl) (by kernel_rfl) (by kernel_rfl) (fun _ _ _ h => h) (by kernel_rfl) LS (fun _ hu => by kernel_rfl) ?_
          refine held_take (i := 31) (v := .bool true) rfl (by kernel_rfl) (by kernel_rfl) (by kernel_rfl) (fun _ _ _ h => h) (by kernel_rfl) LS (fun _ hu => by kernel_rfl) ?_
          refine held_take (i := 32) (v := .pointer (some gp)) rfl (by kernel_rfl) (by kernel_rfl) (by kernel_rfl) (fun _ _ _ h => h) (by kernel_rfl) LS (fun _ hu => by kernel_rfl) ?_
          refine held_take (i := 34) (v := .agg #[.int .u64 Y.g.n.mal, .int .u64 Y.g.n.drop, .int .u64 Y.g.n.taken, .int .u64 Y.g.n.chal, .int .u64 (Y.g.n.late + (z4.length : Int))]) rfl (by kernel_rfl) (by kernel_rfl) (by kernel_rfl) (fun _ _ _ h => h) (by kernel_rfl) LS (fun _ hu => by exact lb_mid 52 (.tmp 20) rfl (by kernel_rfl) (RN _ hu) Tryz.underlying52 rfl (by kernel_rfl)) ?_
          refine held_call (i := 33) (f := 17) (args := #[.pointer (some gp)]) rfl (by kernel_rfl) (by kernel_rfl) (by kernel_rfl) ((CN _ LS).mono ?_)
          rintro e y3 ⟨rfl, LN⟩
          replace LS := LS.trans (LN.mono LS.size)
          refine ⟨_, rfl, LS, ?_⟩
          refine held_take (i := 35) (v := .bool true) rfl (by kernel_rfl) (by kernel_rfl) (by kernel_rfl) (fun _ _ _ h => h) (by kernel_rfl) LS (fun _ hu => by exact eq_cnt (.tmp 158) (.tmp 159) (a := Y.g.n.mal) (b := Y.g.n.drop) (c := Y.g.n.taken) (d := Y.g.n.chal) (e := Y.g.n.late + (z4.length : Int)) rfl (by kernel_rfl) (by kernel_rfl)) ?_
          refine held_take (i := 36) (v := .bool true) rfl (by kernel_rfl) (by kernel_rfl) (by kernel_rfl) (fun _ _ _ h => h) (by kernel_rfl) LS (fun _ hu => by kernel_rfl) ?_
          refine held_take (i := 37) (v := .bool true) rfl (by kernel_rfl) (by kernel_rfl) (by kernel_rfl) (fun _ _ _ h => h) (by kernel_rfl) LS (fun _ hu => by kernel_rfl) ?_
          refine held_take (i := 38) (v := .slice pw (allS Y.l).length cw) rfl (by kernel_rfl) (by kernel_rfl) (by kernel_rfl) (fun _ _ _ h => h) (by kernel_rfl) LS (fun _ hu => by kernel_rfl) ?_
          refine held_take (i := 39) (v := .pointer (some ⟨tb, 0, none⟩)) rfl (by kernel_rfl) (by kernel_rfl) (by kernel_rfl) (fun _ _ _ h => h) (by kernel_rfl) LS (fun _ hu => by kernel_rfl) ?_
          refine held_take (i := 40) (v := .pointer (some a)) rfl (by kernel_rfl) (by kernel_rfl) (by kernel_rfl) (fun _ _ _ h => h) (by kernel_rfl) LS (fun _ hu => by exact lb_any 25 (.tmp 164) rfl (by kernel_rfl) (by kernel_rfl) ((KT _ hu).cell 0)) ?_
          refine held_call (i := 41) (f := 16) (args := #[.pointer (some a)]) rfl (by kernel_rfl) (by kernel_rfl) (by kernel_rfl) ((CAl _ LS).mono ?_)
          rintro e y4 ⟨pz, cz, rfl, hz1, hz2, rz, LN⟩
          replace LS := LS.trans (LN.mono LS.size)
          refine ⟨_, rfl, LS, ?_⟩
          have hal : (allS Y.l).length ≤ 1000000 := by
            unfold allS
            rw [List.length_drop]
            omega
          have CSm := ref_same pw pz (allS Y.l).length cw cz (allS Y.l) y4 rfl hal (rwV.below LS (fun k h => by have := L12.size; omega)).row rz.row
          refine held_call (i := 42) (f := 19) (args := #[.slice pw (allS Y.l).length cw, .slice pz (allS Y.l).length cz]) rfl (by kernel_rfl) (by kernel_rfl) (by kernel_rfl) ((CSm).mono ?_)
          rintro e y5 ⟨rfl, LN⟩
          replace LS := LS.trans (LN.mono LS.size)
          refine ⟨_, rfl, LS, ?_⟩
          refine held_take (i := 43) (v := .bool true) rfl (by kernel_rfl) (by kernel_rfl) (by kernel_rfl) (fun _ _ _ h => h) (by kernel_rfl) LS (fun _ hu => by kernel_rfl) ?_
          refine held_take (i := 44) (v := .bool true) rfl (by kernel_rfl) (by kernel_rfl) (by kernel_rfl) (fun _ _ _ h => h) (by kernel_rfl) LS (fun _ hu => by kernel_rfl) ?_
          refine held_end 10 (.bool true) (by kernel_rfl) (by kernel_rfl) (by kernel_rfl) fun a' hd hv => ?_
          have MF := Base.next MV LS
          go_wp2
          refine bodyPost_ret (results_tmp rfl _ _ _) hd ?_
          rw [hv]
          exact ⟨rfl, MF⟩

set_option maxRecDepth 100000 in
theorem lifted (os : Os) (started : os.Started) (H : Type) (enc : TypeId × Value → H) :
    ReturnsInHanded {} Tryz.checked os 5 .any (Rows.guardEndsSpec.pre6 enc Tryz.prog Tryz.f5 Rows.guardEndsRow.domain false) (Rows.guardEndsSpec.post enc Tryz.prog Tryz.f5 false true false false) := by
  refine returnsInHanded_of_change (C := Tryz.checked) own started (by kernel_rfl) Tryz.func5
    (ChangeSpec.witness6 (enc := enc) (C := Tryz.checked) false ⟨#[], #[.int .u8 0, .slice none 0 0, .agg #[.int .u16 0, .int .u16 0, .int .u16 0, .int .u16 0], .int .u64 0, .slice none 0 0], []⟩ 8 (by kernel_rfl) (by kernel_rfl) (by kernel_rfl) (by kernel_rfl)) ?_
  intro W base args ds gs before hval0 hW hcnd _
  have hval : ∀ (j : Nat) t v, Tryz.f5.params[j]? = some t → args[j]? = some v → Value.okWide Tryz.prog W .any base t v := hval0
  have hW' := hW
  obtain ⟨p, q, hA0, hV, rfl, hfz, hnd⟩ := hW
  have hA : DataW.TrodAll enc Tryz.prog W 0 (fun _ => true) true Tryz.f5.params.toList args.toList ds p := hA0
  rw [Tryz.params5] at hA hval
  obtain ⟨v0, vs0, d0, ds0, p0, q0, hargs, rfl, rfl, h0, r0⟩ := trodAll_cons hA
  obtain ⟨v1, vs1, d1, ds1, p1, q1, rfl, rfl, rfl, h1, r1⟩ := trodAll_cons r0
  obtain ⟨v2, vs2, d2, ds2, p2, q2, rfl, rfl, rfl, h2, r2⟩ := trodAll_cons r1
  obtain ⟨v3, vs3, d3, ds3, p3, q3, rfl, rfl, rfl, h3, r3⟩ := trodAll_cons r2
  obtain ⟨v4, vs4, d4, ds4, p4, q4, rfl, rfl, rfl, h4, r4⟩ := trodAll_cons r3
  obtain ⟨rfl, rfl, rfl⟩ := trodAll_nil r4
  obtain rfl : args = #[v0, v1, v2, v3, v4] := by cases args; simp_all
  obtain ⟨rfl, rfl⟩ := trodVars_none hV
  obtain ⟨a0, rfl, rfl, rfl, w0⟩ := open_int Tryz.underlying5 (hval 0 5 v0 rfl rfl) h0
  obtain ⟨a1, len1, cap1, rfl⟩ := okWide_slice Tryz.underlying22 (hval 1 22 v1 rfl rfl)
  have k1 := h1
  have lt1 : ∀ x ∈ p1, x.block < W.heap.size := by obtain ⟨m, hm⟩ := k1; exact DataW.trod_lt m _ _ _ hm
  obtain ⟨z1, w1, n1, m1, o1, f1⟩ : ∃ zs, Deeds W a1 zs ∧ zs.length = len1 ∧ len1 ≤ cap1 ∧ cap1 ≤ maxLen ∧ (∀ d ∈ zs, Fit d) := by
    obtain ⟨fuel, hf⟩ := h1
    rcases open_deeds Tryz.underlying22 Tryz.underlying90 (by kernel_rfl) (by kernel_rfl) Tryz.underlying3 Tryz.underlying23 Tryz.underlying23 hf with ⟨hcs, hx⟩ | ⟨x, l, c, zs, E, S, hcs, hl, hm, hz, hx, hE, hS, hsp, hwz⟩
    · simp [Value.cells] at hcs
      obtain ⟨rfl, rfl, rfl⟩ := hcs
      exact ⟨[], Deeds.nil _ _, rfl, Nat.le_refl _, Nat.zero_le _, fun _ h => by cases h⟩
    · simp [Value.cells] at hcs
      obtain ⟨rfl, rfl, rfl⟩ := hcs
      exact ⟨zs, hsp, hz, hl, hm, hwz⟩
  have k2 := h2
  have lt2 : ∀ x ∈ p2, x.block < W.heap.size := by obtain ⟨m, hm⟩ := k2; exact DataW.trod_lt m _ _ _ hm
  obtain ⟨c20, c21, c22, c23, rfl, w2⟩ := open_quad Tryz.underlying40 Tryz.underlying39 (by kernel_rfl) (by kernel_rfl) (by kernel_rfl) (hval 2 40 v2 rfl rfl) h2
  obtain ⟨a3, rfl, rfl, rfl, w3⟩ := open_int Tryz.underlying23 (hval 3 23 v3 rfl rfl) h3
  obtain ⟨a4, len4, cap4, rfl⟩ := okWide_slice Tryz.underlying24 (hval 4 24 v4 rfl rfl)
  have k4 := h4
  have lt4 : ∀ x ∈ p4, x.block < W.heap.size := by obtain ⟨m, hm⟩ := k4; exact DataW.trod_lt m _ _ _ hm
  obtain ⟨z4, w4, n4, m4, o4, f4⟩ : ∃ zs, Shots W a4 zs ∧ zs.length = len4 ∧ len4 ≤ cap4 ∧ cap4 ≤ maxLen ∧ (∀ d ∈ zs, ShFit W d) := by
    obtain ⟨fuel, hf⟩ := h4
    rcases open_shots Tryz.underlying24 Tryz.underlying42 (by kernel_rfl) (by kernel_rfl) Tryz.underlying3 Tryz.underlying38 Tryz.underlying5 (by kernel_rfl) Tryz.underlying40 Tryz.underlying39 (by kernel_rfl) Tryz.underlying23 Tryz.underlying4 Tryz.underlying39 hf with ⟨hcs, hx⟩ | ⟨x, l, c, zs, hcs, hl, hm, hz, hsp, hwz⟩
    · simp [Value.cells] at hcs
      obtain ⟨rfl, rfl, rfl⟩ := hcs
      exact ⟨[], Shots.nil _ _, rfl, Nat.le_refl _, Nat.zero_le _, fun _ h => by cases h⟩
    · simp [Value.cells] at hcs
      obtain ⟨rfl, rfl, rfl⟩ := hcs
      exact ⟨zs, hsp, hz, hl, hm, hwz⟩
  clear hA0 hval0
  refine (walk a0 a1 len1 cap1 z1 c20 c21 c22 c23 a3 a4 len4 cap4 z4 W w0 w1 n1 m1 o1 f1 w2 w3 w4 n4 m4 o4 f4).mono fun e W' ⟨he, bel⟩ => ?_
  subst he
  exact ⟨_, rfl, _, _, _, [], _, [], hW', trodAll_mk1 (shut_bool Tryz.underlying4 _), (trodAll_cons_mk (shut_int Tryz.underlying5 w0) (trodAll_cons_mk (Below.trod laidOut (by kernel_rfl) (of_decide_eq_true (by kernel_rfl)) k1 bel lt1) (trodAll_cons_mk (Below.trod laidOut (by kernel_rfl) (of_decide_eq_true (by kernel_rfl)) k2 bel lt2) (trodAll_cons_mk (shut_int Tryz.underlying23 w3) (trodAll_cons_mk (Below.trod laidOut (by kernel_rfl) (of_decide_eq_true (by kernel_rfl)) k4 bel lt4) trodAll_mk0))))), rfl, bel.frame _, fun h => by cases h⟩

theorem over : Rows.guardEndsRow.holds Tryz.pinned (OpenSpec.ofChange Rows.guardEndsSpec) :=
  OpenClaim.holds_of_wide 5 Tryz.f5 rfl rfl rfl rfl rfl rfl rfl ⟨rfl, rfl, rfl, rfl, rfl⟩ rfl rfl rfl rfl rfl (by kernel_rfl) Tryz.func5 (by kernel_rfl)
    (of_decide_eq_true (by kernel_rfl)) (by unfold Func.isWrapper; first | (rw [if_pos (by decide +kernel)]; kernel_rfl) | (rw [if_neg (by decide +kernel)]; exact ⟨rfl, rfl⟩))
    (fun os started H enc _ => lifted os started H enc)

/-- The given statement. -/
theorem proved : Rows.GuardEndsSaid :=
  over
#print axioms proved
end Go.Proofs.YtkiloaebokkjbaaGreat.guardEnds
