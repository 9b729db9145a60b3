/-
  A frame that is dropped leaves the ledger as it was and changes one count, and challenges by one at most. No conditions.
-/
import Derived.Test.YtkiloaebokkjbaaGreatM1
import Derived.Test.YtkiloaebokkjbaaGreatRows
import Derived.Test.YtkiloaebokkjbaaGreatRow
import Derived.WalkKit
import Derived.ProofKit
import Derived.OpenShut
import Derived.ShutString
import Derived.ChangeOld
import Derived.Below
import Derived.Test.YtkiloaebokkjbaaGreatGuardStep
import Derived.Test.YtkiloaebokkjbaaGreatM6
namespace Go.Proofs.YtkiloaebokkjbaaGreat.guardDrops
open Go.ChangeShapes Go.WideShapes Go.ChangeAt Go.RowKit
open Go.ChangeMaps (open_string shut_string)
open Go.Proofs.YtkiloaebokkjbaaGreat.Base
set_option linter.unusedVariables false
set_option linter.unusedSimpArgs false

theorem own : ownKnob Tryz.prog.godebug = none := by kernel_rfl
theorem laidOut : laidOutB Tryz.prog = true := by kernel_rfl

open Go.Proofs.YtkiloaebokkjbaaGreat.BudPlain
open Go.Proofs.YtkiloaebokkjbaaGreat.Led Go.Proofs.YtkiloaebokkjbaaGreat.LedPlain Go.Proofs.YtkiloaebokkjbaaGreat.GuardPlain Go.Proofs.YtkiloaebokkjbaaGreat.Guard
set_option maxHeartbeats 4000000 in
set_option maxRecDepth 20000 in
theorem walk (a0 : Int) (a1 : Option Addr) (len1 cap1 : Nat) (z1 : List Dd) (a2 : Int) (a3 : Option Addr) (len3 cap3 : Nat) (z3 : List Sh) (w : World) (w0 : (Lit.int .u8 a0).wf = true) (w1 : Deeds w a1 z1) (n1 : z1.length = len1) (m1 : len1 ≤ cap1) (o1 : cap1 ≤ maxLen) (f1 : ∀ d ∈ z1, Fit d) (w2 : (Lit.int .u8 a2).wf = true) (w3 : Shots w a3 z3) (n3 : z3.length = len3) (m3 : len3 ≤ cap3) (o3 : cap3 ≤ maxLen) (f3 : ∀ d ∈ z3, ShFit w d) :
    Calls Tryz.prog 4 #[.int .u8 a0, .slice a1 len1 cap1, .int .u8 a2, .slice a3 len3 cap3] w fun e w' => e = .returned (.bool true) ∧ Below w.heap.size w w' := by
  obtain ⟨p0, p1⟩ := Base.u8_of w0
  obtain ⟨i0, i1⟩ := Base.u8_of w2
  subst n1
  subst n3
  unfold maxLen at o3
  have CM := make_any (a0 % 40) 4611686018427387903 (by omega) (by omega) (by decide) (by decide) a1 z1.length cap1 z1 w rfl m1 o1 f1 w1
  have hgl := made_len (a0 % 40) 4611686018427387903 z1
  generalize madeG (a0 % 40) 4611686018427387903 z1 = g0 at *
  have CG := fun V => Guard.new_any (a2 % 5) 50 (by omega) (by omega) (by decide) (by decide) V
  have CA := fun V => alive_guard V
  have hcb := cb_new (a2 % 5) 50 (by decide) (by decide)
  generalize newD (a2 % 5) 50 = d0 at *
  go_enter Tryz.func4, Tryz.ntmps4
  go_upto_region 2 with (go_at_call 9; refine CM.mono ?_; rintro e u1 ⟨a, b, S, rfl, P1, hS, L1⟩)
  refine at_world ?_
  intro U2 hU
  have s1 := L1.size
  obtain ⟨T2, P2, M2, q2⟩ : Blk U2 u1.heap.size #[.pointer (some a), .pointer (some ⟨b, 0, none⟩)] 28 ∧ Pair S U2 a b g0 ∧ Below w.heap.size w U2 ∧ U2.heap.size = u1.heap.size + 1 := by
    subst hU
    exact ⟨Blk.new _ _ _, P1.below ((Below.refl _ _).alloc (Nat.le_refl _) _), L1.alloc L1.size _, by simp⟩
  have hSl : ∀ k, S k → w.heap.size ≤ k ∧ k < u1.heap.size := fun k hk => ⟨hS k hk, P1.lt k hk⟩
  clear hU P1 L1 hS CM
  go_upto_region 3 with (go_at_call 10; refine (CG U2).mono ?_; rintro e U ⟨gp, rfl, G3, L3⟩)
  have s3 := L3.size
  have T5 := T2.below L3 T2.lt
  have M5 := Base.next M2 L3
  have Q5 : Tri (fun k => w.heap.size ≤ k ∧ k ≠ u1.heap.size) (fun _ => False) (fun _ => False) U U a b gp g0 g0 d0 :=
    Tri.make (P2.below L3) G3 (fun k hk => by have := hSl k hk; omega) (fun k hk => by omega) (fun k hk h => by have := hSl k h; omega)
  have hbU : u1.heap.size < U.heap.size := by omega
  clear G3 L3 CG P2 M2 T2 s3 q2 hSl
  generalize u1.heap.size = tb at *
  have hA0 : ∀ k, (fun k => w.heap.size ≤ k ∧ k ≠ tb) k → w.heap.size ≤ k := fun k h => h.1
  have hA1 : ∀ k, (fun k => w.heap.size ≤ k ∧ k ≠ tb) k → k ≠ tb := fun k h => h.2
  have hA2 : ∀ k, w.heap.size ≤ k → k ≠ tb → (fun k => w.heap.size ≤ k ∧ k ≠ tb) k := fun k h1 h2 => ⟨h1, h2⟩
  generalize (fun k => w.heap.size ≤ k ∧ k ≠ tb) = AA at *
  have hwU := M5.size
  by_cases h30 : 30 < z3.length
  · have h30I : (30 : Int) < (z3.length : Int) := by omega
    go_wp2_with (first
      | (go_at_call 12; (with_reducible refine (CA U).mono ?_); rintro e u5 ⟨rfl, L5⟩; have M6 := Base.next M5 L5)
      | (go_at_call 12; (with_reducible refine (CA u5).mono ?_); rintro e u6 ⟨rfl, L6⟩; have M7 := Base.next M6 L6))
    all_goals go_ret
    all_goals exact ⟨rfl, M7⟩
  · have h30I : (z3.length : Int) ≤ 30 := by omega
    go_wp2_with (go_at_call 12; refine (CA U).mono ?_; rintro e X ⟨rfl, L5⟩; have M6 := Base.next M5 L5)
    have Q6 := (Q5.next L5).at_ fun k hk => hA2 k (by omega) (by omega)
    have hF6 : Fr AA U X := Fr.of_below L5
    clear Q5 CA
    go_loopw [12, 13, 14, 15, 16, 17, 18, 19] (fun nw i _ _ _ _ _ _ wr => ∃ (t : Nat) (now : Int) (g' : Gd) (l' lr : Lg), t ≤ z3.length ∧ i = .int .i64 t ∧ nw = .int .u64 now ∧ 0 ≤ now ∧ now ≤ 65535 * t ∧ Cb g' t ∧ l'.l.length = g0.l.length ∧ (lr = l' ∨ t = z3.length) ∧ Tri AA (fun _ => False) (fun _ => False) wr wr a b gp l' lr g' ∧ Fr AA U wr) (fun _ i _ _ _ _ _ _ _ => z3.length - (intOf i).toNat)
    case atStart => exact ⟨0, 0, d0, g0, g0, Nat.zero_le _, rfl, rfl, Int.le_refl _, by omega, hcb, rfl, .inl rfl, Q6, hF6⟩
    case round =>
      obtain ⟨t, now, g, l, lr, ht, rfl, rfl, h0, h1, hc, hl, hlr, Q, hF⟩ := hrel
      have hL : Below w.heap.size w wr := M5.trans (hF.toBelow' (B := w.heap.size) M5.size fun k _ hk => hA0 k hk)
      have T7 := T5.kept hF (fun h => hA1 _ h rfl)
      have hUw := hF.size
      clear Q6 M6 hF6 L5
      by_cases hlt : t < z3.length
      · obtain rfl : lr = l := hlr.resolve_right (by omega)
        have hlI : (t : Int) < (z3.length : Int) := by omega
        obtain ⟨bz, off, rfl, hbz, ds⟩ := w3.at_ hlt
        have hFit := f3 (z3.getD t sh0) (by simp [List.getD, hlt])
        generalize z3.getD t sh0 = s at *
        have k0 := hFit.w0
        have k1 := hFit.w1
        replace ds : ∀ j x, (shC s)[j]? = some x → wr.cell? ⟨bz, off + t * 9 + j, none⟩ = some x := fun j x hj => by
          rw [hL.cell (p := ⟨bz, off + t * 9 + j, none⟩) hbz]
          exact ds j x hj
        have d8 : wr.cell? ⟨bz, off + t * 9 + 8, none⟩ = some (.int .u16 s.wt) := ds 8 _ rfl
        have hbw : bz < wr.heap.size := Nat.lt_of_lt_of_le hbz hL.size
        have t0 : wr.cell? ⟨tb, 0, none⟩ = some (.pointer (some a)) := T7.cell 0
        have htl := T7.lt
        obtain ⟨SL, hLd⟩ := Q.led
        have C1 := Led.all_any hLd (by omega)
        have C2 := fun V (hV : Below wr.heap.size wr V) => tri_counts (Q.next hV) hc (by omega)
        go_upto_region 11 with (first
          | (go_at_call 16; refine C1.mono ?_; rintro e v1 ⟨pw, cw, rfl, hw1, hw2, rw1, L1⟩)
          | (go_at_call 17; refine (C2 v1 L1).mono ?_; rintro e v2 ⟨rfl, L2⟩))
        refine at_world ?_
        intro w3' hU
        have e1 := L1.size
        have e2 := L2.size
        obtain ⟨nB, rw3, LV3⟩ : Blk w3' v2.heap.size #[.int .u64 g.n.mal, .int .u64 g.n.drop, .int .u64 g.n.taken, .int .u64 g.n.chal, .int .u64 g.n.late] 52 ∧ RowIn (fun k => wr.heap.size ≤ k ∧ k < w3'.heap.size) w3' pw (sents (allS lr)) ∧ Below wr.heap.size wr w3' := by
          subst hU
          have h2 : Below v2.heap.size v2 (v2.alloc (.cells #[.int .u64 g.n.mal, .int .u64 g.n.drop, .int .u64 g.n.taken, .int .u64 g.n.chal, .int .u64 g.n.late] 52)) := (Below.refl _ _).alloc (Nat.le_refl _) _
          have h12 := Base.next L2 h2
          have h3 := h12.size
          exact ⟨Blk.new _ _ _, ((rw1.mono (T := fun k => wr.heap.size ≤ k ∧ k < v1.heap.size) fun k hk h => ⟨h, hk⟩).below h12 (fun k h => h.2)).mono fun k _ h => ⟨h.1, by omega⟩, Base.next L1 h12⟩
        clear hU C1 C2 hLd rw1 L1 L2 t0
        have hn3 := nB.lt
        go_cut [16, 17] from 74 to 87 (fun s1 s2 wx => ∃ (p1 p2 : Nat) (fr : List Int) (x : Option Addr) (cx : Nat) (y : Option Addr) (cy : Nat), s1 = .pointer (some ⟨p1, 0, none⟩) ∧ s2 = .pointer (some ⟨p2, 0, none⟩) ∧ OctPlain.Bytes fr ∧ Blk wx p1 (vcells (takeT g lr fr (now + s.wt)).v) 44 ∧ Blk wx p2 (kcells (takeT g lr fr (now + s.wt)).k x cx y cy) 56 ∧ (w3'.heap.size ≤ p1 ∧ w3'.heap.size ≤ p2 ∧ p1 ≠ p2) ∧ Tri AA (fun k => k = p1 ∨ k = p2) (fun k => k = p1 ∨ k = p2) wr wx a b gp (takeT g lr fr (now + s.wt)).l lr (takeT g lr fr (now + s.wt)).g ∧ Fr AA wr wx ∧ Fr (fun k => k < wr.heap.size) w3' wx)
        case first =>
          have TW := T7
          have LV : Below wr.heap.size wr w3'.drew := Base.next LV3 (Base.drew1 (Below.refl _ _))
          have hDD : Fr (fun k => k < wr.heap.size) w3' w3'.drew := Fr.of_below (Base.drew1 (Below.refl _ _))
          have hDs : w3'.heap.size ≤ w3'.drew.heap.size := Nat.le_refl _
          have hWD := LV.size
          have SV : Fr AA wr w3'.drew := Fr.of_below LV
          have hBk : ∀ k, k < w.heap.size → k < wr.heap.size ∧ ¬ AA k := fun k hk => ⟨by have := hL.size; omega, fun h => by have := hA0 _ h; omega⟩
          have hnow0 : 0 ≤ (now + s.wt) := by omega
          have hnow1 : (now + s.wt) ≤ 18446744073709551615 := by omega
          have hwW := hL.size
          have CF := fun V (hV : Below wr.heap.size wr V) => tri_frame (Q.next hV) (by omega) (Base.next hL hV) hFit
          have CT := fun V (hV : Below wr.heap.size wr V) p n c fr hfn hnc hnm hby (hrow : RowIn (fun k => k < w.heap.size ∨ wr.heap.size ≤ k) V p (fr.map (.int .u8))) => tri_p ((Q.with_ hV (fun k => k < w.heap.size) hBk)) hc (by omega) (by omega) p n c fr hfn hnc hnm hby (fun v hv => RowIn.row ((hrow.mono (T := fun k => k < V.heap.size) fun k hk _ => hk).kept hv fun k hk h => by omega)) (now + s.wt) hnow0 hnow1
          refine held_start (fun v => Fr AA wr v) (by kernel_rfl) ?_
          generalize w3'.drew = D at *
          have LD : Below D.heap.size D D := Below.refl _ _
          have zt0 := fun V (hV : Fr AA wr V) => show V.cell? ⟨tb, 0, none⟩ = some (.pointer (some a)) from (TW.kept hV (fun h => hA1 _ h rfl)).cell 0
          have zT := fun V (hV : Fr AA wr V) => show V.rangeAt tb 0 [.pointer (some a), .pointer (some ⟨b, 0, none⟩)] from Blk.range (TW.kept hV (fun h => hA1 _ h rfl)) (fun j u hj => by rw [Nat.zero_add]; rcases j with _ | _ | j <;> first | exact hj | simp at hj)
          have zS := fun V (hV : Fr AA wr V) => show V.rangeAt bz (off + t * 9) (shC s) from fun j x hj => by
            rw [hV.cell (p := ⟨bz, off + t * 9 + j, none⟩) hbw (fun h => absurd (show w.heap.size ≤ bz from hA0 _ h) (by omega))]
            exact ds j x hj
          refine held_take (i := 0) (v := .pointer (some gp)) rfl (by kernel_rfl) (by kernel_rfl) (by kernel_rfl) (fun _ _ _ h => h) (by kernel_rfl) SV (fun _ hu => by kernel_rfl) ?_
          refine held_take (i := 1) (v := .pointer (some ⟨tb, 0, none⟩)) rfl (by kernel_rfl) (by kernel_rfl) (by kernel_rfl) (fun _ _ _ h => h) (by kernel_rfl) SV (fun _ hu => by kernel_rfl) ?_
          refine held_take (i := 2) (v := .pointer (some a)) rfl (by kernel_rfl) (by kernel_rfl) (by kernel_rfl) (fun _ _ _ h => h) (by kernel_rfl) SV (fun _ hu => by exact lb_any 25 (.tmp 76) rfl (by kernel_rfl) (by kernel_rfl) (zt0 _ hu)) ?_
          refine held_take (i := 3) (v := .slice (some ⟨bz, off, none⟩) z3.length cap3) rfl (by kernel_rfl) (by kernel_rfl) (by kernel_rfl) (fun _ _ _ h => h) (by kernel_rfl) SV (fun _ hu => by kernel_rfl) ?_
          refine held_take (i := 4) (v := .int .i64 t) rfl (by kernel_rfl) (by kernel_rfl) (by kernel_rfl) (fun _ _ _ h => h) (by kernel_rfl) SV (fun _ hu => by kernel_rfl) ?_
          refine held_take (i := 5) (v := .pointer (some ⟨bz, off + t * 9, none⟩)) rfl (by kernel_rfl) (by kernel_rfl) (by kernel_rfl) (fun _ _ _ h => h) (by kernel_rfl) SV (fun _ hu => by exact ix_shots (.tmp 78) (.tmp 79) (n := z3.length) (cap := cap3) rfl (by kernel_rfl) (by kernel_rfl) hlt) ?_
          refine held_take (i := 6) (v := .agg (shC s).toArray) rfl (by kernel_rfl) (by kernel_rfl) (by kernel_rfl) (fun _ _ _ h => h) (by kernel_rfl) SV (fun _ hu => by exact lb_mid 42 (.tmp 80) rfl (by kernel_rfl) (zS _ hu) Tryz.underlying42 rfl (by kernel_rfl)) ?_
          refine held_take (i := 7) (v := .agg #[.pointer (some a), .pointer (some ⟨b, 0, none⟩)]) rfl (by kernel_rfl) (by kernel_rfl) (by kernel_rfl) (fun _ _ _ h => h) (by kernel_rfl) SV (fun _ hu => by exact lb_mid 28 (.tmp 9) rfl (by kernel_rfl) (zT _ hu) Tryz.underlying28 rfl (by kernel_rfl)) ?_
          refine held_take (i := 9) (v := .int .u64 (now + s.wt)) rfl (by kernel_rfl) (by kernel_rfl) (by kernel_rfl) (fun _ _ _ h => h) (by kernel_rfl) SV (fun _ hu => by kernel_rfl) ?_
          refine held_three (i := 8) (j := 14) (k := 15) (by kernel_rfl) (op_call (i := 8) (f := 14) (args := #[.agg (shC s).toArray, .agg #[.pointer (some a), .pointer (some ⟨b, 0, none⟩)]]) rfl (by kernel_rfl) (by kernel_rfl) ((CF D LV).mono ?_)) (op_value (i := 14) (v := .pointer (some ⟨D.heap.size, 0, none⟩)) (w' := D.alloc (.cells #[.int .i64 0, .int .i64 0, .int .u64 0, .bool false] 44)) rfl (by kernel_rfl) (by kernel_rfl) ⟨SV.alloc _, ?_⟩) (op_value (i := 15) (v := .pointer (some ⟨D.heap.size, 0, none⟩)) (w' := D.alloc (.cells #[.slice none 0 0, .slice none 0 0, .int .u64 0, .int .u64 0, .bool false] 56)) rfl (by kernel_rfl) (by kernel_rfl) ⟨SV.alloc _, ?_⟩)
          · rintro e wF ⟨p, n, c, fr, rfl, hfn, hnc, hnm, hby, hrow, LF⟩
            have zF := LF.size
            have zL := LV.size
            have zD := LD.size
            have row := hrow.mono (T := fun k => k < w.heap.size ∨ wr.heap.size ≤ k) fun k _ h => h.imp id fun h => (by omega)
            have LV := Base.next LV LF
            have LD := Base.next LD LF
            have SV : Fr AA wr wF := Fr.of_below LV
            refine ⟨_, rfl, SV, ?_⟩
            refine held_three (i := 10) (j := 14) (k := 15) (by kernel_rfl) (op_call (i := 10) (f := 18) (args := #[.pointer (some gp), .pointer (some a), .slice p n c, .int .u64 (now + s.wt)]) rfl (by kernel_rfl) (by kernel_rfl) ((CT wF LV p n c fr hfn hnc hnm hby row).mono ?_)) (op_value (i := 14) (v := .pointer (some ⟨wF.heap.size, 0, none⟩)) (w' := wF.alloc (.cells #[.int .i64 0, .int .i64 0, .int .u64 0, .bool false] 44)) rfl (by kernel_rfl) (by kernel_rfl) ⟨SV.alloc _, ?_⟩) (op_value (i := 15) (v := .pointer (some ⟨wF.heap.size, 0, none⟩)) (w' := wF.alloc (.cells #[.slice none 0 0, .slice none 0 0, .int .u64 0, .int .u64 0, .bool false] 56)) rfl (by kernel_rfl) (by kernel_rfl) ⟨SV.alloc _, ?_⟩)
            · rintro e wT ⟨x, cx, y, cy, Yf, rfl, hrw, QV, FT⟩
              have zT' := FT.size
              have zL := LV.size
              have zD := LD.size
              have SV := QV.fr
              have NV : Fr (fun k => k < wr.heap.size) D wT := (Fr.of_below LD : Fr (fun k => k < wr.heap.size) D wF).trans FT (fun k hk h => Nat.lt_of_not_le fun h2 => h (.inr ⟨h2, by omega⟩))
              clear CT CF
              generalize hX : takeT g lr fr (now + s.wt) = X at *
              have hX := Lib.hid hX
              refine ⟨_, rfl, SV, ?_⟩
              refine held_take (i := 11) (v := .tuple #[.agg (vcells X.v), .agg (kcells X.k x cx y cy)]) rfl (by kernel_rfl) (by kernel_rfl) (by kernel_rfl) (fun _ _ _ h => h) (by kernel_rfl) SV (fun _ hu => by kernel_rfl) ?_
              refine held_take (i := 12) (v := .agg (vcells X.v)) rfl (by kernel_rfl) (by kernel_rfl) (by kernel_rfl) (fun _ _ _ h => h) (by kernel_rfl) SV (fun _ hu => by kernel_rfl) ?_
              refine held_take (i := 13) (v := .agg (kcells X.k x cx y cy)) rfl (by kernel_rfl) (by kernel_rfl) (by kernel_rfl) (fun _ _ _ h => h) (by kernel_rfl) SV (fun _ hu => by kernel_rfl) ?_
              refine held_two (i := 14) (j := 15) (by kernel_rfl) (op_value (i := 14) (v := .pointer (some ⟨wT.heap.size, 0, none⟩)) (w' := wT.alloc (.cells #[.int .i64 0, .int .i64 0, .int .u64 0, .bool false] 44)) rfl (by kernel_rfl) (by kernel_rfl) ⟨SV.alloc _, ?_⟩) (op_value (i := 15) (v := .pointer (some ⟨wT.heap.size, 0, none⟩)) (w' := wT.alloc (.cells #[.slice none 0 0, .slice none 0 0, .int .u64 0, .int .u64 0, .bool false] 56)) rfl (by kernel_rfl) (by kernel_rfl) ⟨SV.alloc _, ?_⟩)
              · have hA : Below wT.heap.size wT (wT.alloc (.cells #[.int .i64 0, .int .i64 0, .int .u64 0, .bool false] 44)) := (Below.refl _ _).alloc (Nat.le_refl _) _
                have bA := Blk.new wT #[.int .i64 0, .int .i64 0, .int .u64 0, .bool false] 44
                have mA : wT.heap.size < (wT.alloc (.cells #[.int .i64 0, .int .i64 0, .int .u64 0, .bool false] 44)).heap.size := by simp
                generalize wT.alloc (.cells #[.int .i64 0, .int .i64 0, .int .u64 0, .bool false] 44) = vA at *
                have zS' := SV.size
                have zD := NV.size
                obtain ⟨FA, ZA, QV, zzA, zA⟩ := QV.grow hA (by omega)
                have NV := NV.trans (T := fun _ => False) (Fr.of_below hA) fun _ _ h => h.elim
                have SV := QV.fr
                refine held_one (i := 15) (v := .pointer (some ⟨vA.heap.size, 0, none⟩)) (w' := vA.alloc (.cells #[.slice none 0 0, .slice none 0 0, .int .u64 0, .int .u64 0, .bool false] 56)) rfl (by kernel_rfl) (by kernel_rfl) (by kernel_rfl) (SV.alloc _) ?_
                have hB : Below vA.heap.size vA (vA.alloc (.cells #[.slice none 0 0, .slice none 0 0, .int .u64 0, .int .u64 0, .bool false] 56)) := (Below.refl _ _).alloc (Nat.le_refl _) _
                have bB := Blk.new vA #[.slice none 0 0, .slice none 0 0, .int .u64 0, .int .u64 0, .bool false] 56
                have mB : vA.heap.size < (vA.alloc (.cells #[.slice none 0 0, .slice none 0 0, .int .u64 0, .int .u64 0, .bool false] 56)).heap.size := by simp
                generalize vA.alloc (.cells #[.slice none 0 0, .slice none 0 0, .int .u64 0, .int .u64 0, .bool false] 56) = vB at *
                have bA := bA.below hB bA.lt
                have zS' := SV.size
                have zD := NV.size
                obtain ⟨FB, ZB, QV, zzB, zB⟩ := QV.grow hB (by omega)
                have zA := zzB _ zA
                have NV := NV.trans (T := fun _ => False) (Fr.of_below hB) fun _ _ h => h.elim
                have SV := QV.fr
                have S1 := SV.setRow (g := wT.heap.size) (fun h => by omega) (vcells X.v)
                refine held_st (i := 16) rfl (by kernel_rfl) (by kernel_rfl) (st_row 44 (.tmp 16) (.tmp 86) rfl (g := wT.heap.size) (cells := vcells X.v) (by kernel_rfl) (by kernel_rfl) bA (by kernel_rfl) rfl (by simp [vcells, Value.oneCell'])) S1 ?_
                have bB1 := bB.otherRow (g := wT.heap.size) (by omega) (vcells X.v)
                have S2 := S1.setRow (g := vA.heap.size) (fun h => by omega) (kcells X.k x cx y cy)
                refine held_st (i := 17) rfl (by kernel_rfl) (by kernel_rfl) (st_row 56 (.tmp 17) (.tmp 87) rfl (g := vA.heap.size) (cells := kcells X.k x cx y cy) (by kernel_rfl) (by kernel_rfl) bB1 (by kernel_rfl) rfl (by simp [kcells, Value.oneCell'])) S2 ?_
                refine held_done (by kernel_rfl) ?_
                have bA1 := (bA.setRow (vcells X.v)).otherRow (g := vA.heap.size) (by omega) (kcells X.k x cx y cy)
                have bB2 := bB1.setRow (kcells X.k x cx y cy)
                have QF := ((QV.set (b := wT.heap.size) zA (by omega) (vcells X.v)).set (b := vA.heap.size) zB (by omega) (kcells X.k x cx y cy)).pick zA zB
                have NF := hDD.trans ((NV.setRow (g := wT.heap.size) (fun h => by omega) (vcells X.v)).setRow (g := vA.heap.size) (fun h => by omega) (kcells X.k x cx y cy)) fun _ _ h => h
                go_wp2
                go_meet
                have hX := hX.out
                subst hX
                exact ⟨wT.heap.size, vA.heap.size, fr, x, cx, y, cy, rfl, rfl, hby, bA1, bB2, ⟨by omega, by omega, by omega⟩, QF, S2, NF⟩
              · have hB : Below wT.heap.size wT (wT.alloc (.cells #[.slice none 0 0, .slice none 0 0, .int .u64 0, .int .u64 0, .bool false] 56)) := (Below.refl _ _).alloc (Nat.le_refl _) _
                have bB := Blk.new wT #[.slice none 0 0, .slice none 0 0, .int .u64 0, .int .u64 0, .bool false] 56
                have mB : wT.heap.size < (wT.alloc (.cells #[.slice none 0 0, .slice none 0 0, .int .u64 0, .int .u64 0, .bool false] 56)).heap.size := by simp
                generalize wT.alloc (.cells #[.slice none 0 0, .slice none 0 0, .int .u64 0, .int .u64 0, .bool false] 56) = vB at *
                have zS' := SV.size
                have zD := NV.size
                obtain ⟨FB, ZB, QV, zzB, zB⟩ := QV.grow hB (by omega)
                have NV := NV.trans (T := fun _ => False) (Fr.of_below hB) fun _ _ h => h.elim
                have SV := QV.fr
                refine held_one (i := 14) (v := .pointer (some ⟨vB.heap.size, 0, none⟩)) (w' := vB.alloc (.cells #[.int .i64 0, .int .i64 0, .int .u64 0, .bool false] 44)) rfl (by kernel_rfl) (by kernel_rfl) (by kernel_rfl) (SV.alloc _) ?_
                have hA : Below vB.heap.size vB (vB.alloc (.cells #[.int .i64 0, .int .i64 0, .int .u64 0, .bool false] 44)) := (Below.refl _ _).alloc (Nat.le_refl _) _
                have bA := Blk.new vB #[.int .i64 0, .int .i64 0, .int .u64 0, .bool false] 44
                have mA : vB.heap.size < (vB.alloc (.cells #[.int .i64 0, .int .i64 0, .int .u64 0, .bool false] 44)).heap.size := by simp
                generalize vB.alloc (.cells #[.int .i64 0, .int .i64 0, .int .u64 0, .bool false] 44) = vA at *
                have bB := bB.below hA bB.lt
                have zS' := SV.size
                have zD := NV.size
                obtain ⟨FA, ZA, QV, zzA, zA⟩ := QV.grow hA (by omega)
                have zB := zzA _ zB
                have NV := NV.trans (T := fun _ => False) (Fr.of_below hA) fun _ _ h => h.elim
                have SV := QV.fr
                have S1 := SV.setRow (g := vB.heap.size) (fun h => by omega) (vcells X.v)
                refine held_st (i := 16) rfl (by kernel_rfl) (by kernel_rfl) (st_row 44 (.tmp 16) (.tmp 86) rfl (g := vB.heap.size) (cells := vcells X.v) (by kernel_rfl) (by kernel_rfl) bA (by kernel_rfl) rfl (by simp [vcells, Value.oneCell'])) S1 ?_
                have bB1 := bB.otherRow (g := vB.heap.size) (by omega) (vcells X.v)
                have S2 := S1.setRow (g := wT.heap.size) (fun h => by omega) (kcells X.k x cx y cy)
                refine held_st (i := 17) rfl (by kernel_rfl) (by kernel_rfl) (st_row 56 (.tmp 17) (.tmp 87) rfl (g := wT.heap.size) (cells := kcells X.k x cx y cy) (by kernel_rfl) (by kernel_rfl) bB1 (by kernel_rfl) rfl (by simp [kcells, Value.oneCell'])) S2 ?_
                refine held_done (by kernel_rfl) ?_
                have bA1 := (bA.setRow (vcells X.v)).otherRow (g := wT.heap.size) (by omega) (kcells X.k x cx y cy)
                have bB2 := bB1.setRow (kcells X.k x cx y cy)
                have QF := ((QV.set (b := vB.heap.size) zA (by omega) (vcells X.v)).set (b := wT.heap.size) zB (by omega) (kcells X.k x cx y cy)).pick zA zB
                have NF := hDD.trans ((NV.setRow (g := vB.heap.size) (fun h => by omega) (vcells X.v)).setRow (g := wT.heap.size) (fun h => by omega) (kcells X.k x cx y cy)) fun _ _ h => h
                go_wp2
                go_meet
                have hX := hX.out
                subst hX
                exact ⟨vB.heap.size, wT.heap.size, fr, x, cx, y, cy, rfl, rfl, hby, bA1, bB2, ⟨by omega, by omega, by omega⟩, QF, S2, NF⟩
            · have hA : Below wF.heap.size wF (wF.alloc (.cells #[.int .i64 0, .int .i64 0, .int .u64 0, .bool false] 44)) := (Below.refl _ _).alloc (Nat.le_refl _) _
              have bA := Blk.new wF #[.int .i64 0, .int .i64 0, .int .u64 0, .bool false] 44
              have mA : wF.heap.size < (wF.alloc (.cells #[.int .i64 0, .int .i64 0, .int .u64 0, .bool false] 44)).heap.size := by simp
              generalize wF.alloc (.cells #[.int .i64 0, .int .i64 0, .int .u64 0, .bool false] 44) = vA at *
              have row := row.kept (T := fun _ => False) (Fr.of_below hA) (fun _ _ h => h)
              have zL := LV.size
              have zD := LD.size
              have LV := Base.next LV hA
              have LD := Base.next LD hA
              have SV : Fr AA wr vA := Fr.of_below LV
              refine held_two (i := 10) (j := 15) (by kernel_rfl) (op_call (i := 10) (f := 18) (args := #[.pointer (some gp), .pointer (some a), .slice p n c, .int .u64 (now + s.wt)]) rfl (by kernel_rfl) (by kernel_rfl) ((CT vA LV p n c fr hfn hnc hnm hby row).mono ?_)) (op_value (i := 15) (v := .pointer (some ⟨vA.heap.size, 0, none⟩)) (w' := vA.alloc (.cells #[.slice none 0 0, .slice none 0 0, .int .u64 0, .int .u64 0, .bool false] 56)) rfl (by kernel_rfl) (by kernel_rfl) ⟨SV.alloc _, ?_⟩)
              · rintro e wT ⟨x, cx, y, cy, Yf, rfl, hrw, QV, FT⟩
                have zT' := FT.size
                have zL := LV.size
                have zD := LD.size
                have lA := bA.lt
                have zA : (fun k => wr.heap.size ≤ k ∧ k < vA.heap.size) (wF.heap.size) := ⟨by omega, lA⟩
                have bA := bA.kept FT (fun h => h (.inr ⟨by omega, lA⟩))
                have SV := QV.fr
                have NV : Fr (fun k => k < wr.heap.size) D wT := (Fr.of_below LD : Fr (fun k => k < wr.heap.size) D vA).trans FT (fun k hk h => Nat.lt_of_not_le fun h2 => h (.inr ⟨h2, by omega⟩))
                clear CT CF
                generalize hX : takeT g lr fr (now + s.wt) = X at *
                have hX := Lib.hid hX
                refine ⟨_, rfl, SV, ?_⟩
                refine held_take (i := 11) (v := .tuple #[.agg (vcells X.v), .agg (kcells X.k x cx y cy)]) rfl (by kernel_rfl) (by kernel_rfl) (by kernel_rfl) (fun _ _ _ h => h) (by kernel_rfl) SV (fun _ hu => by kernel_rfl) ?_
                refine held_take (i := 12) (v := .agg (vcells X.v)) rfl (by kernel_rfl) (by kernel_rfl) (by kernel_rfl) (fun _ _ _ h => h) (by kernel_rfl) SV (fun _ hu => by kernel_rfl) ?_
                refine held_take (i := 13) (v := .agg (kcells X.k x cx y cy)) rfl (by kernel_rfl) (by kernel_rfl) (by kernel_rfl) (fun _ _ _ h => h) (by kernel_rfl) SV (fun _ hu => by kernel_rfl) ?_
                refine held_one (i := 15) (v := .pointer (some ⟨wT.heap.size, 0, none⟩)) (w' := wT.alloc (.cells #[.slice none 0 0, .slice none 0 0, .int .u64 0, .int .u64 0, .bool false] 56)) rfl (by kernel_rfl) (by kernel_rfl) (by kernel_rfl) (SV.alloc _) ?_
                have hB : Below wT.heap.size wT (wT.alloc (.cells #[.slice none 0 0, .slice none 0 0, .int .u64 0, .int .u64 0, .bool false] 56)) := (Below.refl _ _).alloc (Nat.le_refl _) _
                have bB := Blk.new wT #[.slice none 0 0, .slice none 0 0, .int .u64 0, .int .u64 0, .bool false] 56
                have mB : wT.heap.size < (wT.alloc (.cells #[.slice none 0 0, .slice none 0 0, .int .u64 0, .int .u64 0, .bool false] 56)).heap.size := by simp
                generalize wT.alloc (.cells #[.slice none 0 0, .slice none 0 0, .int .u64 0, .int .u64 0, .bool false] 56) = vB at *
                have bA := bA.below hB bA.lt
                have zS' := SV.size
                have zD := NV.size
                obtain ⟨FB, ZB, QV, zzB, zB⟩ := QV.grow hB (by omega)
                have zA := zzB _ zA
                have NV := NV.trans (T := fun _ => False) (Fr.of_below hB) fun _ _ h => h.elim
                have SV := QV.fr
                have S1 := SV.setRow (g := wF.heap.size) (fun h => by omega) (vcells X.v)
                refine held_st (i := 16) rfl (by kernel_rfl) (by kernel_rfl) (st_row 44 (.tmp 16) (.tmp 86) rfl (g := wF.heap.size) (cells := vcells X.v) (by kernel_rfl) (by kernel_rfl) bA (by kernel_rfl) rfl (by simp [vcells, Value.oneCell'])) S1 ?_
                have bB1 := bB.otherRow (g := wF.heap.size) (by omega) (vcells X.v)
                have S2 := S1.setRow (g := wT.heap.size) (fun h => by omega) (kcells X.k x cx y cy)
                refine held_st (i := 17) rfl (by kernel_rfl) (by kernel_rfl) (st_row 56 (.tmp 17) (.tmp 87) rfl (g := wT.heap.size) (cells := kcells X.k x cx y cy) (by kernel_rfl) (by kernel_rfl) bB1 (by kernel_rfl) rfl (by simp [kcells, Value.oneCell'])) S2 ?_
                refine held_done (by kernel_rfl) ?_
                have bA1 := (bA.setRow (vcells X.v)).otherRow (g := wT.heap.size) (by omega) (kcells X.k x cx y cy)
                have bB2 := bB1.setRow (kcells X.k x cx y cy)
                have QF := ((QV.set (b := wF.heap.size) zA (by omega) (vcells X.v)).set (b := wT.heap.size) zB (by omega) (kcells X.k x cx y cy)).pick zA zB
                have NF := hDD.trans ((NV.setRow (g := wF.heap.size) (fun h => by omega) (vcells X.v)).setRow (g := wT.heap.size) (fun h => by omega) (kcells X.k x cx y cy)) fun _ _ h => h
                go_wp2
                go_meet
                have hX := hX.out
                subst hX
                exact ⟨wF.heap.size, wT.heap.size, fr, x, cx, y, cy, rfl, rfl, hby, bA1, bB2, ⟨by omega, by omega, by omega⟩, QF, S2, NF⟩
              · have hB : Below vA.heap.size vA (vA.alloc (.cells #[.slice none 0 0, .slice none 0 0, .int .u64 0, .int .u64 0, .bool false] 56)) := (Below.refl _ _).alloc (Nat.le_refl _) _
                have bB := Blk.new vA #[.slice none 0 0, .slice none 0 0, .int .u64 0, .int .u64 0, .bool false] 56
                have mB : vA.heap.size < (vA.alloc (.cells #[.slice none 0 0, .slice none 0 0, .int .u64 0, .int .u64 0, .bool false] 56)).heap.size := by simp
                generalize vA.alloc (.cells #[.slice none 0 0, .slice none 0 0, .int .u64 0, .int .u64 0, .bool false] 56) = vB at *
                have bA := bA.below hB bA.lt
                have row := row.kept (T := fun _ => False) (Fr.of_below hB) (fun _ _ h => h)
                have zL := LV.size
                have zD := LD.size
                have LV := Base.next LV hB
                have LD := Base.next LD hB
                have SV : Fr AA wr vB := Fr.of_below LV
                refine held_call (i := 10) (f := 18) (args := #[.pointer (some gp), .pointer (some a), .slice p n c, .int .u64 (now + s.wt)]) rfl (by kernel_rfl) (by kernel_rfl) (by kernel_rfl) ((CT vB LV p n c fr hfn hnc hnm hby row).mono ?_)
                rintro e wT ⟨x, cx, y, cy, Yf, rfl, hrw, QV, FT⟩
                have zT' := FT.size
                have zL := LV.size
                have zD := LD.size
                have lA := bA.lt
                have zA : (fun k => wr.heap.size ≤ k ∧ k < vB.heap.size) (wF.heap.size) := ⟨by omega, lA⟩
                have bA := bA.kept FT (fun h => h (.inr ⟨by omega, lA⟩))
                have lB := bB.lt
                have zB : (fun k => wr.heap.size ≤ k ∧ k < vB.heap.size) (vA.heap.size) := ⟨by omega, lB⟩
                have bB := bB.kept FT (fun h => h (.inr ⟨by omega, lB⟩))
                have SV := QV.fr
                have NV : Fr (fun k => k < wr.heap.size) D wT := (Fr.of_below LD : Fr (fun k => k < wr.heap.size) D vB).trans FT (fun k hk h => Nat.lt_of_not_le fun h2 => h (.inr ⟨h2, by omega⟩))
                clear CT CF
                generalize hX : takeT g lr fr (now + s.wt) = X at *
                have hX := Lib.hid hX
                refine ⟨_, rfl, SV, ?_⟩
                refine held_take (i := 11) (v := .tuple #[.agg (vcells X.v), .agg (kcells X.k x cx y cy)]) rfl (by kernel_rfl) (by kernel_rfl) (by kernel_rfl) (fun _ _ _ h => h) (by kernel_rfl) SV (fun _ hu => by kernel_rfl) ?_
                refine held_take (i := 12) (v := .agg (vcells X.v)) rfl (by kernel_rfl) (by kernel_rfl) (by kernel_rfl) (fun _ _ _ h => h) (by kernel_rfl) SV (fun _ hu => by kernel_rfl) ?_
                refine held_take (i := 13) (v := .agg (kcells X.k x cx y cy)) rfl (by kernel_rfl) (by kernel_rfl) (by kernel_rfl) (fun _ _ _ h => h) (by kernel_rfl) SV (fun _ hu => by kernel_rfl) ?_
                have S1 := SV.setRow (g := wF.heap.size) (fun h => by omega) (vcells X.v)
                refine held_st (i := 16) rfl (by kernel_rfl) (by kernel_rfl) (st_row 44 (.tmp 16) (.tmp 86) rfl (g := wF.heap.size) (cells := vcells X.v) (by kernel_rfl) (by kernel_rfl) bA (by kernel_rfl) rfl (by simp [vcells, Value.oneCell'])) S1 ?_
                have bB1 := bB.otherRow (g := wF.heap.size) (by omega) (vcells X.v)
                have S2 := S1.setRow (g := vA.heap.size) (fun h => by omega) (kcells X.k x cx y cy)
                refine held_st (i := 17) rfl (by kernel_rfl) (by kernel_rfl) (st_row 56 (.tmp 17) (.tmp 87) rfl (g := vA.heap.size) (cells := kcells X.k x cx y cy) (by kernel_rfl) (by kernel_rfl) bB1 (by kernel_rfl) rfl (by simp [kcells, Value.oneCell'])) S2 ?_
                refine held_done (by kernel_rfl) ?_
                have bA1 := (bA.setRow (vcells X.v)).otherRow (g := vA.heap.size) (by omega) (kcells X.k x cx y cy)
                have bB2 := bB1.setRow (kcells X.k x cx y cy)
                have QF := ((QV.set (b := wF.heap.size) zA (by omega) (vcells X.v)).set (b := vA.heap.size) zB (by omega) (kcells X.k x cx y cy)).pick zA zB
                have NF := hDD.trans ((NV.setRow (g := wF.heap.size) (fun h => by omega) (vcells X.v)).setRow (g := vA.heap.size) (fun h => by omega) (kcells X.k x cx y cy)) fun _ _ h => h
                go_wp2
                go_meet
                have hX := hX.out
                subst hX
                exact ⟨wF.heap.size, vA.heap.size, fr, x, cx, y, cy, rfl, rfl, hby, bA1, bB2, ⟨by omega, by omega, by omega⟩, QF, S2, NF⟩
            · have hB : Below wF.heap.size wF (wF.alloc (.cells #[.slice none 0 0, .slice none 0 0, .int .u64 0, .int .u64 0, .bool false] 56)) := (Below.refl _ _).alloc (Nat.le_refl _) _
              have bB := Blk.new wF #[.slice none 0 0, .slice none 0 0, .int .u64 0, .int .u64 0, .bool false] 56
              have mB : wF.heap.size < (wF.alloc (.cells #[.slice none 0 0, .slice none 0 0, .int .u64 0, .int .u64 0, .bool false] 56)).heap.size := by simp
              generalize wF.alloc (.cells #[.slice none 0 0, .slice none 0 0, .int .u64 0, .int .u64 0, .bool false] 56) = vB at *
              have row := row.kept (T := fun _ => False) (Fr.of_below hB) (fun _ _ h => h)
              have zL := LV.size
              have zD := LD.size
              have LV := Base.next LV hB
              have LD := Base.next LD hB
              have SV : Fr AA wr vB := Fr.of_below LV
              refine held_two (i := 10) (j := 14) (by kernel_rfl) (op_call (i := 10) (f := 18) (args := #[.pointer (some gp), .pointer (some a), .slice p n c, .int .u64 (now + s.wt)]) rfl (by kernel_rfl) (by kernel_rfl) ((CT vB LV p n c fr hfn hnc hnm hby row).mono ?_)) (op_value (i := 14) (v := .pointer (some ⟨vB.heap.size, 0, none⟩)) (w' := vB.alloc (.cells #[.int .i64 0, .int .i64 0, .int .u64 0, .bool false] 44)) rfl (by kernel_rfl) (by kernel_rfl) ⟨SV.alloc _, ?_⟩)
              · rintro e wT ⟨x, cx, y, cy, Yf, rfl, hrw, QV, FT⟩
                have zT' := FT.size
                have zL := LV.size
                have zD := LD.size
                have lB := bB.lt
                have zB : (fun k => wr.heap.size ≤ k ∧ k < vB.heap.size) (wF.heap.size) := ⟨by omega, lB⟩
                have bB := bB.kept FT (fun h => h (.inr ⟨by omega, lB⟩))
                have SV := QV.fr
                have NV : Fr (fun k => k < wr.heap.size) D wT := (Fr.of_below LD : Fr (fun k => k < wr.heap.size) D vB).trans FT (fun k hk h => Nat.lt_of_not_le fun h2 => h (.inr ⟨h2, by omega⟩))
                clear CT CF
                generalize hX : takeT g lr fr (now + s.wt) = X at *
                have hX := Lib.hid hX
                refine ⟨_, rfl, SV, ?_⟩
                refine held_take (i := 11) (v := .tuple #[.agg (vcells X.v), .agg (kcells X.k x cx y cy)]) rfl (by kernel_rfl) (by kernel_rfl) (by kernel_rfl) (fun _ _ _ h => h) (by kernel_rfl) SV (fun _ hu => by kernel_rfl) ?_
                refine held_take (i := 12) (v := .agg (vcells X.v)) rfl (by kernel_rfl) (by kernel_rfl) (by kernel_rfl) (fun _ _ _ h => h) (by kernel_rfl) SV (fun _ hu => by kernel_rfl) ?_
                refine held_take (i := 13) (v := .agg (kcells X.k x cx y cy)) rfl (by kernel_rfl) (by kernel_rfl) (by kernel_rfl) (fun _ _ _ h => h) (by kernel_rfl) SV (fun _ hu => by kernel_rfl) ?_
                refine held_one (i := 14) (v := .pointer (some ⟨wT.heap.size, 0, none⟩)) (w' := wT.alloc (.cells #[.int .i64 0, .int .i64 0, .int .u64 0, .bool false] 44)) rfl (by kernel_rfl) (by kernel_rfl) (by kernel_rfl) (SV.alloc _) ?_
                have hA : Below wT.heap.size wT (wT.alloc (.cells #[.int .i64 0, .int .i64 0, .int .u64 0, .bool false] 44)) := (Below.refl _ _).alloc (Nat.le_refl _) _
                have bA := Blk.new wT #[.int .i64 0, .int .i64 0, .int .u64 0, .bool false] 44
                have mA : wT.heap.size < (wT.alloc (.cells #[.int .i64 0, .int .i64 0, .int .u64 0, .bool false] 44)).heap.size := by simp
                generalize wT.alloc (.cells #[.int .i64 0, .int .i64 0, .int .u64 0, .bool false] 44) = vA at *
                have bB := bB.below hA bB.lt
                have zS' := SV.size
                have zD := NV.size
                obtain ⟨FA, ZA, QV, zzA, zA⟩ := QV.grow hA (by omega)
                have zB := zzA _ zB
                have NV := NV.trans (T := fun _ => False) (Fr.of_below hA) fun _ _ h => h.elim
                have SV := QV.fr
                have S1 := SV.setRow (g := wT.heap.size) (fun h => by omega) (vcells X.v)
                refine held_st (i := 16) rfl (by kernel_rfl) (by kernel_rfl) (st_row 44 (.tmp 16) (.tmp 86) rfl (g := wT.heap.size) (cells := vcells X.v) (by kernel_rfl) (by kernel_rfl) bA (by kernel_rfl) rfl (by simp [vcells, Value.oneCell'])) S1 ?_
                have bB1 := bB.otherRow (g := wT.heap.size) (by omega) (vcells X.v)
                have S2 := S1.setRow (g := wF.heap.size) (fun h => by omega) (kcells X.k x cx y cy)
                refine held_st (i := 17) rfl (by kernel_rfl) (by kernel_rfl) (st_row 56 (.tmp 17) (.tmp 87) rfl (g := wF.heap.size) (cells := kcells X.k x cx y cy) (by kernel_rfl) (by kernel_rfl) bB1 (by kernel_rfl) rfl (by simp [kcells, Value.oneCell'])) S2 ?_
                refine held_done (by kernel_rfl) ?_
                have bA1 := (bA.setRow (vcells X.v)).otherRow (g := wF.heap.size) (by omega) (kcells X.k x cx y cy)
                have bB2 := bB1.setRow (kcells X.k x cx y cy)
                have QF := ((QV.set (b := wT.heap.size) zA (by omega) (vcells X.v)).set (b := wF.heap.size) zB (by omega) (kcells X.k x cx y cy)).pick zA zB
                have NF := hDD.trans ((NV.setRow (g := wT.heap.size) (fun h => by omega) (vcells X.v)).setRow (g := wF.heap.size) (fun h => by omega) (kcells X.k x cx y cy)) fun _ _ h => h
                go_wp2
                go_meet
                have hX := hX.out
                subst hX
                exact ⟨wT.heap.size, wF.heap.size, fr, x, cx, y, cy, rfl, rfl, hby, bA1, bB2, ⟨by omega, by omega, by omega⟩, QF, S2, NF⟩
              · have hA : Below vB.heap.size vB (vB.alloc (.cells #[.int .i64 0, .int .i64 0, .int .u64 0, .bool false] 44)) := (Below.refl _ _).alloc (Nat.le_refl _) _
                have bA := Blk.new vB #[.int .i64 0, .int .i64 0, .int .u64 0, .bool false] 44
                have mA : vB.heap.size < (vB.alloc (.cells #[.int .i64 0, .int .i64 0, .int .u64 0, .bool false] 44)).heap.size := by simp
                generalize vB.alloc (.cells #[.int .i64 0, .int .i64 0, .int .u64 0, .bool false] 44) = vA at *
                have bB := bB.below hA bB.lt
                have row := row.kept (T := fun _ => False) (Fr.of_below hA) (fun _ _ h => h)
                have zL := LV.size
                have zD := LD.size
                have LV := Base.next LV hA
                have LD := Base.next LD hA
                have SV : Fr AA wr vA := Fr.of_below LV
                refine held_call (i := 10) (f := 18) (args := #[.pointer (some gp), .pointer (some a), .slice p n c, .int .u64 (now + s.wt)]) rfl (by kernel_rfl) (by kernel_rfl) (by kernel_rfl) ((CT vA LV p n c fr hfn hnc hnm hby row).mono ?_)
                rintro e wT ⟨x, cx, y, cy, Yf, rfl, hrw, QV, FT⟩
                have zT' := FT.size
                have zL := LV.size
                have zD := LD.size
                have lA := bA.lt
                have zA : (fun k => wr.heap.size ≤ k ∧ k < vA.heap.size) (vB.heap.size) := ⟨by omega, lA⟩
                have bA := bA.kept FT (fun h => h (.inr ⟨by omega, lA⟩))
                have lB := bB.lt
                have zB : (fun k => wr.heap.size ≤ k ∧ k < vA.heap.size) (wF.heap.size) := ⟨by omega, lB⟩
                have bB := bB.kept FT (fun h => h (.inr ⟨by omega, lB⟩))
                have SV := QV.fr
                have NV : Fr (fun k => k < wr.heap.size) D wT := (Fr.of_below LD : Fr (fun k => k < wr.heap.size) D vA).trans FT (fun k hk h => Nat.lt_of_not_le fun h2 => h (.inr ⟨h2, by omega⟩))
                clear CT CF
                generalize hX : takeT g lr fr (now + s.wt) = X at *
                have hX := Lib.hid hX
                refine ⟨_, rfl, SV, ?_⟩
                refine held_take (i := 11) (v := .tuple #[.agg (vcells X.v), .agg (kcells X.k x cx y cy)]) rfl (by kernel_rfl) (by kernel_rfl) (by kernel_rfl) (fun _ _ _ h => h) (by kernel_rfl) SV (fun _ hu => by kernel_rfl) ?_
                refine held_take (i := 12) (v := .agg (vcells X.v)) rfl (by kernel_rfl) (by kernel_rfl) (by kernel_rfl) (fun _ _ _ h => h) (by kernel_rfl) SV (fun _ hu => by kernel_rfl) ?_
                refine held_take (i := 13) (v := .agg (kcells X.k x cx y cy)) rfl (by kernel_rfl) (by kernel_rfl) (by kernel_rfl) (fun _ _ _ h => h) (by kernel_rfl) SV (fun _ hu => by kernel_rfl) ?_
                have S1 := SV.setRow (g := vB.heap.size) (fun h => by omega) (vcells X.v)
                refine held_st (i := 16) rfl (by kernel_rfl) (by kernel_rfl) (st_row 44 (.tmp 16) (.tmp 86) rfl (g := vB.heap.size) (cells := vcells X.v) (by kernel_rfl) (by kernel_rfl) bA (by kernel_rfl) rfl (by simp [vcells, Value.oneCell'])) S1 ?_
                have bB1 := bB.otherRow (g := vB.heap.size) (by omega) (vcells X.v)
                have S2 := S1.setRow (g := wF.heap.size) (fun h => by omega) (kcells X.k x cx y cy)
                refine held_st (i := 17) rfl (by kernel_rfl) (by kernel_rfl) (st_row 56 (.tmp 17) (.tmp 87) rfl (g := wF.heap.size) (cells := kcells X.k x cx y cy) (by kernel_rfl) (by kernel_rfl) bB1 (by kernel_rfl) rfl (by simp [kcells, Value.oneCell'])) S2 ?_
                refine held_done (by kernel_rfl) ?_
                have bA1 := (bA.setRow (vcells X.v)).otherRow (g := wF.heap.size) (by omega) (kcells X.k x cx y cy)
                have bB2 := bB1.setRow (kcells X.k x cx y cy)
                have QF := ((QV.set (b := vB.heap.size) zA (by omega) (vcells X.v)).set (b := wF.heap.size) zB (by omega) (kcells X.k x cx y cy)).pick zA zB
                have NF := hDD.trans ((NV.setRow (g := vB.heap.size) (fun h => by omega) (vcells X.v)).setRow (g := wF.heap.size) (fun h => by omega) (kcells X.k x cx y cy)) fun _ _ h => h
                go_wp2
                go_meet
                have hX := hX.out
                subst hX
                exact ⟨vB.heap.size, wF.heap.size, fr, x, cx, y, cy, rfl, rfl, hby, bA1, bB2, ⟨by omega, by omega, by omega⟩, QF, S2, NF⟩
          · have hA : Below D.heap.size D (D.alloc (.cells #[.int .i64 0, .int .i64 0, .int .u64 0, .bool false] 44)) := (Below.refl _ _).alloc (Nat.le_refl _) _
            have bA := Blk.new D #[.int .i64 0, .int .i64 0, .int .u64 0, .bool false] 44
            have mA : D.heap.size < (D.alloc (.cells #[.int .i64 0, .int .i64 0, .int .u64 0, .bool false] 44)).heap.size := by simp
            generalize D.alloc (.cells #[.int .i64 0, .int .i64 0, .int .u64 0, .bool false] 44) = vA at *
            have zL := LV.size
            have zD := LD.size
            have LV := Base.next LV hA
            have LD := Base.next LD hA
            have SV : Fr AA wr vA := Fr.of_below LV
            refine held_two (i := 8) (j := 15) (by kernel_rfl) (op_call (i := 8) (f := 14) (args := #[.agg (shC s).toArray, .agg #[.pointer (some a), .pointer (some ⟨b, 0, none⟩)]]) rfl (by kernel_rfl) (by kernel_rfl) ((CF vA LV).mono ?_)) (op_value (i := 15) (v := .pointer (some ⟨vA.heap.size, 0, none⟩)) (w' := vA.alloc (.cells #[.slice none 0 0, .slice none 0 0, .int .u64 0, .int .u64 0, .bool false] 56)) rfl (by kernel_rfl) (by kernel_rfl) ⟨SV.alloc _, ?_⟩)
            · rintro e wF ⟨p, n, c, fr, rfl, hfn, hnc, hnm, hby, hrow, LF⟩
              have zF := LF.size
              have zL := LV.size
              have zD := LD.size
              have bA := bA.below LF bA.lt
              have row := hrow.mono (T := fun k => k < w.heap.size ∨ wr.heap.size ≤ k) fun k _ h => h.imp id fun h => (by omega)
              have LV := Base.next LV LF
              have LD := Base.next LD LF
              have SV : Fr AA wr wF := Fr.of_below LV
              refine ⟨_, rfl, SV, ?_⟩
              refine held_two (i := 10) (j := 15) (by kernel_rfl) (op_call (i := 10) (f := 18) (args := #[.pointer (some gp), .pointer (some a), .slice p n c, .int .u64 (now + s.wt)]) rfl (by kernel_rfl) (by kernel_rfl) ((CT wF LV p n c fr hfn hnc hnm hby row).mono ?_)) (op_value (i := 15) (v := .pointer (some ⟨wF.heap.size, 0, none⟩)) (w' := wF.alloc (.cells #[.slice none 0 0, .slice none 0 0, .int .u64 0, .int .u64 0, .bool false] 56)) rfl (by kernel_rfl) (by kernel_rfl) ⟨SV.alloc _, ?_⟩)
              · rintro e wT ⟨x, cx, y, cy, Yf, rfl, hrw, QV, FT⟩
                have zT' := FT.size
                have zL := LV.size
                have zD := LD.size
                have lA := bA.lt
                have zA : (fun k => wr.heap.size ≤ k ∧ k < wF.heap.size) (D.heap.size) := ⟨by omega, lA⟩
                have bA := bA.kept FT (fun h => h (.inr ⟨by omega, lA⟩))
                have SV := QV.fr
                have NV : Fr (fun k => k < wr.heap.size) D wT := (Fr.of_below LD : Fr (fun k => k < wr.heap.size) D wF).trans FT (fun k hk h => Nat.lt_of_not_le fun h2 => h (.inr ⟨h2, by omega⟩))
                clear CT CF
                generalize hX : takeT g lr fr (now + s.wt) = X at *
                have hX := Lib.hid hX
                refine ⟨_, rfl, SV, ?_⟩
                refine held_take (i := 11) (v := .tuple #[.agg (vcells X.v), .agg (kcells X.k x cx y cy)]) rfl (by kernel_rfl) (by kernel_rfl) (by kernel_rfl) (fun _ _ _ h => h) (by kernel_rfl) SV (fun _ hu => by kernel_rfl) ?_
                refine held_take (i := 12) (v := .agg (vcells X.v)) rfl (by kernel_rfl) (by kernel_rfl) (by kernel_rfl) (fun _ _ _ h => h) (by kernel_rfl) SV (fun _ hu => by kernel_rfl) ?_
                refine held_take (i := 13) (v := .agg (kcells X.k x cx y cy)) rfl (by kernel_rfl) (by kernel_rfl) (by kernel_rfl) (fun _ _ _ h => h) (by kernel_rfl) SV (fun _ hu => by kernel_rfl) ?_
                refine held_one (i := 15) (v := .pointer (some ⟨wT.heap.size, 0, none⟩)) (w' := wT.alloc (.cells #[.slice none 0 0, .slice none 0 0, .int .u64 0, .int .u64 0, .bool false] 56)) rfl (by kernel_rfl) (by kernel_rfl) (by kernel_rfl) (SV.alloc _) ?_
                have hB : Below wT.heap.size wT (wT.alloc (.cells #[.slice none 0 0, .slice none 0 0, .int .u64 0, .int .u64 0, .bool false] 56)) := (Below.refl _ _).alloc (Nat.le_refl _) _
                have bB := Blk.new wT #[.slice none 0 0, .slice none 0 0, .int .u64 0, .int .u64 0, .bool false] 56
                have mB : wT.heap.size < (wT.alloc (.cells #[.slice none 0 0, .slice none 0 0, .int .u64 0, .int .u64 0, .bool false] 56)).heap.size := by simp
                generalize wT.alloc (.cells #[.slice none 0 0, .slice none 0 0, .int .u64 0, .int .u64 0, .bool false] 56) = vB at *
                have bA := bA.below hB bA.lt
                have zS' := SV.size
                have zD := NV.size
                obtain ⟨FB, ZB, QV, zzB, zB⟩ := QV.grow hB (by omega)
                have zA := zzB _ zA
                have NV := NV.trans (T := fun _ => False) (Fr.of_below hB) fun _ _ h => h.elim
                have SV := QV.fr
                have S1 := SV.setRow (g := D.heap.size) (fun h => by omega) (vcells X.v)
                refine held_st (i := 16) rfl (by kernel_rfl) (by kernel_rfl) (st_row 44 (.tmp 16) (.tmp 86) rfl (g := D.heap.size) (cells := vcells X.v) (by kernel_rfl) (by kernel_rfl) bA (by kernel_rfl) rfl (by simp [vcells, Value.oneCell'])) S1 ?_
                have bB1 := bB.otherRow (g := D.heap.size) (by omega) (vcells X.v)
                have S2 := S1.setRow (g := wT.heap.size) (fun h => by omega) (kcells X.k x cx y cy)
                refine held_st (i := 17) rfl (by kernel_rfl) (by kernel_rfl) (st_row 56 (.tmp 17) (.tmp 87) rfl (g := wT.heap.size) (cells := kcells X.k x cx y cy) (by kernel_rfl) (by kernel_rfl) bB1 (by kernel_rfl) rfl (by simp [kcells, Value.oneCell'])) S2 ?_
                refine held_done (by kernel_rfl) ?_
                have bA1 := (bA.setRow (vcells X.v)).otherRow (g := wT.heap.size) (by omega) (kcells X.k x cx y cy)
                have bB2 := bB1.setRow (kcells X.k x cx y cy)
                have QF := ((QV.set (b := D.heap.size) zA (by omega) (vcells X.v)).set (b := wT.heap.size) zB (by omega) (kcells X.k x cx y cy)).pick zA zB
                have NF := hDD.trans ((NV.setRow (g := D.heap.size) (fun h => by omega) (vcells X.v)).setRow (g := wT.heap.size) (fun h => by omega) (kcells X.k x cx y cy)) fun _ _ h => h
                go_wp2
                go_meet
                have hX := hX.out
                subst hX
                exact ⟨D.heap.size, wT.heap.size, fr, x, cx, y, cy, rfl, rfl, hby, bA1, bB2, ⟨by omega, by omega, by omega⟩, QF, S2, NF⟩
              · have hB : Below wF.heap.size wF (wF.alloc (.cells #[.slice none 0 0, .slice none 0 0, .int .u64 0, .int .u64 0, .bool false] 56)) := (Below.refl _ _).alloc (Nat.le_refl _) _
                have bB := Blk.new wF #[.slice none 0 0, .slice none 0 0, .int .u64 0, .int .u64 0, .bool false] 56
                have mB : wF.heap.size < (wF.alloc (.cells #[.slice none 0 0, .slice none 0 0, .int .u64 0, .int .u64 0, .bool false] 56)).heap.size := by simp
                generalize wF.alloc (.cells #[.slice none 0 0, .slice none 0 0, .int .u64 0, .int .u64 0, .bool false] 56) = vB at *
                have bA := bA.below hB bA.lt
                have row := row.kept (T := fun _ => False) (Fr.of_below hB) (fun _ _ h => h)
                have zL := LV.size
                have zD := LD.size
                have LV := Base.next LV hB
                have LD := Base.next LD hB
                have SV : Fr AA wr vB := Fr.of_below LV
                refine held_call (i := 10) (f := 18) (args := #[.pointer (some gp), .pointer (some a), .slice p n c, .int .u64 (now + s.wt)]) rfl (by kernel_rfl) (by kernel_rfl) (by kernel_rfl) ((CT vB LV p n c fr hfn hnc hnm hby row).mono ?_)
                rintro e wT ⟨x, cx, y, cy, Yf, rfl, hrw, QV, FT⟩
                have zT' := FT.size
                have zL := LV.size
                have zD := LD.size
                have lA := bA.lt
                have zA : (fun k => wr.heap.size ≤ k ∧ k < vB.heap.size) (D.heap.size) := ⟨by omega, lA⟩
                have bA := bA.kept FT (fun h => h (.inr ⟨by omega, lA⟩))
                have lB := bB.lt
                have zB : (fun k => wr.heap.size ≤ k ∧ k < vB.heap.size) (wF.heap.size) := ⟨by omega, lB⟩
                have bB := bB.kept FT (fun h => h (.inr ⟨by omega, lB⟩))
                have SV := QV.fr
                have NV : Fr (fun k => k < wr.heap.size) D wT := (Fr.of_below LD : Fr (fun k => k < wr.heap.size) D vB).trans FT (fun k hk h => Nat.lt_of_not_le fun h2 => h (.inr ⟨h2, by omega⟩))
                clear CT CF
                generalize hX : takeT g lr fr (now + s.wt) = X at *
                have hX := Lib.hid hX
                refine ⟨_, rfl, SV, ?_⟩
                refine held_take (i := 11) (v := .tuple #[.agg (vcells X.v), .agg (kcells X.k x cx y cy)]) rfl (by kernel_rfl) (by kernel_rfl) (by kernel_rfl) (fun _ _ _ h => h) (by kernel_rfl) SV (fun _ hu => by kernel_rfl) ?_
                refine held_take (i := 12) (v := .agg (vcells X.v)) rfl (by kernel_rfl) (by kernel_rfl) (by kernel_rfl) (fun _ _ _ h => h) (by kernel_rfl) SV (fun _ hu => by kernel_rfl) ?_
                refine held_take (i := 13) (v := .agg (kcells X.k x cx y cy)) rfl (by kernel_rfl) (by kernel_rfl) (by kernel_rfl) (fun _ _ _ h => h) (by kernel_rfl) SV (fun _ hu => by kernel_rfl) ?_
                have S1 := SV.setRow (g := D.heap.size) (fun h => by omega) (vcells X.v)
                refine held_st (i := 16) rfl (by kernel_rfl) (by kernel_rfl) (st_row 44 (.tmp 16) (.tmp 86) rfl (g := D.heap.size) (cells := vcells X.v) (by kernel_rfl) (by kernel_rfl) bA (by kernel_rfl) rfl (by simp [vcells, Value.oneCell'])) S1 ?_
                have bB1 := bB.otherRow (g := D.heap.size) (by omega) (vcells X.v)
                have S2 := S1.setRow (g := wF.heap.size) (fun h => by omega) (kcells X.k x cx y cy)
                refine held_st (i := 17) rfl (by kernel_rfl) (by kernel_rfl) (st_row 56 (.tmp 17) (.tmp 87) rfl (g := wF.heap.size) (cells := kcells X.k x cx y cy) (by kernel_rfl) (by kernel_rfl) bB1 (by kernel_rfl) rfl (by simp [kcells, Value.oneCell'])) S2 ?_
                refine held_done (by kernel_rfl) ?_
                have bA1 := (bA.setRow (vcells X.v)).otherRow (g := wF.heap.size) (by omega) (kcells X.k x cx y cy)
                have bB2 := bB1.setRow (kcells X.k x cx y cy)
                have QF := ((QV.set (b := D.heap.size) zA (by omega) (vcells X.v)).set (b := wF.heap.size) zB (by omega) (kcells X.k x cx y cy)).pick zA zB
                have NF := hDD.trans ((NV.setRow (g := D.heap.size) (fun h => by omega) (vcells X.v)).setRow (g := wF.heap.size) (fun h => by omega) (kcells X.k x cx y cy)) fun _ _ h => h
                go_wp2
                go_meet
                have hX := hX.out
                subst hX
                exact ⟨D.heap.size, wF.heap.size, fr, x, cx, y, cy, rfl, rfl, hby, bA1, bB2, ⟨by omega, by omega, by omega⟩, QF, S2, NF⟩
            · have hB : Below vA.heap.size vA (vA.alloc (.cells #[.slice none 0 0, .slice none 0 0, .int .u64 0, .int .u64 0, .bool false] 56)) := (Below.refl _ _).alloc (Nat.le_refl _) _
              have bB := Blk.new vA #[.slice none 0 0, .slice none 0 0, .int .u64 0, .int .u64 0, .bool false] 56
              have mB : vA.heap.size < (vA.alloc (.cells #[.slice none 0 0, .slice none 0 0, .int .u64 0, .int .u64 0, .bool false] 56)).heap.size := by simp
              generalize vA.alloc (.cells #[.slice none 0 0, .slice none 0 0, .int .u64 0, .int .u64 0, .bool false] 56) = vB at *
              have bA := bA.below hB bA.lt
              have zL := LV.size
              have zD := LD.size
              have LV := Base.next LV hB
              have LD := Base.next LD hB
              have SV : Fr AA wr vB := Fr.of_below LV
              refine held_call (i := 8) (f := 14) (args := #[.agg (shC s).toArray, .agg #[.pointer (some a), .pointer (some ⟨b, 0, none⟩)]]) rfl (by kernel_rfl) (by kernel_rfl) (by kernel_rfl) ((CF vB LV).mono ?_)
              rintro e wF ⟨p, n, c, fr, rfl, hfn, hnc, hnm, hby, hrow, LF⟩
              have zF := LF.size
              have zL := LV.size
              have zD := LD.size
              have bA := bA.below LF bA.lt
              have bB := bB.below LF bB.lt
              have row := hrow.mono (T := fun k => k < w.heap.size ∨ wr.heap.size ≤ k) fun k _ h => h.imp id fun h => (by omega)
              have LV := Base.next LV LF
              have LD := Base.next LD LF
              have SV : Fr AA wr wF := Fr.of_below LV
              refine ⟨_, rfl, SV, ?_⟩
              refine held_call (i := 10) (f := 18) (args := #[.pointer (some gp), .pointer (some a), .slice p n c, .int .u64 (now + s.wt)]) rfl (by kernel_rfl) (by kernel_rfl) (by kernel_rfl) ((CT wF LV p n c fr hfn hnc hnm hby row).mono ?_)
              rintro e wT ⟨x, cx, y, cy, Yf, rfl, hrw, QV, FT⟩
              have zT' := FT.size
              have zL := LV.size
              have zD := LD.size
              have lA := bA.lt
              have zA : (fun k => wr.heap.size ≤ k ∧ k < wF.heap.size) (D.heap.size) := ⟨by omega, lA⟩
              have bA := bA.kept FT (fun h => h (.inr ⟨by omega, lA⟩))
              have lB := bB.lt
              have zB : (fun k => wr.heap.size ≤ k ∧ k < wF.heap.size) (vA.heap.size) := ⟨by omega, lB⟩
              have bB := bB.kept FT (fun h => h (.inr ⟨by omega, lB⟩))
              have SV := QV.fr
              have NV : Fr (fun k => k < wr.heap.size) D wT := (Fr.of_below LD : Fr (fun k => k < wr.heap.size) D wF).trans FT (fun k hk h => Nat.lt_of_not_le fun h2 => h (.inr ⟨h2, by omega⟩))
              clear CT CF
              generalize hX : takeT g lr fr (now + s.wt) = X at *
              have hX := Lib.hid hX
              refine ⟨_, rfl, SV, ?_⟩
              refine held_take (i := 11) (v := .tuple #[.agg (vcells X.v), .agg (kcells X.k x cx y cy)]) rfl (by kernel_rfl) (by kernel_rfl) (by kernel_rfl) (fun _ _ _ h => h) (by kernel_rfl) SV (fun _ hu => by kernel_rfl) ?_
              refine held_take (i := 12) (v := .agg (vcells X.v)) rfl (by kernel_rfl) (by kernel_rfl) (by kernel_rfl) (fun _ _ _ h => h) (by kernel_rfl) SV (fun _ hu => by kernel_rfl) ?_
              refine held_take (i := 13) (v := .agg (kcells X.k x cx y cy)) rfl (by kernel_rfl) (by kernel_rfl) (by kernel_rfl) (fun _ _ _ h => h) (by kernel_rfl) SV (fun _ hu => by kernel_rfl) ?_
              have S1 := SV.setRow (g := D.heap.size) (fun h => by omega) (vcells X.v)
              refine held_st (i := 16) rfl (by kernel_rfl) (by kernel_rfl) (st_row 44 (.tmp 16) (.tmp 86) rfl (g := D.heap.size) (cells := vcells X.v) (by kernel_rfl) (by kernel_rfl) bA (by kernel_rfl) rfl (by simp [vcells, Value.oneCell'])) S1 ?_
              have bB1 := bB.otherRow (g := D.heap.size) (by omega) (vcells X.v)
              have S2 := S1.setRow (g := vA.heap.size) (fun h => by omega) (kcells X.k x cx y cy)
              refine held_st (i := 17) rfl (by kernel_rfl) (by kernel_rfl) (st_row 56 (.tmp 17) (.tmp 87) rfl (g := vA.heap.size) (cells := kcells X.k x cx y cy) (by kernel_rfl) (by kernel_rfl) bB1 (by kernel_rfl) rfl (by simp [kcells, Value.oneCell'])) S2 ?_
              refine held_done (by kernel_rfl) ?_
              have bA1 := (bA.setRow (vcells X.v)).otherRow (g := vA.heap.size) (by omega) (kcells X.k x cx y cy)
              have bB2 := bB1.setRow (kcells X.k x cx y cy)
              have QF := ((QV.set (b := D.heap.size) zA (by omega) (vcells X.v)).set (b := vA.heap.size) zB (by omega) (kcells X.k x cx y cy)).pick zA zB
              have NF := hDD.trans ((NV.setRow (g := D.heap.size) (fun h => by omega) (vcells X.v)).setRow (g := vA.heap.size) (fun h => by omega) (kcells X.k x cx y cy)) fun _ _ h => h
              go_wp2
              go_meet
              have hX := hX.out
              subst hX
              exact ⟨D.heap.size, vA.heap.size, fr, x, cx, y, cy, rfl, rfl, hby, bA1, bB2, ⟨by omega, by omega, by omega⟩, QF, S2, NF⟩
          · have hB : Below D.heap.size D (D.alloc (.cells #[.slice none 0 0, .slice none 0 0, .int .u64 0, .int .u64 0, .bool false] 56)) := (Below.refl _ _).alloc (Nat.le_refl _) _
            have bB := Blk.new D #[.slice none 0 0, .slice none 0 0, .int .u64 0, .int .u64 0, .bool false] 56
            have mB : D.heap.size < (D.alloc (.cells #[.slice none 0 0, .slice none 0 0, .int .u64 0, .int .u64 0, .bool false] 56)).heap.size := by simp
            generalize D.alloc (.cells #[.slice none 0 0, .slice none 0 0, .int .u64 0, .int .u64 0, .bool false] 56) = vB at *
            have zL := LV.size
            have zD := LD.size
            have LV := Base.next LV hB
            have LD := Base.next LD hB
            have SV : Fr AA wr vB := Fr.of_below LV
            refine held_two (i := 8) (j := 14) (by kernel_rfl) (op_call (i := 8) (f := 14) (args := #[.agg (shC s).toArray, .agg #[.pointer (some a), .pointer (some ⟨b, 0, none⟩)]]) rfl (by kernel_rfl) (by kernel_rfl) ((CF vB LV).mono ?_)) (op_value (i := 14) (v := .pointer (some ⟨vB.heap.size, 0, none⟩)) (w' := vB.alloc (.cells #[.int .i64 0, .int .i64 0, .int .u64 0, .bool false] 44)) rfl (by kernel_rfl) (by kernel_rfl) ⟨SV.alloc _, ?_⟩)
            · rintro e wF ⟨p, n, c, fr, rfl, hfn, hnc, hnm, hby, hrow, LF⟩
              have zF := LF.size
              have zL := LV.size
              have zD := LD.size
              have bB := bB.below LF bB.lt
              have row := hrow.mono (T := fun k => k < w.heap.size ∨ wr.heap.size ≤ k) fun k _ h => h.imp id fun h => (by omega)
              have LV := Base.next LV LF
              have LD := Base.next LD LF
              have SV : Fr AA wr wF := Fr.of_below LV
              refine ⟨_, rfl, SV, ?_⟩
              refine held_two (i := 10) (j := 14) (by kernel_rfl) (op_call (i := 10) (f := 18) (args := #[.pointer (some gp), .pointer (some a), .slice p n c, .int .u64 (now + s.wt)]) rfl (by kernel_rfl) (by kernel_rfl) ((CT wF LV p n c fr hfn hnc hnm hby row).mono ?_)) (op_value (i := 14) (v := .pointer (some ⟨wF.heap.size, 0, none⟩)) (w' := wF.alloc (.cells #[.int .i64 0, .int .i64 0, .int .u64 0, .bool false] 44)) rfl (by kernel_rfl) (by kernel_rfl) ⟨SV.alloc _, ?_⟩)
              · rintro e wT ⟨x, cx, y, cy, Yf, rfl, hrw, QV, FT⟩
                have zT' := FT.size
                have zL := LV.size
                have zD := LD.size
                have lB := bB.lt
                have zB : (fun k => wr.heap.size ≤ k ∧ k < wF.heap.size) (D.heap.size) := ⟨by omega, lB⟩
                have bB := bB.kept FT (fun h => h (.inr ⟨by omega, lB⟩))
                have SV := QV.fr
                have NV : Fr (fun k => k < wr.heap.size) D wT := (Fr.of_below LD : Fr (fun k => k < wr.heap.size) D wF).trans FT (fun k hk h => Nat.lt_of_not_le fun h2 => h (.inr ⟨h2, by omega⟩))
                clear CT CF
                generalize hX : takeT g lr fr (now + s.wt) = X at *
                have hX := Lib.hid hX
                refine ⟨_, rfl, SV, ?_⟩
                refine held_take (i := 11) (v := .tuple #[.agg (vcells X.v), .agg (kcells X.k x cx y cy)]) rfl (by kernel_rfl) (by kernel_rfl) (by kernel_rfl) (fun _ _ _ h => h) (by kernel_rfl) SV (fun _ hu => by kernel_rfl) ?_
                refine held_take (i := 12) (v := .agg (vcells X.v)) rfl (by kernel_rfl) (by kernel_rfl) (by kernel_rfl) (fun _ _ _ h => h) (by kernel_rfl) SV (fun _ hu => by kernel_rfl) ?_
                refine held_take (i := 13) (v := .agg (kcells X.k x cx y cy)) rfl (by kernel_rfl) (by kernel_rfl) (by kernel_rfl) (fun _ _ _ h => h) (by kernel_rfl) SV (fun _ hu => by kernel_rfl) ?_
                refine held_one (i := 14) (v := .pointer (some ⟨wT.heap.size, 0, none⟩)) (w' := wT.alloc (.cells #[.int .i64 0, .int .i64 0, .int .u64 0, .bool false] 44)) rfl (by kernel_rfl) (by kernel_rfl) (by kernel_rfl) (SV.alloc _) ?_
                have hA : Below wT.heap.size wT (wT.alloc (.cells #[.int .i64 0, .int .i64 0, .int .u64 0, .bool false] 44)) := (Below.refl _ _).alloc (Nat.le_refl _) _
                have bA := Blk.new wT #[.int .i64 0, .int .i64 0, .int .u64 0, .bool false] 44
                have mA : wT.heap.size < (wT.alloc (.cells #[.int .i64 0, .int .i64 0, .int .u64 0, .bool false] 44)).heap.size := by simp
                generalize wT.alloc (.cells #[.int .i64 0, .int .i64 0, .int .u64 0, .bool false] 44) = vA at *
                have bB := bB.below hA bB.lt
                have zS' := SV.size
                have zD := NV.size
                obtain ⟨FA, ZA, QV, zzA, zA⟩ := QV.grow hA (by omega)
                have zB := zzA _ zB
                have NV := NV.trans (T := fun _ => False) (Fr.of_below hA) fun _ _ h => h.elim
                have SV := QV.fr
                have S1 := SV.setRow (g := wT.heap.size) (fun h => by omega) (vcells X.v)
                refine held_st (i := 16) rfl (by kernel_rfl) (by kernel_rfl) (st_row 44 (.tmp 16) (.tmp 86) rfl (g := wT.heap.size) (cells := vcells X.v) (by kernel_rfl) (by kernel_rfl) bA (by kernel_rfl) rfl (by simp [vcells, Value.oneCell'])) S1 ?_
                have bB1 := bB.otherRow (g := wT.heap.size) (by omega) (vcells X.v)
                have S2 := S1.setRow (g := D.heap.size) (fun h => by omega) (kcells X.k x cx y cy)
                refine held_st (i := 17) rfl (by kernel_rfl) (by kernel_rfl) (st_row 56 (.tmp 17) (.tmp 87) rfl (g := D.heap.size) (cells := kcells X.k x cx y cy) (by kernel_rfl) (by kernel_rfl) bB1 (by kernel_rfl) rfl (by simp [kcells, Value.oneCell'])) S2 ?_
                refine held_done (by kernel_rfl) ?_
                have bA1 := (bA.setRow (vcells X.v)).otherRow (g := D.heap.size) (by omega) (kcells X.k x cx y cy)
                have bB2 := bB1.setRow (kcells X.k x cx y cy)
                have QF := ((QV.set (b := wT.heap.size) zA (by omega) (vcells X.v)).set (b := D.heap.size) zB (by omega) (kcells X.k x cx y cy)).pick zA zB
                have NF := hDD.trans ((NV.setRow (g := wT.heap.size) (fun h => by omega) (vcells X.v)).setRow (g := D.heap.size) (fun h => by omega) (kcells X.k x cx y cy)) fun _ _ h => h
                go_wp2
                go_meet
                have hX := hX.out
                subst hX
                exact ⟨wT.heap.size, D.heap.size, fr, x, cx, y, cy, rfl, rfl, hby, bA1, bB2, ⟨by omega, by omega, by omega⟩, QF, S2, NF⟩
              · have hA : Below wF.heap.size wF (wF.alloc (.cells #[.int .i64 0, .int .i64 0, .int .u64 0, .bool false] 44)) := (Below.refl _ _).alloc (Nat.le_refl _) _
                have bA := Blk.new wF #[.int .i64 0, .int .i64 0, .int .u64 0, .bool false] 44
                have mA : wF.heap.size < (wF.alloc (.cells #[.int .i64 0, .int .i64 0, .int .u64 0, .bool false] 44)).heap.size := by simp
                generalize wF.alloc (.cells #[.int .i64 0, .int .i64 0, .int .u64 0, .bool false] 44) = vA at *
                have bB := bB.below hA bB.lt
                have row := row.kept (T := fun _ => False) (Fr.of_below hA) (fun _ _ h => h)
                have zL := LV.size
                have zD := LD.size
                have LV := Base.next LV hA
                have LD := Base.next LD hA
                have SV : Fr AA wr vA := Fr.of_below LV
                refine held_call (i := 10) (f := 18) (args := #[.pointer (some gp), .pointer (some a), .slice p n c, .int .u64 (now + s.wt)]) rfl (by kernel_rfl) (by kernel_rfl) (by kernel_rfl) ((CT vA LV p n c fr hfn hnc hnm hby row).mono ?_)
                rintro e wT ⟨x, cx, y, cy, Yf, rfl, hrw, QV, FT⟩
                have zT' := FT.size
                have zL := LV.size
                have zD := LD.size
                have lA := bA.lt
                have zA : (fun k => wr.heap.size ≤ k ∧ k < vA.heap.size) (wF.heap.size) := ⟨by omega, lA⟩
                have bA := bA.kept FT (fun h => h (.inr ⟨by omega, lA⟩))
                have lB := bB.lt
                have zB : (fun k => wr.heap.size ≤ k ∧ k < vA.heap.size) (D.heap.size) := ⟨by omega, lB⟩
                have bB := bB.kept FT (fun h => h (.inr ⟨by omega, lB⟩))
                have SV := QV.fr
                have NV : Fr (fun k => k < wr.heap.size) D wT := (Fr.of_below LD : Fr (fun k => k < wr.heap.size) D vA).trans FT (fun k hk h => Nat.lt_of_not_le fun h2 => h (.inr ⟨h2, by omega⟩))
                clear CT CF
                generalize hX : takeT g lr fr (now + s.wt) = X at *
                have hX := Lib.hid hX
                refine ⟨_, rfl, SV, ?_⟩
                refine held_take (i := 11) (v := .tuple #[.agg (vcells X.v), .agg (kcells X.k x cx y cy)]) rfl (by kernel_rfl) (by kernel_rfl) (by kernel_rfl) (fun _ _ _ h => h) (by kernel_rfl) SV (fun _ hu => by kernel_rfl) ?_
                refine held_take (i := 12) (v := .agg (vcells X.v)) rfl (by kernel_rfl) (by kernel_rfl) (by kernel_rfl) (fun _ _ _ h => h) (by kernel_rfl) SV (fun _ hu => by kernel_rfl) ?_
                refine held_take (i := 13) (v := .agg (kcells X.k x cx y cy)) rfl (by kernel_rfl) (by kernel_rfl) (by kernel_rfl) (fun _ _ _ h => h) (by kernel_rfl) SV (fun _ hu => by kernel_rfl) ?_
                have S1 := SV.setRow (g := wF.heap.size) (fun h => by omega) (vcells X.v)
                refine held_st (i := 16) rfl (by kernel_rfl) (by kernel_rfl) (st_row 44 (.tmp 16) (.tmp 86) rfl (g := wF.heap.size) (cells := vcells X.v) (by kernel_rfl) (by kernel_rfl) bA (by kernel_rfl) rfl (by simp [vcells, Value.oneCell'])) S1 ?_
                have bB1 := bB.otherRow (g := wF.heap.size) (by omega) (vcells X.v)
                have S2 := S1.setRow (g := D.heap.size) (fun h => by omega) (kcells X.k x cx y cy)
                refine held_st (i := 17) rfl (by kernel_rfl) (by kernel_rfl) (st_row 56 (.tmp 17) (.tmp 87) rfl (g := D.heap.size) (cells := kcells X.k x cx y cy) (by kernel_rfl) (by kernel_rfl) bB1 (by kernel_rfl) rfl (by simp [kcells, Value.oneCell'])) S2 ?_
                refine held_done (by kernel_rfl) ?_
                have bA1 := (bA.setRow (vcells X.v)).otherRow (g := D.heap.size) (by omega) (kcells X.k x cx y cy)
                have bB2 := bB1.setRow (kcells X.k x cx y cy)
                have QF := ((QV.set (b := wF.heap.size) zA (by omega) (vcells X.v)).set (b := D.heap.size) zB (by omega) (kcells X.k x cx y cy)).pick zA zB
                have NF := hDD.trans ((NV.setRow (g := wF.heap.size) (fun h => by omega) (vcells X.v)).setRow (g := D.heap.size) (fun h => by omega) (kcells X.k x cx y cy)) fun _ _ h => h
                go_wp2
                go_meet
                have hX := hX.out
                subst hX
                exact ⟨wF.heap.size, D.heap.size, fr, x, cx, y, cy, rfl, rfl, hby, bA1, bB2, ⟨by omega, by omega, by omega⟩, QF, S2, NF⟩
            · have hA : Below vB.heap.size vB (vB.alloc (.cells #[.int .i64 0, .int .i64 0, .int .u64 0, .bool false] 44)) := (Below.refl _ _).alloc (Nat.le_refl _) _
              have bA := Blk.new vB #[.int .i64 0, .int .i64 0, .int .u64 0, .bool false] 44
              have mA : vB.heap.size < (vB.alloc (.cells #[.int .i64 0, .int .i64 0, .int .u64 0, .bool false] 44)).heap.size := by simp
              generalize vB.alloc (.cells #[.int .i64 0, .int .i64 0, .int .u64 0, .bool false] 44) = vA at *
              have bB := bB.below hA bB.lt
              have zL := LV.size
              have zD := LD.size
              have LV := Base.next LV hA
              have LD := Base.next LD hA
              have SV : Fr AA wr vA := Fr.of_below LV
              refine held_call (i := 8) (f := 14) (args := #[.agg (shC s).toArray, .agg #[.pointer (some a), .pointer (some ⟨b, 0, none⟩)]]) rfl (by kernel_rfl) (by kernel_rfl) (by kernel_rfl) ((CF vA LV).mono ?_)
              rintro e wF ⟨p, n, c, fr, rfl, hfn, hnc, hnm, hby, hrow, LF⟩
              have zF := LF.size
              have zL := LV.size
              have zD := LD.size
              have bA := bA.below LF bA.lt
              have bB := bB.below LF bB.lt
              have row := hrow.mono (T := fun k => k < w.heap.size ∨ wr.heap.size ≤ k) fun k _ h => h.imp id fun h => (by omega)
              have LV := Base.next LV LF
              have LD := Base.next LD LF
              have SV : Fr AA wr wF := Fr.of_below LV
              refine ⟨_, rfl, SV, ?_⟩
              refine held_call (i := 10) (f := 18) (args := #[.pointer (some gp), .pointer (some a), .slice p n c, .int .u64 (now + s.wt)]) rfl (by kernel_rfl) (by kernel_rfl) (by kernel_rfl) ((CT wF LV p n c fr hfn hnc hnm hby row).mono ?_)
              rintro e wT ⟨x, cx, y, cy, Yf, rfl, hrw, QV, FT⟩
              have zT' := FT.size
              have zL := LV.size
              have zD := LD.size
              have lA := bA.lt
              have zA : (fun k => wr.heap.size ≤ k ∧ k < wF.heap.size) (vB.heap.size) := ⟨by omega, lA⟩
              have bA := bA.kept FT (fun h => h (.inr ⟨by omega, lA⟩))
              have lB := bB.lt
              have zB : (fun k => wr.heap.size ≤ k ∧ k < wF.heap.size) (D.heap.size) := ⟨by omega, lB⟩
              have bB := bB.kept FT (fun h => h (.inr ⟨by omega, lB⟩))
              have SV := QV.fr
              have NV : Fr (fun k => k < wr.heap.size) D wT := (Fr.of_below LD : Fr (fun k => k < wr.heap.size) D wF).trans FT (fun k hk h => Nat.lt_of_not_le fun h2 => h (.inr ⟨h2, by omega⟩))
              clear CT CF
              generalize hX : takeT g lr fr (now + s.wt) = X at *
              have hX := Lib.hid hX
              refine ⟨_, rfl, SV, ?_⟩
              refine held_take (i := 11) (v := .tuple #[.agg (vcells X.v), .agg (kcells X.k x cx y cy)]) rfl (by kernel_rfl) (by kernel_rfl) (by kernel_rfl) (fun _ _ _ h => h) (by kernel_rfl) SV (fun _ hu => by kernel_rfl) ?_
              refine held_take (i := 12) (v := .agg (vcells X.v)) rfl (by kernel_rfl) (by kernel_rfl) (by kernel_rfl) (fun _ _ _ h => h) (by kernel_rfl) SV (fun _ hu => by kernel_rfl) ?_
              refine held_take (i := 13) (v := .agg (kcells X.k x cx y cy)) rfl (by kernel_rfl) (by kernel_rfl) (by kernel_rfl) (fun _ _ _ h => h) (by kernel_rfl) SV (fun _ hu => by kernel_rfl) ?_
              have S1 := SV.setRow (g := vB.heap.size) (fun h => by omega) (vcells X.v)
              refine held_st (i := 16) rfl (by kernel_rfl) (by kernel_rfl) (st_row 44 (.tmp 16) (.tmp 86) rfl (g := vB.heap.size) (cells := vcells X.v) (by kernel_rfl) (by kernel_rfl) bA (by kernel_rfl) rfl (by simp [vcells, Value.oneCell'])) S1 ?_
              have bB1 := bB.otherRow (g := vB.heap.size) (by omega) (vcells X.v)
              have S2 := S1.setRow (g := D.heap.size) (fun h => by omega) (kcells X.k x cx y cy)
              refine held_st (i := 17) rfl (by kernel_rfl) (by kernel_rfl) (st_row 56 (.tmp 17) (.tmp 87) rfl (g := D.heap.size) (cells := kcells X.k x cx y cy) (by kernel_rfl) (by kernel_rfl) bB1 (by kernel_rfl) rfl (by simp [kcells, Value.oneCell'])) S2 ?_
              refine held_done (by kernel_rfl) ?_
              have bA1 := (bA.setRow (vcells X.v)).otherRow (g := D.heap.size) (by omega) (kcells X.k x cx y cy)
              have bB2 := bB1.setRow (kcells X.k x cx y cy)
              have QF := ((QV.set (b := vB.heap.size) zA (by omega) (vcells X.v)).set (b := D.heap.size) zB (by omega) (kcells X.k x cx y cy)).pick zA zB
              have NF := hDD.trans ((NV.setRow (g := vB.heap.size) (fun h => by omega) (vcells X.v)).setRow (g := D.heap.size) (fun h => by omega) (kcells X.k x cx y cy)) fun _ _ h => h
              go_wp2
              go_meet
              have hX := hX.out
              subst hX
              exact ⟨vB.heap.size, D.heap.size, fr, x, cx, y, cy, rfl, rfl, hby, bA1, bB2, ⟨by omega, by omega, by omega⟩, QF, S2, NF⟩
        case rest =>
          obtain ⟨q1, q2, fr, x, cx, y, cy, rfl, rfl, hby, bA, bB, ⟨r1, r2, r3⟩, QF, SF, NF⟩ := hcut
          have hok := Q.ok
          have hcb2 := cb_take hc hok hby (now := (now + s.wt)) (by omega) (by omega)
          have hlen2 := len_take g lr fr (now + s.wt)
          have hcs := take_cases hok g fr (now + s.wt)
          have hAw : ∀ k, wr.heap.size ≤ k → AA k := fun k hk => hA2 k (by omega) (by omega)
          have hLw := hL.trans (SF.toBelow' (B := w.heap.size) hL.size fun k _ hk => hA0 k hk)
          have nC := nB.kept NF (fun h => by omega)
          have rwC := rw3.kept NF (fun k hk h => by omega)
          have T8 := T7.kept SF (fun h => hA1 _ h rfl)
          generalize takeT g lr fr (now + s.wt) = X at *
          clear nB rw3 LV3 NF
          have C3 := tri_counts QF hcb2 (by omega)
          go_upto_region 13 with (go_at_call 17; refine C3.mono ?_; rintro e v4 ⟨rfl, L4⟩)
          refine at_world ?_
          intro v5 hU
          have s4 := L4.size
          obtain ⟨mB, L5⟩ : Blk v5 v4.heap.size #[.int .u64 X.g.n.mal, .int .u64 X.g.n.drop, .int .u64 X.g.n.taken, .int .u64 X.g.n.chal, .int .u64 X.g.n.late] 52 ∧ Below wc.heap.size wc v5 := by
            subst hU
            exact ⟨Blk.new _ _ _, L4.alloc L4.size _⟩
          clear hU L4 C3
          have nD := nC.below L5 nC.lt
          have A5 := bA.below L5 bA.lt
          have B5 := bB.below L5 bB.lt
          have T9 := T8.below L5 T8.lt
          have Q5' := QF.next L5
          have M9 := Base.next hLw L5
          have rwD := (rwC.mono (T := fun k => k < wc.heap.size) fun k hk _ => hk).below L5 (fun k h => h)
          have sC := L5.size
          have lA := A5.lt
          have lB := B5.lt
          have lm := mB.lt
          have ln := nD.lt
          have lt9 := T9.lt
          have m0 := hc.m0
          have m1' := hc.m1
          have d0' := hc.d0
          have d1' := hc.d1
          have u0' := hc.t0
          have u1' := hc.t1
          have c0' := hc.c0
          have c1' := hc.c1
          have l0' := hc.l0
          have l1' := hc.l1
          have a0c : v5.cell? ⟨q1, 0, none⟩ = some (.int .i64 X.v.kind) := A5.cell 0
          have a2c : v5.cell? ⟨q1, 2, none⟩ = some (.int .u64 X.v.pn) := A5.cell 2
          have a3c : v5.cell? ⟨q1, 3, none⟩ = some (.bool X.v.chal) := A5.cell 3
          have b0c : v5.cell? ⟨q2, 0, none⟩ = some (.slice x X.k.spans.length cx) := B5.cell 0
          have m0c : v5.cell? ⟨v4.heap.size, 0, none⟩ = some (.int .u64 X.g.n.mal) := mB.cell 0
          have m1c : v5.cell? ⟨v4.heap.size, 1, none⟩ = some (.int .u64 X.g.n.drop) := mB.cell 1
          have m2c : v5.cell? ⟨v4.heap.size, 2, none⟩ = some (.int .u64 X.g.n.taken) := mB.cell 2
          have m3c : v5.cell? ⟨v4.heap.size, 3, none⟩ = some (.int .u64 X.g.n.chal) := mB.cell 3
          have m4c : v5.cell? ⟨v4.heap.size, 4, none⟩ = some (.int .u64 X.g.n.late) := mB.cell 4
          have n0c : v5.cell? ⟨v2.heap.size, 0, none⟩ = some (.int .u64 g.n.mal) := nD.cell 0
          have n1c : v5.cell? ⟨v2.heap.size, 1, none⟩ = some (.int .u64 g.n.drop) := nD.cell 1
          have n2c : v5.cell? ⟨v2.heap.size, 2, none⟩ = some (.int .u64 g.n.taken) := nD.cell 2
          have n3c : v5.cell? ⟨v2.heap.size, 3, none⟩ = some (.int .u64 g.n.chal) := nD.cell 3
          have n4c : v5.cell? ⟨v2.heap.size, 4, none⟩ = some (.int .u64 g.n.late) := nD.cell 4
          have t0c : v5.cell? ⟨tb, 0, none⟩ = some (.pointer (some a)) := T9.cell 0
          have t1c : v5.cell? ⟨tb, 1, none⟩ = some (.pointer (some ⟨b, 0, none⟩)) := T9.cell 1
          have hFw := hF.trans SF fun _ _ h => h
          clear A5 B5 mB nD bA bB nC T8 rwC QF hFit ds d8 hbz hbw w3 f3 T9 T7 hlr htl w1 f1
          rcases hcs with hd | ⟨e1k, e2k, e3k⟩ | ⟨e1k, e2k, e3k, i, e4k, e6k, e5k, e7k⟩
          · have hk0 := hd.kind
            have hp0 := hd.pn
            have hkz := hd.k
            have htk := hd.taken
            have hll := hd.l
            have hon := hd.one
            clear hd
            rw [hk0] at a0c
            rw [hp0] at a2c
            rw [hkz] at b0c
            rw [htk] at m2c
            obtain ⟨SL2, hLd2⟩ := Q5'.led
            have CAll := Led.all_any hLd2 (by omega)
            rw [hll] at CAll
            have CSm := fun V (pz : Option Addr) cz (hV : Below v5.heap.size v5 V) (hz : Sents V pz (allS lr)) => ref_same pw pz (allS lr).length cw cz (allS lr) V rfl (by have : (allS lr).length ≤ lr.l.length := (by unfold allS; rw [List.length_drop]; omega); omega) (Row.below rwD.row hV) hz
            have hrel := fun V (hV : Below v5.heap.size v5 V) => (show Tri AA (fun _ => False) (fun _ => False) V V a b gp X.l lr X.g from (((Q5'.next hV).bare).at_ hAw))
            have hfr := fun V (hV : Below v5.heap.size v5 V) => (show Fr AA U V from (hFw.trans (T := fun _ => False) (Fr.of_below (Base.next L5 hV)) fun _ _ h => h.elim))
            have hco : ¬ (g.n.chal = g.n.chal + 1) := by omega
            have hz0 : AckPlain.zero.spans.length = 0 := rfl
            generalize AckPlain.zero.spans = zsp at *
            have hsum : (g.n.mal ≤ X.g.n.mal ∧ X.g.n.mal ≤ g.n.mal + 1) ∧ (g.n.drop ≤ X.g.n.drop ∧ X.g.n.drop ≤ g.n.drop + 1) ∧ (g.n.late ≤ X.g.n.late ∧ X.g.n.late ≤ g.n.late + 1) ∧ X.g.n.mal - g.n.mal + X.g.n.drop - g.n.drop + X.g.n.late - g.n.late = 1 := by
              rcases hon with ⟨o1, o2, o3, o4, o5⟩ | ⟨o1, o2, o3, o4, o5⟩ | ⟨o1, o2, o3, o4, o5⟩ | ⟨o1, o2, o3, o4, o5⟩
              all_goals omega
            have hch : (X.g.n.chal = g.n.chal ∧ X.v.chal = false) ∨ (X.g.n.chal = g.n.chal + 1 ∧ X.v.chal = true) := by
              rcases hon with ⟨o1, o2, o3, o4, o5⟩ | ⟨o1, o2, o3, o4, o5⟩ | ⟨o1, o2, o3, o4, o5⟩ | ⟨o1, o2, o3, o4, o5⟩
              · exact .inl ⟨o4, o5⟩
              · exact .inl ⟨o4, o5⟩
              · exact .inl ⟨o4, o5⟩
              · exact .inr ⟨o4, o5⟩
            clear hon
            obtain ⟨⟨g1, g2⟩, ⟨g3, g4⟩, ⟨g5, g6⟩, es⟩ := hsum
            rcases hch with ⟨o4, o5⟩ | ⟨o4, o5⟩
            · rw [o4] at m3c
              rw [o5] at a3c
              have lz1 := hz0
              clear o4 o5
              go_wp2_with (first
                | (go_at_call 16; (with_reducible refine CAll.mono ?_); rintro e v6 ⟨pz, cz, rfl, hz1, hz2, rz, L6⟩; have CS6 := CSm v6 pz cz L6 rz.row; have s6 := L6.size)
                | (go_at_call 19; (with_reducible refine CS6.mono ?_); rintro e v7 ⟨rfl, L7⟩; have L67 := Base.next L6 L7; have a0c7 := keepCell L67 a0c; have a2c7 := keepCell L67 a2c; have a3c7 := keepCell L67 a3c; have b0c7 := keepCell L67 b0c; have m2c7 := keepCell L67 m2c; have m3c7 := keepCell L67 m3c; have n2c7 := keepCell L67 n2c; have n3c7 := keepCell L67 n3c; have s7 := L67.size))
              all_goals go_roundw
              case rel => exact ⟨t + 1, (now + s.wt), X.g, X.l, lr, by omega, by go_num, rfl, by omega, by push_cast; omega, hcb2, by omega, .inl hll.symm, hrel _ L67, hfr _ L67⟩
              case measure => simp only [intOf]; omega
            · rw [o4] at m3c
              rw [o5] at a3c
              have lz1 := hz0
              clear o4 o5
              go_wp2_with (first
                | (go_at_call 16; (with_reducible refine CAll.mono ?_); rintro e v6 ⟨pz, cz, rfl, hz1, hz2, rz, L6⟩; have CS6 := CSm v6 pz cz L6 rz.row; have s6 := L6.size)
                | (go_at_call 19; (with_reducible refine CS6.mono ?_); rintro e v7 ⟨rfl, L7⟩; have L67 := Base.next L6 L7; have a0c7 := keepCell L67 a0c; have a2c7 := keepCell L67 a2c; have a3c7 := keepCell L67 a3c; have b0c7 := keepCell L67 b0c; have m2c7 := keepCell L67 m2c; have m3c7 := keepCell L67 m3c; have n2c7 := keepCell L67 n2c; have n3c7 := keepCell L67 n3c; have s7 := L67.size))
              all_goals go_roundw
              case rel => exact ⟨t + 1, (now + s.wt), X.g, X.l, lr, by omega, by go_num, rfl, by omega, by push_cast; omega, hcb2, by omega, .inl hll.symm, hrel _ L67, hfr _ L67⟩
              case measure => simp only [intOf]; omega
          · rw [e1k] at a0c
            rw [e2k] at a3c
            rw [e3k] at m0c m1c m2c m3c m4c
            have hco : ¬ (g.n.chal = g.n.chal + 1) := by omega
            by_cases hlast : (t : Int) < (z3.length : Int) - 1
            · go_wp2
              all_goals go_ret
              all_goals exact ⟨rfl, M9⟩
            · go_wp2
              all_goals go_roundw
              case rel => exact ⟨t + 1, (now + s.wt), X.g, X.l, lr, by omega, by go_num, rfl, by omega, by push_cast; omega, hcb2, by omega, .inr (by omega), (Q5'.bare).at_ hAw, hFw.trans (T := fun _ => False) (Fr.of_below L5) fun _ _ h => h.elim⟩
              case measure => simp only [intOf]; omega
          · rw [e1k] at a0c
            rw [e2k] at a3c
            rw [e4k] at a2c
            rw [e3k] at m0c m1c m2c m3c m4c
            simp only at m2c
            have hco : ¬ (g.n.chal = g.n.chal + 1) := by omega
            have CU := tri_use Q5' (i : Int) (by omega) e6k
            rw [e5k] at CU
            go_wp2_with (go_at_call 20; refine CU.mono ?_; rintro e v6 ⟨rfl, Q6, F6⟩; have s6 := F6.size; have a06 : v6.cell? ⟨q1, 0, none⟩ = some (.int .i64 2) := (F6.cell (p := ⟨q1, 0, none⟩) (Nat.lt_of_lt_of_le lA (Nat.le_refl _)) (fun h => h (.inl rfl))).trans a0c)
            all_goals go_roundw
            case rel => exact ⟨t + 1, (now + s.wt), X.g, X.l, useG lr i, by omega, by go_num, rfl, by omega, by push_cast; omega, hcb2, by omega, .inl e7k.symm, (Q6.bare).at_ hAw, hF.trans Q6.fr fun _ _ h => h⟩
            case measure => simp only [intOf]; omega
      · have hlI : ¬ (t : Int) < (z3.length : Int) := by omega
        go_wp2
        all_goals go_ret
        all_goals exact ⟨rfl, hL⟩

set_option maxRecDepth 100000 in
theorem lifted (os : Os) (started : os.Started) (H : Type) (enc : TypeId × Value → H) :
    ReturnsInHanded {} Tryz.checked os 4 .any (Rows.guardDropsSpec.pre6 enc Tryz.prog Tryz.f4 Rows.guardDropsRow.domain false) (Rows.guardDropsSpec.post enc Tryz.prog Tryz.f4 false true false false) := by
  refine returnsInHanded_of_change (C := Tryz.checked) own started (by kernel_rfl) Tryz.func4
    (ChangeSpec.witness6 (enc := enc) (C := Tryz.checked) false ⟨#[], #[.int .u8 0, .slice none 0 0, .int .u8 0, .slice none 0 0], []⟩ 8 (by kernel_rfl) (by kernel_rfl) (by kernel_rfl) (by kernel_rfl)) ?_
  intro W base args ds gs before hval0 hW hcnd _
  have hval : ∀ (j : Nat) t v, Tryz.f4.params[j]? = some t → args[j]? = some v → Value.okWide Tryz.prog W .any base t v := hval0
  have hW' := hW
  obtain ⟨p, q, hA0, hV, rfl, hfz, hnd⟩ := hW
  have hA : DataW.TrodAll enc Tryz.prog W 0 (fun _ => true) true Tryz.f4.params.toList args.toList ds p := hA0
  rw [Tryz.params4] at hA hval
  obtain ⟨v0, vs0, d0, ds0, p0, q0, hargs, rfl, rfl, h0, r0⟩ := trodAll_cons hA
  obtain ⟨v1, vs1, d1, ds1, p1, q1, rfl, rfl, rfl, h1, r1⟩ := trodAll_cons r0
  obtain ⟨v2, vs2, d2, ds2, p2, q2, rfl, rfl, rfl, h2, r2⟩ := trodAll_cons r1
  obtain ⟨v3, vs3, d3, ds3, p3, q3, rfl, rfl, rfl, h3, r3⟩ := trodAll_cons r2
  obtain ⟨rfl, rfl, rfl⟩ := trodAll_nil r3
  obtain rfl : args = #[v0, v1, v2, v3] := by cases args; simp_all
  obtain ⟨rfl, rfl⟩ := trodVars_none hV
  obtain ⟨a0, rfl, rfl, rfl, w0⟩ := open_int Tryz.underlying5 (hval 0 5 v0 rfl rfl) h0
  obtain ⟨a1, len1, cap1, rfl⟩ := okWide_slice Tryz.underlying22 (hval 1 22 v1 rfl rfl)
  have k1 := h1
  have lt1 : ∀ x ∈ p1, x.block < W.heap.size := by obtain ⟨m, hm⟩ := k1; exact DataW.trod_lt m _ _ _ hm
  obtain ⟨z1, w1, n1, m1, o1, f1⟩ : ∃ zs, Deeds W a1 zs ∧ zs.length = len1 ∧ len1 ≤ cap1 ∧ cap1 ≤ maxLen ∧ (∀ d ∈ zs, Fit d) := by
    obtain ⟨fuel, hf⟩ := h1
    rcases open_deeds Tryz.underlying22 Tryz.underlying90 (by kernel_rfl) (by kernel_rfl) Tryz.underlying3 Tryz.underlying23 Tryz.underlying23 hf with ⟨hcs, hx⟩ | ⟨x, l, c, zs, E, S, hcs, hl, hm, hz, hx, hE, hS, hsp, hwz⟩
    · simp [Value.cells] at hcs
      obtain ⟨rfl, rfl, rfl⟩ := hcs
      exact ⟨[], Deeds.nil _ _, rfl, Nat.le_refl _, Nat.zero_le _, fun _ h => by cases h⟩
    · simp [Value.cells] at hcs
      obtain ⟨rfl, rfl, rfl⟩ := hcs
      exact ⟨zs, hsp, hz, hl, hm, hwz⟩
  obtain ⟨a2, rfl, rfl, rfl, w2⟩ := open_int Tryz.underlying5 (hval 2 5 v2 rfl rfl) h2
  obtain ⟨a3, len3, cap3, rfl⟩ := okWide_slice Tryz.underlying24 (hval 3 24 v3 rfl rfl)
  have k3 := h3
  have lt3 : ∀ x ∈ p3, x.block < W.heap.size := by obtain ⟨m, hm⟩ := k3; exact DataW.trod_lt m _ _ _ hm
  obtain ⟨z3, w3, n3, m3, o3, f3⟩ : ∃ zs, Shots W a3 zs ∧ zs.length = len3 ∧ len3 ≤ cap3 ∧ cap3 ≤ maxLen ∧ (∀ d ∈ zs, ShFit W d) := by
    obtain ⟨fuel, hf⟩ := h3
    rcases open_shots Tryz.underlying24 Tryz.underlying42 (by kernel_rfl) (by kernel_rfl) Tryz.underlying3 Tryz.underlying38 Tryz.underlying5 (by kernel_rfl) Tryz.underlying40 Tryz.underlying39 (by kernel_rfl) Tryz.underlying23 Tryz.underlying4 Tryz.underlying39 hf with ⟨hcs, hx⟩ | ⟨x, l, c, zs, hcs, hl, hm, hz, hsp, hwz⟩
    · simp [Value.cells] at hcs
      obtain ⟨rfl, rfl, rfl⟩ := hcs
      exact ⟨[], Shots.nil _ _, rfl, Nat.le_refl _, Nat.zero_le _, fun _ h => by cases h⟩
    · simp [Value.cells] at hcs
      obtain ⟨rfl, rfl, rfl⟩ := hcs
      exact ⟨zs, hsp, hz, hl, hm, hwz⟩
  clear hA0 hval0
  refine (walk a0 a1 len1 cap1 z1 a2 a3 len3 cap3 z3 W w0 w1 n1 m1 o1 f1 w2 w3 n3 m3 o3 f3).mono fun e W' ⟨he, bel⟩ => ?_
  subst he
  exact ⟨_, rfl, _, _, _, [], _, [], hW', trodAll_mk1 (shut_bool Tryz.underlying4 _), (trodAll_cons_mk (shut_int Tryz.underlying5 w0) (trodAll_cons_mk (Below.trod laidOut (by kernel_rfl) (of_decide_eq_true (by kernel_rfl)) k1 bel lt1) (trodAll_cons_mk (shut_int Tryz.underlying5 w2) (trodAll_cons_mk (Below.trod laidOut (by kernel_rfl) (of_decide_eq_true (by kernel_rfl)) k3 bel lt3) trodAll_mk0)))), rfl, bel.frame _, fun h => by cases h⟩

theorem over : Rows.guardDropsRow.holds Tryz.pinned (OpenSpec.ofChange Rows.guardDropsSpec) :=
  OpenClaim.holds_of_wide 4 Tryz.f4 rfl rfl rfl rfl rfl rfl rfl ⟨rfl, rfl, rfl, rfl, rfl⟩ rfl rfl rfl rfl rfl (by kernel_rfl) Tryz.func4 (by kernel_rfl)
    (of_decide_eq_true (by kernel_rfl)) (by unfold Func.isWrapper; first | (rw [if_pos (by decide +kernel)]; kernel_rfl) | (rw [if_neg (by decide +kernel)]; exact ⟨rfl, rfl⟩))
    (fun os started H enc _ => lifted os started H enc)

/-- The given statement. -/
theorem proved : Rows.GuardDropsSaid :=
  over
#print axioms proved
end Go.Proofs.YtkiloaebokkjbaaGreat.guardDrops
