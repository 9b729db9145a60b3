/-
  No more challenges are told in an interval than may be, whatever comes. No conditions.
-/
import Derived.Test.YtkiloaebokkjbaaGreatM1
import Derived.Test.YtkiloaebokkjbaaGreatRows
import Derived.Test.YtkiloaebokkjbaaGreatRow
import Derived.WalkKit
import Derived.ProofKit
import Derived.OpenShut
import Derived.ShutString
import Derived.ChangeOld
import Derived.Below
import Derived.Test.YtkiloaebokkjbaaGreatGuardStep
import Derived.Test.YtkiloaebokkjbaaGreatM6
namespace Go.Proofs.YtkiloaebokkjbaaGreat.guardChallenges
open Go.ChangeShapes Go.WideShapes Go.ChangeAt Go.RowKit
open Go.ChangeMaps (open_string shut_string)
open Go.Proofs.YtkiloaebokkjbaaGreat.Base
set_option linter.unusedVariables false
set_option linter.unusedSimpArgs false

theorem own : ownKnob Tryz.prog.godebug = none := by kernel_rfl
theorem laidOut : laidOutB Tryz.prog = true := by kernel_rfl

open Go.Proofs.YtkiloaebokkjbaaGreat.BudPlain
open Go.Proofs.YtkiloaebokkjbaaGreat.Led Go.Proofs.YtkiloaebokkjbaaGreat.LedPlain Go.Proofs.YtkiloaebokkjbaaGreat.GuardPlain Go.Proofs.YtkiloaebokkjbaaGreat.Guard
set_option maxHeartbeats 4000000 in
set_option maxRecDepth 20000 in
theorem walk (a0 : Int) (a1 : Option Addr) (len1 cap1 : Nat) (z1 : List Dd) (a2 : Int) (a3 : Int) (a4 : Option Addr) (len4 cap4 : Nat) (z4 : List Sh) (a5 : Int) (w : World) (w0 : (Lit.int .u8 a0).wf = true) (w1 : Deeds w a1 z1) (n1 : z1.length = len1) (m1 : len1 ≤ cap1) (o1 : cap1 ≤ maxLen) (f1 : ∀ d ∈ z1, Fit d) (w2 : (Lit.int .u8 a2).wf = true) (w3 : (Lit.int .u16 a3).wf = true) (w4 : Shots w a4 z4) (n4 : z4.length = len4) (m4 : len4 ≤ cap4) (o4 : cap4 ≤ maxLen) (f4 : ∀ d ∈ z4, ShFit w d) (w5 : (Lit.int .u32 a5).wf = true) :
    Calls Tryz.prog 7 #[.int .u8 a0, .slice a1 len1 cap1, .int .u8 a2, .int .u16 a3, .slice a4 len4 cap4, .int .u32 a5] w fun e w' => e = .returned (.bool true) ∧ Below w.heap.size w w' := by
  obtain ⟨p0, p1⟩ := Base.u8_of w0
  obtain ⟨i0, i1⟩ := Base.u8_of w2
  obtain ⟨e0, e1⟩ := Base.u16_of w3
  obtain ⟨x0, x1⟩ := Base.u32_of w5
  subst n1
  subst n4
  unfold maxLen at o4
  have CM := make_any (a0 % 40) 4611686018427387903 (by omega) (by omega) (by decide) (by decide) a1 z1.length cap1 z1 w rfl m1 o1 f1 w1
  have hgl := made_len (a0 % 40) 4611686018427387903 z1
  generalize madeG (a0 % 40) 4611686018427387903 z1 = g0 at *
  have CG := fun V => Guard.new_any (a2 % 5) a3 (by omega) (by omega) (by omega) (by omega) V
  have CA := fun V => alive_guard V
  have hcb := cb_new (a2 % 5) a3 (by omega) (by omega)
  have hb1 : (newD (a2 % 5) a3).b.l = [] := rfl
  have hb2 : (newD (a2 % 5) a3).b.most = a2 % 5 := by show max 0 (min (a2 % 5) 64) = _; omega
  have hb3 : (newD (a2 % 5) a3).b.every = a3 := rfl
  have hb4 : (newD (a2 % 5) a3).b.last = 0 := rfl
  generalize newD (a2 % 5) a3 = d0 at *
  go_enter Tryz.func7, Tryz.ntmps7
  go_upto_region 2 with (go_at_call 9; refine CM.mono ?_; rintro e u1 ⟨a, b, S, rfl, P1, hS, L1⟩)
  refine at_world ?_
  intro U2 hU
  have s1 := L1.size
  obtain ⟨T2, P2, M2, q2⟩ : Blk U2 u1.heap.size #[.pointer (some a), .pointer (some ⟨b, 0, none⟩)] 28 ∧ Pair S U2 a b g0 ∧ Below w.heap.size w U2 ∧ U2.heap.size = u1.heap.size + 1 := by
    subst hU
    exact ⟨Blk.new _ _ _, P1.below ((Below.refl _ _).alloc (Nat.le_refl _) _), L1.alloc L1.size _, by simp⟩
  have hSl : ∀ k, S k → w.heap.size ≤ k ∧ k < u1.heap.size := fun k hk => ⟨hS k hk, P1.lt k hk⟩
  clear hU P1 L1 hS CM
  go_upto_region 3 with (go_at_call 10; refine (CG U2).mono ?_; rintro e U ⟨gp, rfl, G3, L3⟩)
  have s3 := L3.size
  have T5 := T2.below L3 T2.lt
  have M5 := Base.next M2 L3
  have Q5 : Tri (fun k => w.heap.size ≤ k ∧ k ≠ u1.heap.size) (fun _ => False) (fun _ => False) U U a b gp g0 g0 d0 :=
    Tri.make (P2.below L3) G3 (fun k hk => by have := hSl k hk; omega) (fun k hk => by omega) (fun k hk h => by have := hSl k h; omega)
  have hbU : u1.heap.size < U.heap.size := by omega
  clear G3 L3 CG P2 M2 T2 s3 q2 hSl
  generalize u1.heap.size = tb at *
  have hA0 : ∀ k, (fun k => w.heap.size ≤ k ∧ k ≠ tb) k → w.heap.size ≤ k := fun k h => h.1
  have hA1 : ∀ k, (fun k => w.heap.size ≤ k ∧ k ≠ tb) k → k ≠ tb := fun k h => h.2
  have hA2 : ∀ k, w.heap.size ≤ k → k ≠ tb → (fun k => w.heap.size ≤ k ∧ k ≠ tb) k := fun k h1 h2 => ⟨h1, h2⟩
  generalize (fun k => w.heap.size ≤ k ∧ k ≠ tb) = AA at *
  have hwU := M5.size
  by_cases h60 : 60 < z4.length
  · have h60I : (60 : Int) < (z4.length : Int) := by omega
    go_wp2_with (first
      | (go_at_call 12; (with_reducible refine (CA U).mono ?_); rintro e u5 ⟨rfl, L5⟩; have M6 := Base.next M5 L5)
      | (go_at_call 12; (with_reducible refine (CA u5).mono ?_); rintro e u6 ⟨rfl, L6⟩; have M7 := Base.next M6 L6))
    all_goals go_ret
    all_goals exact ⟨rfl, M7⟩
  · have h60I : (z4.length : Int) ≤ 60 := by omega
    go_wp2_with (go_at_call 12; refine (CA U).mono ?_; rintro e X ⟨rfl, L5⟩; have M6 := Base.next M5 L5)
    have Q6 := (Q5.next L5).at_ fun k hk => hA2 k (by omega) (by omega)
    have hF6 : Fr AA U X := Fr.of_below L5
    clear Q5 CA
    go_loopw [16, 17, 18, 19, 20] (fun nw cn i pv pk wr => ∃ (t : Nat) (now : Int) (g' : Gd) (l' : Lg), t ≤ z4.length ∧ i = .int .i64 t ∧ nw = .int .u64 now ∧ cn = .int .i64 (inW a5 a3 g'.b.l) ∧ 0 ≤ now ∧ now ≤ 500 * t ∧ inW a5 a3 g'.b.l ≤ g'.b.most ∧ g'.b.last ≤ now ∧ g'.b.most = a2 % 5 ∧ g'.b.every = a3 ∧ Cb g' t ∧ l'.l.length = g0.l.length ∧ Tri AA (fun _ => False) (fun _ => False) wr wr a b gp l' g0 g' ∧ Fr AA U wr) (fun _ _ i _ _ _ => z4.length - (intOf i).toNat)
    case atStart => exact ⟨0, 0, d0, g0, Nat.zero_le _, rfl, rfl, by rw [hb1]; rfl, Int.le_refl _, by omega, by rw [hb1, hb2]; show (0 : Int) ≤ _; omega, by rw [hb4]; exact Int.le_refl _, hb2, hb3, hcb, rfl, Q6, hF6⟩
    case round =>
      obtain ⟨t, now, g, l, ht, rfl, rfl, rfl, h0, h1, hw, hlast, hmost, hev, hc, hl, Q, hF⟩ := hrel
      have hL : Below w.heap.size w wr := M5.trans (hF.toBelow' (B := w.heap.size) M5.size fun k _ hk => hA0 k hk)
      have T7 := T5.kept hF (fun h => hA1 _ h rfl)
      have hUw := hF.size
      clear Q6 M6 hF6 L5
      by_cases hlt : t < z4.length
      · have hlI : (t : Int) < (z4.length : Int) := by omega
        obtain ⟨bz, off, rfl, hbz, ds⟩ := w4.at_ hlt
        have hFit := f4 (z4.getD t sh0) (by simp [List.getD, hlt])
        generalize z4.getD t sh0 = s at *
        have k0 := hFit.w0
        have k1 := hFit.w1
        replace ds : ∀ j x, (shC s)[j]? = some x → wr.cell? ⟨bz, off + t * 9 + j, none⟩ = some x := fun j x hj => by
          rw [hL.cell (p := ⟨bz, off + t * 9 + j, none⟩) hbz]
          exact ds j x hj
        have d8 : wr.cell? ⟨bz, off + t * 9 + 8, none⟩ = some (.int .u16 s.wt) := ds 8 _ rfl
        have hbw : bz < wr.heap.size := Nat.lt_of_lt_of_le hbz hL.size
        have hnb := inW_nonneg a5 a3 g.b.l
        have hbl := hc.b
        generalize hn : inW a5 a3 g.b.l = n at *
        go_upto_region 10 with fail
        go_cut [19, 20] from 73 to 86 (fun s1 s2 wx => ∃ (p1 p2 : Nat) (fr : List Int) (x : Option Addr) (cx : Nat) (y : Option Addr) (cy : Nat), s1 = .pointer (some ⟨p1, 0, none⟩) ∧ s2 = .pointer (some ⟨p2, 0, none⟩) ∧ OctPlain.Bytes fr ∧ Blk wx p1 (vcells (takeT g l fr (now + s.wt % 500)).v) 44 ∧ Blk wx p2 (kcells (takeT g l fr (now + s.wt % 500)).k x cx y cy) 56 ∧ (wr.heap.size ≤ p1 ∧ wr.heap.size ≤ p2 ∧ p1 ≠ p2) ∧ Tri AA (fun k => k = p1 ∨ k = p2) (fun k => k = p1 ∨ k = p2) wr wx a b gp (takeT g l fr (now + s.wt % 500)).l g0 (takeT g l fr (now + s.wt % 500)).g ∧ Fr AA wr wx ∧ Fr (fun k => k < wr.heap.size) wr wx)
        case first =>
          have TW := T7
          have LV : Below wr.heap.size wr wr.drew := Base.drew1 (Below.refl _ _)
          have hDD : Fr (fun k => k < wr.heap.size) wr wr.drew := Fr.of_below (Base.drew1 (Below.refl _ _))
          have hDs : wr.heap.size ≤ wr.drew.heap.size := Nat.le_refl _
          have hWD := LV.size
          have SV : Fr AA wr wr.drew := Fr.of_below LV
          have hBk : ∀ k, k < w.heap.size → k < wr.heap.size ∧ ¬ AA k := fun k hk => ⟨by have := hL.size; omega, fun h => by have := hA0 _ h; omega⟩
          have hnow0 : 0 ≤ (now + s.wt % 500) := by omega
          have hnow1 : (now + s.wt % 500) ≤ 18446744073709551615 := by omega
          have hwW := hL.size
          have CF := fun V (hV : Below wr.heap.size wr V) => tri_frame (Q.next hV) (by omega) (Base.next hL hV) hFit
          have CT := fun V (hV : Below wr.heap.size wr V) p n c fr hfn hnc hnm hby (hrow : RowIn (fun k => k < w.heap.size ∨ wr.heap.size ≤ k) V p (fr.map (.int .u8))) => tri_p ((Q.with_ hV (fun k => k < w.heap.size) hBk)) hc (by omega) (by omega) p n c fr hfn hnc hnm hby (fun v hv => RowIn.row ((hrow.mono (T := fun k => k < V.heap.size) fun k hk _ => hk).kept hv fun k hk h => by omega)) (now + s.wt % 500) hnow0 hnow1
          refine held_start (fun v => Fr AA wr v) (by kernel_rfl) ?_
          generalize wr.drew = D at *
          have LD : Below D.heap.size D D := Below.refl _ _
          have zt0 := fun V (hV : Fr AA wr V) => show V.cell? ⟨tb, 0, none⟩ = some (.pointer (some a)) from (TW.kept hV (fun h => hA1 _ h rfl)).cell 0
          have zT := fun V (hV : Fr AA wr V) => show V.rangeAt tb 0 [.pointer (some a), .pointer (some ⟨b, 0, none⟩)] from Blk.range (TW.kept hV (fun h => hA1 _ h rfl)) (fun j u hj => by rw [Nat.zero_add]; rcases j with _ | _ | j <;> first | exact hj | simp at hj)
          have zS := fun V (hV : Fr AA wr V) => show V.rangeAt bz (off + t * 9) (shC s) from fun j x hj => by
            rw [hV.cell (p := ⟨bz, off + t * 9 + j, none⟩) hbw (fun h => absurd (show w.heap.size ≤ bz from hA0 _ h) (by omega))]
            exact ds j x hj
          refine held_take (i := 0) (v := .pointer (some gp)) rfl (by kernel_rfl) (by kernel_rfl) (by kernel_rfl) (fun _ _ _ h => h) (by kernel_rfl) SV (fun _ hu => by kernel_rfl) ?_
          refine held_take (i := 1) (v := .pointer (some ⟨tb, 0, none⟩)) rfl (by kernel_rfl) (by kernel_rfl) (by kernel_rfl) (fun _ _ _ h => h) (by kernel_rfl) SV (fun _ hu => by kernel_rfl) ?_
          refine held_take (i := 2) (v := .pointer (some a)) rfl (by kernel_rfl) (by kernel_rfl) (by kernel_rfl) (fun _ _ _ h => h) (by kernel_rfl) SV (fun _ hu => by exact lb_any 25 (.tmp 75) rfl (by kernel_rfl) (by kernel_rfl) (zt0 _ hu)) ?_
          refine held_take (i := 3) (v := .slice (some ⟨bz, off, none⟩) z4.length cap4) rfl (by kernel_rfl) (by kernel_rfl) (by kernel_rfl) (fun _ _ _ h => h) (by kernel_rfl) SV (fun _ hu => by kernel_rfl) ?_
          refine held_take (i := 4) (v := .int .i64 t) rfl (by kernel_rfl) (by kernel_rfl) (by kernel_rfl) (fun _ _ _ h => h) (by kernel_rfl) SV (fun _ hu => by kernel_rfl) ?_
          refine held_take (i := 5) (v := .pointer (some ⟨bz, off + t * 9, none⟩)) rfl (by kernel_rfl) (by kernel_rfl) (by kernel_rfl) (fun _ _ _ h => h) (by kernel_rfl) SV (fun _ hu => by exact ix_shots (.tmp 77) (.tmp 78) (n := z4.length) (cap := cap4) rfl (by kernel_rfl) (by kernel_rfl) hlt) ?_
          refine held_take (i := 6) (v := .agg (shC s).toArray) rfl (by kernel_rfl) (by kernel_rfl) (by kernel_rfl) (fun _ _ _ h => h) (by kernel_rfl) SV (fun _ hu => by exact lb_mid 42 (.tmp 79) rfl (by kernel_rfl) (zS _ hu) Tryz.underlying42 rfl (by kernel_rfl)) ?_
          refine held_take (i := 7) (v := .agg #[.pointer (some a), .pointer (some ⟨b, 0, none⟩)]) rfl (by kernel_rfl) (by kernel_rfl) (by kernel_rfl) (fun _ _ _ h => h) (by kernel_rfl) SV (fun _ hu => by exact lb_mid 28 (.tmp 13) rfl (by kernel_rfl) (zT _ hu) Tryz.underlying28 rfl (by kernel_rfl)) ?_
          refine held_take (i := 9) (v := .int .u64 (now + s.wt % 500)) rfl (by kernel_rfl) (by kernel_rfl) (by kernel_rfl) (fun _ _ _ h => h) (by kernel_rfl) SV (fun _ hu => by kernel_rfl) ?_
          refine held_three (i := 8) (j := 14) (k := 15) (by kernel_rfl) (op_call (i := 8) (f := 14) (args := #[.agg (shC s).toArray, .agg #[.pointer (some a), .pointer (some ⟨b, 0, none⟩)]]) rfl (by kernel_rfl) (by kernel_rfl) ((CF D LV).mono ?_)) (op_value (i := 14) (v := .pointer (some ⟨D.heap.size, 0, none⟩)) (w' := D.alloc (.cells #[.int .i64 0, .int .i64 0, .int .u64 0, .bool false] 44)) rfl (by kernel_rfl) (by kernel_rfl) ⟨SV.alloc _, ?_⟩) (op_value (i := 15) (v := .pointer (some ⟨D.heap.size, 0, none⟩)) (w' := D.alloc (.cells #[.slice none 0 0, .slice none 0 0, .int .u64 0, .int .u64 0, .bool false] 56)) rfl (by kernel_rfl) (by kernel_rfl) ⟨SV.alloc _, ?_⟩)
          · rintro e wF ⟨p, n, c, fr, rfl, hfn, hnc, hnm, hby, hrow, LF⟩
            have zF := LF.size
            have zL := LV.size
            have zD := LD.size
            have row := hrow.mono (T := fun k => k < w.heap.size ∨ wr.heap.size ≤ k) fun k _ h => h.imp id fun h => (by omega)
            have LV := Base.next LV LF
            have LD := Base.next LD LF
            have SV : Fr AA wr wF := Fr.of_below LV
            refine ⟨_, rfl, SV, ?_⟩
            refine held_three (i := 10) (j := 14) (k := 15) (by kernel_rfl) (op_call (i := 10) (f := 18) (args := #[.pointer (some gp), .pointer (some a), .slice p n c, .int .u64 (now + s.wt % 500)]) rfl (by kernel_rfl) (by kernel_rfl) ((CT wF LV p n c fr hfn hnc hnm hby row).mono ?_)) (op_value (i := 14) (v := .pointer (some ⟨wF.heap.size, 0, none⟩)) (w' := wF.alloc (.cells #[.int .i64 0, .int .i64 0, .int .u64 0, .bool false] 44)) rfl (by kernel_rfl) (by kernel_rfl) ⟨SV.alloc _, ?_⟩) (op_value (i := 15) (v := .pointer (some ⟨wF.heap.size, 0, none⟩)) (w' := wF.alloc (.cells #[.slice none 0 0, .slice none 0 0, .int .u64 0, .int .u64 0, .bool false] 56)) rfl (by kernel_rfl) (by kernel_rfl) ⟨SV.alloc _, ?_⟩)
            · rintro e wT ⟨x, cx, y, cy, Yf, rfl, hrw, QV, FT⟩
              have zT' := FT.size
              have zL := LV.size
              have zD := LD.size
              have SV := QV.fr
              have NV : Fr (fun k => k < wr.heap.size) D wT := (Fr.of_below LD : Fr (fun k => k < wr.heap.size) D wF).trans FT (fun k hk h => Nat.lt_of_not_le fun h2 => h (.inr ⟨h2, by omega⟩))
              clear CT CF
              generalize hX : takeT g l fr (now + s.wt % 500) = X at *
              have hX := Lib.hid hX
              refine ⟨_, rfl, SV, ?_⟩
              refine held_take (i := 11) (v := .tuple #[.agg (vcells X.v), .agg (kcells X.k x cx y cy)]) rfl (by kernel_rfl) (by kernel_rfl) (by kernel_rfl) (fun _ _ _ h => h) (by kernel_rfl) SV (fun _ hu => by kernel_rfl) ?_
              refine held_take (i := 12) (v := .agg (vcells X.v)) rfl (by kernel_rfl) (by kernel_rfl) (by kernel_rfl) (fun _ _ _ h => h) (by kernel_rfl) SV (fun _ hu => by kernel_rfl) ?_
              refine held_take (i := 13) (v := .agg (kcells X.k x cx y cy)) rfl (by kernel_rfl) (by kernel_rfl) (by kernel_rfl) (fun _ _ _ h => h) (by kernel_rfl) SV (fun _ hu => by kernel_rfl) ?_
              refine held_two (i := 14) (j := 15) (by kernel_rfl) (op_value (i := 14) (v := .pointer (some ⟨wT.heap.size, 0, none⟩)) (w' := wT.alloc (.cells #[.int .i64 0, .int .i64 0, .int .u64 0, .bool false] 44)) rfl (by kernel_rfl) (by kernel_rfl) ⟨SV.alloc _, ?_⟩) (op_value (i := 15) (v := .pointer (some ⟨wT.heap.size, 0, none⟩)) (w' := wT.alloc (.cells #[.slice none 0 0, .slice none 0 0, .int .u64 0, .int .u64 0, .bool false] 56)) rfl (by kernel_rfl) (by kernel_rfl) ⟨SV.alloc _, ?_⟩)
              · have hA : Below wT.heap.size wT (wT.alloc (.cells #[.int .i64 0, .int .i64 0, .int .u64 0, .bool false] 44)) := (Below.refl _ _).alloc (Nat.le_refl _) _
                have bA := Blk.new wT #[.int .i64 0, .int .i64 0, .int .u64 0, .bool false] 44
                have mA : wT.heap.size < (wT.alloc (.cells #[.int .i64 0, .int .i64 0, .int .u64 0, .bool false] 44)).heap.size := by simp
                generalize wT.alloc (.cells #[.int .i64 0, .int .i64 0, .int .u64 0, .bool false] 44) = vA at *
                have zS' := SV.size
                have zD := NV.size
                obtain ⟨FA, ZA, QV, zzA, zA⟩ := QV.grow hA (by omega)
                have NV := NV.trans (T := fun _ => False) (Fr.of_below hA) fun _ _ h => h.elim
                have SV := QV.fr
                refine held_one (i := 15) (v := .pointer (some ⟨vA.heap.size, 0, none⟩)) (w' := vA.alloc (.cells #[.slice none 0 0, .slice none 0 0, .int .u64 0, .int .u64 0, .bool false] 56)) rfl (by kernel_rfl) (by kernel_rfl) (by kernel_rfl) (SV.alloc _) ?_
                have hB : Below vA.heap.size vA (vA.alloc (.cells #[.slice none 0 0, .slice none 0 0, .int .u64 0, .int .u64 0, .bool false] 56)) := (Below.refl _ _).alloc (Nat.le_refl _) _
                have bB := Blk.new vA #[.slice none 0 0, .slice none 0 0, .int .u64 0, .int .u64 0, .bool false] 56
                have mB : vA.heap.size < (vA.alloc (.cells #[.slice none 0 0, .slice none 0 0, .int .u64 0, .int .u64 0, .bool false] 56)).heap.size := by simp
                generalize vA.alloc (.cells #[.slice none 0 0, .slice none 0 0, .int .u64 0, .int .u64 0, .bool false] 56) = vB at *
                have bA := bA.below hB bA.lt
                have zS' := SV.size
                have zD := NV.size
                obtain ⟨FB, ZB, QV, zzB, zB⟩ := QV.grow hB (by omega)
                have zA := zzB _ zA
                have NV := NV.trans (T := fun _ => False) (Fr.of_below hB) fun _ _ h => h.elim
                have SV := QV.fr
                have S1 := SV.setRow (g := wT.heap.size) (fun h => by omega) (vcells X.v)
                refine held_st (i := 16) rfl (by kernel_rfl) (by kernel_rfl) (st_row 44 (.tmp 19) (.tmp 85) rfl (g := wT.heap.size) (cells := vcells X.v) (by kernel_rfl) (by kernel_rfl) bA (by kernel_rfl) rfl (by simp [vcells, Value.oneCell'])) S1 ?_
                have bB1 := bB.otherRow (g := wT.heap.size) (by omega) (vcells X.v)
                have S2 := S1.setRow (g := vA.heap.size) (fun h => by omega) (kcells X.k x cx y cy)
                refine held_st (i := 17) rfl (by kernel_rfl) (by kernel_rfl) (st_row 56 (.tmp 20) (.tmp 86) rfl (g := vA.heap.size) (cells := kcells X.k x cx y cy) (by kernel_rfl) (by kernel_rfl) bB1 (by kernel_rfl) rfl (by simp [kcells, Value.oneCell'])) S2 ?_
                refine held_done (by kernel_rfl) ?_
                have bA1 := (bA.setRow (vcells X.v)).otherRow (g := vA.heap.size) (by omega) (kcells X.k x cx y cy)
                have bB2 := bB1.setRow (kcells X.k x cx y cy)
                have QF := ((QV.set (b := wT.heap.size) zA (by omega) (vcells X.v)).set (b := vA.heap.size) zB (by omega) (kcells X.k x cx y cy)).pick zA zB
                have NF := hDD.trans ((NV.setRow (g := wT.heap.size) (fun h => by omega) (vcells X.v)).setRow (g := vA.heap.size) (fun h => by omega) (kcells X.k x cx y cy)) fun _ _ h => h
                go_wp2
                go_meet
                have hX := hX.out
                subst hX
                exact ⟨wT.heap.size, vA.heap.size, fr, x, cx, y, cy, rfl, rfl, hby, bA1, bB2, ⟨by omega, by omega, by omega⟩, QF, S2, NF⟩
              · have hB : Below wT.heap.size wT (wT.alloc (.cells #[.slice none 0 0, .slice none 0 0, .int .u64 0, .int .u64 0, .bool false] 56)) := (Below.refl _ _).alloc (Nat.le_refl _) _
                have bB := Blk.new wT #[.slice none 0 0, .slice none 0 0, .int .u64 0, .int .u64 0, .bool false] 56
                have mB : wT.heap.size < (wT.alloc (.cells #[.slice none 0 0, .slice none 0 0, .int .u64 0, .int .u64 0, .bool false] 56)).heap.size := by simp
                generalize wT.alloc (.cells #[.slice none 0 0, .slice none 0 0, .int .u64 0, .int .u64 0, .bool false] 56) = vB at *
                have zS' := SV.size
                have zD := NV.size
                obtain ⟨FB, ZB, QV, zzB, zB⟩ := QV.grow hB (by omega)
                have NV := NV.trans (T := fun _ => False) (Fr.of_below hB) fun _ _ h => h.elim
                have SV := QV.fr
                refine held_one (i := 14) (v := .pointer (some ⟨vB.heap.size, 0, none⟩)) (w' := vB.alloc (.cells #[.int .i64 0, .int .i64 0, .int .u64 0, .bool false] 44)) rfl (by kernel_rfl) (by kernel_rfl) (by kernel_rfl) (SV.alloc _) ?_
                have hA : Below vB.heap.size vB (vB.alloc (.cells #[.int .i64 0, .int .i64 0, .int .u64 0, .bool false] 44)) := (Below.refl _ _).alloc (Nat.le_refl _) _
                have bA := Blk.new vB #[.int .i64 0, .int .i64 0, .int .u64 0, .bool false] 44
                have mA : vB.heap.size < (vB.alloc (.cells #[.int .i64 0, .int .i64 0, .int .u64 0, .bool false] 44)).heap.size := by simp
                generalize vB.alloc (.cells #[.int .i64 0, .int .i64 0, .int .u64 0, .bool false] 44) = vA at *
                have bB := bB.below hA bB.lt
                have zS' := SV.size
                have zD := NV.size
                obtain ⟨FA, ZA, QV, zzA, zA⟩ := QV.grow hA (by omega)
                have zB := zzA _ zB
                have NV := NV.trans (T := fun _ => False) (Fr.of_below hA) fun _ _ h => h.elim
                have SV := QV.fr
                have S1 := SV.setRow (g := vB.heap.size) (fun h => by omega) (vcells X.v)
                refine held_st (i := 16) rfl (by kernel_rfl) (by kernel_rfl) (st_row 44 (.tmp 19) (.tmp 85) rfl (g := vB.heap.size) (cells := vcells X.v) (by kernel_rfl) (by kernel_rfl) bA (by kernel_rfl) rfl (by simp [vcells, Value.oneCell'])) S1 ?_
                have bB1 := bB.otherRow (g := vB.heap.size) (by omega) (vcells X.v)
                have S2 := S1.setRow (g := wT.heap.size) (fun h => by omega) (kcells X.k x cx y cy)
                refine held_st (i := 17) rfl (by kernel_rfl) (by kernel_rfl) (st_row 56 (.tmp 20) (.tmp 86) rfl (g := wT.heap.size) (cells := kcells X.k x cx y cy) (by kernel_rfl) (by kernel_rfl) bB1 (by kernel_rfl) rfl (by simp [kcells, Value.oneCell'])) S2 ?_
                refine held_done (by kernel_rfl) ?_
                have bA1 := (bA.setRow (vcells X.v)).otherRow (g := wT.heap.size) (by omega) (kcells X.k x cx y cy)
                have bB2 := bB1.setRow (kcells X.k x cx y cy)
                have QF := ((QV.set (b := vB.heap.size) zA (by omega) (vcells X.v)).set (b := wT.heap.size) zB (by omega) (kcells X.k x cx y cy)).pick zA zB
                have NF := hDD.trans ((NV.setRow (g := vB.heap.size) (fun h => by omega) (vcells X.v)).setRow (g := wT.heap.size) (fun h => by omega) (kcells X.k x cx y cy)) fun _ _ h => h
                go_wp2
                go_meet
                have hX := hX.out
                subst hX
                exact ⟨vB.heap.size, wT.heap.size, fr, x, cx, y, cy, rfl, rfl, hby, bA1, bB2, ⟨by omega, by omega, by omega⟩, QF, S2, NF⟩
            · have hA : Below wF.heap.size wF (wF.alloc (.cells #[.int .i64 0, .int .i64 0, .int .u64 0, .bool false] 44)) := (Below.refl _ _).alloc (Nat.le_refl _) _
              have bA := Blk.new wF #[.int .i64 0, .int .i64 0, .int .u64 0, .bool false] 44
              have mA : wF.heap.size < (wF.alloc (.cells #[.int .i64 0, .int .i64 0, .int .u64 0, .bool false] 44)).heap.size := by simp
              generalize wF.alloc (.cells #[.int .i64 0, .int .i64 0, .int .u64 0, .bool false] 44) = vA at *
              have row := row.kept (T := fun _ => False) (Fr.of_below hA) (fun _ _ h => h)
              have zL := LV.size
              have zD := LD.size
              have LV := Base.next LV hA
              have LD := Base.next LD hA
              have SV : Fr AA wr vA := Fr.of_below LV
              refine held_two (i := 10) (j := 15) (by kernel_rfl) (op_call (i := 10) (f := 18) (args := #[.pointer (some gp), .pointer (some a), .slice p n c, .int .u64 (now + s.wt % 500)]) rfl (by kernel_rfl) (by kernel_rfl) ((CT vA LV p n c fr hfn hnc hnm hby row).mono ?_)) (op_value (i := 15) (v := .pointer (some ⟨vA.heap.size, 0, none⟩)) (w' := vA.alloc (.cells #[.slice none 0 0, .slice none 0 0, .int .u64 0, .int .u64 0, .bool false] 56)) rfl (by kernel_rfl) (by kernel_rfl) ⟨SV.alloc _, ?_⟩)
              · rintro e wT ⟨x, cx, y, cy, Yf, rfl, hrw, QV, FT⟩
                have zT' := FT.size
                have zL := LV.size
                have zD := LD.size
                have lA := bA.lt
                have zA : (fun k => wr.heap.size ≤ k ∧ k < vA.heap.size) (wF.heap.size) := ⟨by omega, lA⟩
                have bA := bA.kept FT (fun h => h (.inr ⟨by omega, lA⟩))
                have SV := QV.fr
                have NV : Fr (fun k => k < wr.heap.size) D wT := (Fr.of_below LD : Fr (fun k => k < wr.heap.size) D vA).trans FT (fun k hk h => Nat.lt_of_not_le fun h2 => h (.inr ⟨h2, by omega⟩))
                clear CT CF
                generalize hX : takeT g l fr (now + s.wt % 500) = X at *
                have hX := Lib.hid hX
                refine ⟨_, rfl, SV, ?_⟩
                refine held_take (i := 11) (v := .tuple #[.agg (vcells X.v), .agg (kcells X.k x cx y cy)]) rfl (by kernel_rfl) (by kernel_rfl) (by kernel_rfl) (fun _ _ _ h => h) (by kernel_rfl) SV (fun _ hu => by kernel_rfl) ?_
                refine held_take (i := 12) (v := .agg (vcells X.v)) rfl (by kernel_rfl) (by kernel_rfl) (by kernel_rfl) (fun _ _ _ h => h) (by kernel_rfl) SV (fun _ hu => by kernel_rfl) ?_
                refine held_take (i := 13) (v := .agg (kcells X.k x cx y cy)) rfl (by kernel_rfl) (by kernel_rfl) (by kernel_rfl) (fun _ _ _ h => h) (by kernel_rfl) SV (fun _ hu => by kernel_rfl) ?_
                refine held_one (i := 15) (v := .pointer (some ⟨wT.heap.size, 0, none⟩)) (w' := wT.alloc (.cells #[.slice none 0 0, .slice none 0 0, .int .u64 0, .int .u64 0, .bool false] 56)) rfl (by kernel_rfl) (by kernel_rfl) (by kernel_rfl) (SV.alloc _) ?_
                have hB : Below wT.heap.size wT (wT.alloc (.cells #[.slice none 0 0, .slice none 0 0, .int .u64 0, .int .u64 0, .bool false] 56)) := (Below.refl _ _).alloc (Nat.le_refl _) _
                have bB := Blk.new wT #[.slice none 0 0, .slice none 0 0, .int .u64 0, .int .u64 0, .bool false] 56
                have mB : wT.heap.size < (wT.alloc (.cells #[.slice none 0 0, .slice none 0 0, .int .u64 0, .int .u64 0, .bool false] 56)).heap.size := by simp
                generalize wT.alloc (.cells #[.slice none 0 0, .slice none 0 0, .int .u64 0, .int .u64 0, .bool false] 56) = vB at *
                have bA := bA.below hB bA.lt
                have zS' := SV.size
                have zD := NV.size
                obtain ⟨FB, ZB, QV, zzB, zB⟩ := QV.grow hB (by omega)
                have zA := zzB _ zA
                have NV := NV.trans (T := fun _ => False) (Fr.of_below hB) fun _ _ h => h.elim
                have SV := QV.fr
                have S1 := SV.setRow (g := wF.heap.size) (fun h => by omega) (vcells X.v)
                refine held_st (i := 16) rfl (by kernel_rfl) (by kernel_rfl) (st_row 44 (.tmp 19) (.tmp 85) rfl (g := wF.heap.size) (cells := vcells X.v) (by kernel_rfl) (by kernel_rfl) bA (by kernel_rfl) rfl (by simp [vcells, Value.oneCell'])) S1 ?_
                have bB1 := bB.otherRow (g := wF.heap.size) (by omega) (vcells X.v)
                have S2 := S1.setRow (g := wT.heap.size) (fun h => by omega) (kcells X.k x cx y cy)
                refine held_st (i := 17) rfl (by kernel_rfl) (by kernel_rfl) (st_row 56 (.tmp 20) (.tmp 86) rfl (g := wT.heap.size) (cells := kcells X.k x cx y cy) (by kernel_rfl) (by kernel_rfl) bB1 (by kernel_rfl) rfl (by simp [kcells, Value.oneCell'])) S2 ?_
                refine held_done (by kernel_rfl) ?_
                have bA1 := (bA.setRow (vcells X.v)).otherRow (g := wT.heap.size) (by omega) (kcells X.k x cx y cy)
                have bB2 := bB1.setRow (kcells X.k x cx y cy)
                have QF := ((QV.set (b := wF.heap.size) zA (by omega) (vcells X.v)).set (b := wT.heap.size) zB (by omega) (kcells X.k x cx y cy)).pick zA zB
                have NF := hDD.trans ((NV.setRow (g := wF.heap.size) (fun h => by omega) (vcells X.v)).setRow (g := wT.heap.size) (fun h => by omega) (kcells X.k x cx y cy)) fun _ _ h => h
                go_wp2
                go_meet
                have hX := hX.out
                subst hX
                exact ⟨wF.heap.size, wT.heap.size, fr, x, cx, y, cy, rfl, rfl, hby, bA1, bB2, ⟨by omega, by omega, by omega⟩, QF, S2, NF⟩
              · have hB : Below vA.heap.size vA (vA.alloc (.cells #[.slice none 0 0, .slice none 0 0, .int .u64 0, .int .u64 0, .bool false] 56)) := (Below.refl _ _).alloc (Nat.le_refl _) _
                have bB := Blk.new vA #[.slice none 0 0, .slice none 0 0, .int .u64 0, .int .u64 0, .bool false] 56
                have mB : vA.heap.size < (vA.alloc (.cells #[.slice none 0 0, .slice none 0 0, .int .u64 0, .int .u64 0, .bool false] 56)).heap.size := by simp
                generalize vA.alloc (.cells #[.slice none 0 0, .slice none 0 0, .int .u64 0, .int .u64 0, .bool false] 56) = vB at *
                have bA := bA.below hB bA.lt
                have row := row.kept (T := fun _ => False) (Fr.of_below hB) (fun _ _ h => h)
                have zL := LV.size
                have zD := LD.size
                have LV := Base.next LV hB
                have LD := Base.next LD hB
                have SV : Fr AA wr vB := Fr.of_below LV
                refine held_call (i := 10) (f := 18) (args := #[.pointer (some gp), .pointer (some a), .slice p n c, .int .u64 (now + s.wt % 500)]) rfl (by kernel_rfl) (by kernel_rfl) (by kernel_rfl) ((CT vB LV p n c fr hfn hnc hnm hby row).mono ?_)
                rintro e wT ⟨x, cx, y, cy, Yf, rfl, hrw, QV, FT⟩
                have zT' := FT.size
                have zL := LV.size
                have zD := LD.size
                have lA := bA.lt
                have zA : (fun k => wr.heap.size ≤ k ∧ k < vB.heap.size) (wF.heap.size) := ⟨by omega, lA⟩
                have bA := bA.kept FT (fun h => h (.inr ⟨by omega, lA⟩))
                have lB := bB.lt
                have zB : (fun k => wr.heap.size ≤ k ∧ k < vB.heap.size) (vA.heap.size) := ⟨by omega, lB⟩
                have bB := bB.kept FT (fun h => h (.inr ⟨by omega, lB⟩))
                have SV := QV.fr
                have NV : Fr (fun k => k < wr.heap.size) D wT := (Fr.of_below LD : Fr (fun k => k < wr.heap.size) D vB).trans FT (fun k hk h => Nat.lt_of_not_le fun h2 => h (.inr ⟨h2, by omega⟩))
                clear CT CF
                generalize hX : takeT g l fr (now + s.wt % 500) = X at *
                have hX := Lib.hid hX
                refine ⟨_, rfl, SV, ?_⟩
                refine held_take (i := 11) (v := .tuple #[.agg (vcells X.v), .agg (kcells X.k x cx y cy)]) rfl (by kernel_rfl) (by kernel_rfl) (by kernel_rfl) (fun _ _ _ h => h) (by kernel_rfl) SV (fun _ hu => by kernel_rfl) ?_
                refine held_take (i := 12) (v := .agg (vcells X.v)) rfl (by kernel_rfl) (by kernel_rfl) (by kernel_rfl) (fun _ _ _ h => h) (by kernel_rfl) SV (fun _ hu => by kernel_rfl) ?_
                refine held_take (i := 13) (v := .agg (kcells X.k x cx y cy)) rfl (by kernel_rfl) (by kernel_rfl) (by kernel_rfl) (fun _ _ _ h => h) (by kernel_rfl) SV (fun _ hu => by kernel_rfl) ?_
                have S1 := SV.setRow (g := wF.heap.size) (fun h => by omega) (vcells X.v)
                refine held_st (i := 16) rfl (by kernel_rfl) (by kernel_rfl) (st_row 44 (.tmp 19) (.tmp 85) rfl (g := wF.heap.size) (cells := vcells X.v) (by kernel_rfl) (by kernel_rfl) bA (by kernel_rfl) rfl (by simp [vcells, Value.oneCell'])) S1 ?_
                have bB1 := bB.otherRow (g := wF.heap.size) (by omega) (vcells X.v)
                have S2 := S1.setRow (g := vA.heap.size) (fun h => by omega) (kcells X.k x cx y cy)
                refine held_st (i := 17) rfl (by kernel_rfl) (by kernel_rfl) (st_row 56 (.tmp 20) (.tmp 86) rfl (g := vA.heap.size) (cells := kcells X.k x cx y cy) (by kernel_rfl) (by kernel_rfl) bB1 (by kernel_rfl) rfl (by simp [kcells, Value.oneCell'])) S2 ?_
                refine held_done (by kernel_rfl) ?_
                have bA1 := (bA.setRow (vcells X.v)).otherRow (g := vA.heap.size) (by omega) (kcells X.k x cx y cy)
                have bB2 := bB1.setRow (kcells X.k x cx y cy)
                have QF := ((QV.set (b := wF.heap.size) zA (by omega) (vcells X.v)).set (b := vA.heap.size) zB (by omega) (kcells X.k x cx y cy)).pick zA zB
                have NF := hDD.trans ((NV.setRow (g := wF.heap.size) (fun h => by omega) (vcells X.v)).setRow (g := vA.heap.size) (fun h => by omega) (kcells X.k x cx y cy)) fun _ _ h => h
                go_wp2
                go_meet
                have hX := hX.out
                subst hX
                exact ⟨wF.heap.size, vA.heap.size, fr, x, cx, y, cy, rfl, rfl, hby, bA1, bB2, ⟨by omega, by omega, by omega⟩, QF, S2, NF⟩
            · have hB : Below wF.heap.size wF (wF.alloc (.cells #[.slice none 0 0, .slice none 0 0, .int .u64 0, .int .u64 0, .bool false] 56)) := (Below.refl _ _).alloc (Nat.le_refl _) _
              have bB := Blk.new wF #[.slice none 0 0, .slice none 0 0, .int .u64 0, .int .u64 0, .bool false] 56
              have mB : wF.heap.size < (wF.alloc (.cells #[.slice none 0 0, .slice none 0 0, .int .u64 0, .int .u64 0, .bool false] 56)).heap.size := by simp
              generalize wF.alloc (.cells #[.slice none 0 0, .slice none 0 0, .int .u64 0, .int .u64 0, .bool false] 56) = vB at *
              have row := row.kept (T := fun _ => False) (Fr.of_below hB) (fun _ _ h => h)
              have zL := LV.size
              have zD := LD.size
              have LV := Base.next LV hB
              have LD := Base.next LD hB
              have SV : Fr AA wr vB := Fr.of_below LV
              refine held_two (i := 10) (j := 14) (by kernel_rfl) (op_call (i := 10) (f := 18) (args := #[.pointer (some gp), .pointer (some a), .slice p n c, .int .u64 (now + s.wt % 500)]) rfl (by kernel_rfl) (by kernel_rfl) ((CT vB LV p n c fr hfn hnc hnm hby row).mono ?_)) (op_value (i := 14) (v := .pointer (some ⟨vB.heap.size, 0, none⟩)) (w' := vB.alloc (.cells #[.int .i64 0, .int .i64 0, .int .u64 0, .bool false] 44)) rfl (by kernel_rfl) (by kernel_rfl) ⟨SV.alloc _, ?_⟩)
              · rintro e wT ⟨x, cx, y, cy, Yf, rfl, hrw, QV, FT⟩
                have zT' := FT.size
                have zL := LV.size
                have zD := LD.size
                have lB := bB.lt
                have zB : (fun k => wr.heap.size ≤ k ∧ k < vB.heap.size) (wF.heap.size) := ⟨by omega, lB⟩
                have bB := bB.kept FT (fun h => h (.inr ⟨by omega, lB⟩))
                have SV := QV.fr
                have NV : Fr (fun k => k < wr.heap.size) D wT := (Fr.of_below LD : Fr (fun k => k < wr.heap.size) D vB).trans FT (fun k hk h => Nat.lt_of_not_le fun h2 => h (.inr ⟨h2, by omega⟩))
                clear CT CF
                generalize hX : takeT g l fr (now + s.wt % 500) = X at *
                have hX := Lib.hid hX
                refine ⟨_, rfl, SV, ?_⟩
                refine held_take (i := 11) (v := .tuple #[.agg (vcells X.v), .agg (kcells X.k x cx y cy)]) rfl (by kernel_rfl) (by kernel_rfl) (by kernel_rfl) (fun _ _ _ h => h) (by kernel_rfl) SV (fun _ hu => by kernel_rfl) ?_
                refine held_take (i := 12) (v := .agg (vcells X.v)) rfl (by kernel_rfl) (by kernel_rfl) (by kernel_rfl) (fun _ _ _ h => h) (by kernel_rfl) SV (fun _ hu => by kernel_rfl) ?_
                refine held_take (i := 13) (v := .agg (kcells X.k x cx y cy)) rfl (by kernel_rfl) (by kernel_rfl) (by kernel_rfl) (fun _ _ _ h => h) (by kernel_rfl) SV (fun _ hu => by kernel_rfl) ?_
                refine held_one (i := 14) (v := .pointer (some ⟨wT.heap.size, 0, none⟩)) (w' := wT.alloc (.cells #[.int .i64 0, .int .i64 0, .int .u64 0, .bool false] 44)) rfl (by kernel_rfl) (by kernel_rfl) (by kernel_rfl) (SV.alloc _) ?_
                have hA : Below wT.heap.size wT (wT.alloc (.cells #[.int .i64 0, .int .i64 0, .int .u64 0, .bool false] 44)) := (Below.refl _ _).alloc (Nat.le_refl _) _
                have bA := Blk.new wT #[.int .i64 0, .int .i64 0, .int .u64 0, .bool false] 44
                have mA : wT.heap.size < (wT.alloc (.cells #[.int .i64 0, .int .i64 0, .int .u64 0, .bool false] 44)).heap.size := by simp
                generalize wT.alloc (.cells #[.int .i64 0, .int .i64 0, .int .u64 0, .bool false] 44) = vA at *
                have bB := bB.below hA bB.lt
                have zS' := SV.size
                have zD := NV.size
                obtain ⟨FA, ZA, QV, zzA, zA⟩ := QV.grow hA (by omega)
                have zB := zzA _ zB
                have NV := NV.trans (T := fun _ => False) (Fr.of_below hA) fun _ _ h => h.elim
                have SV := QV.fr
                have S1 := SV.setRow (g := wT.heap.size) (fun h => by omega) (vcells X.v)
                refine held_st (i := 16) rfl (by kernel_rfl) (by kernel_rfl) (st_row 44 (.tmp 19) (.tmp 85) rfl (g := wT.heap.size) (cells := vcells X.v) (by kernel_rfl) (by kernel_rfl) bA (by kernel_rfl) rfl (by simp [vcells, Value.oneCell'])) S1 ?_
                have bB1 := bB.otherRow (g := wT.heap.size) (by omega) (vcells X.v)
                have S2 := S1.setRow (g := wF.heap.size) (fun h => by omega) (kcells X.k x cx y cy)
                refine held_st (i := 17) rfl (by kernel_rfl) (by kernel_rfl) (st_row 56 (.tmp 20) (.tmp 86) rfl (g := wF.heap.size) (cells := kcells X.k x cx y cy) (by kernel_rfl) (by kernel_rfl) bB1 (by kernel_rfl) rfl (by simp [kcells, Value.oneCell'])) S2 ?_
                refine held_done (by kernel_rfl) ?_
                have bA1 := (bA.setRow (vcells X.v)).otherRow (g := wF.heap.size) (by omega) (kcells X.k x cx y cy)
                have bB2 := bB1.setRow (kcells X.k x cx y cy)
                have QF := ((QV.set (b := wT.heap.size) zA (by omega) (vcells X.v)).set (b := wF.heap.size) zB (by omega) (kcells X.k x cx y cy)).pick zA zB
                have NF := hDD.trans ((NV.setRow (g := wT.heap.size) (fun h => by omega) (vcells X.v)).setRow (g := wF.heap.size) (fun h => by omega) (kcells X.k x cx y cy)) fun _ _ h => h
                go_wp2
                go_meet
                have hX := hX.out
                subst hX
                exact ⟨wT.heap.size, wF.heap.size, fr, x, cx, y, cy, rfl, rfl, hby, bA1, bB2, ⟨by omega, by omega, by omega⟩, QF, S2, NF⟩
              · have hA : Below vB.heap.size vB (vB.alloc (.cells #[.int .i64 0, .int .i64 0, .int .u64 0, .bool false] 44)) := (Below.refl _ _).alloc (Nat.le_refl _) _
                have bA := Blk.new vB #[.int .i64 0, .int .i64 0, .int .u64 0, .bool false] 44
                have mA : vB.heap.size < (vB.alloc (.cells #[.int .i64 0, .int .i64 0, .int .u64 0, .bool false] 44)).heap.size := by simp
                generalize vB.alloc (.cells #[.int .i64 0, .int .i64 0, .int .u64 0, .bool false] 44) = vA at *
                have bB := bB.below hA bB.lt
                have row := row.kept (T := fun _ => False) (Fr.of_below hA) (fun _ _ h => h)
                have zL := LV.size
                have zD := LD.size
                have LV := Base.next LV hA
                have LD := Base.next LD hA
                have SV : Fr AA wr vA := Fr.of_below LV
                refine held_call (i := 10) (f := 18) (args := #[.pointer (some gp), .pointer (some a), .slice p n c, .int .u64 (now + s.wt % 500)]) rfl (by kernel_rfl) (by kernel_rfl) (by kernel_rfl) ((CT vA LV p n c fr hfn hnc hnm hby row).mono ?_)
                rintro e wT ⟨x, cx, y, cy, Yf, rfl, hrw, QV, FT⟩
                have zT' := FT.size
                have zL := LV.size
                have zD := LD.size
                have lA := bA.lt
                have zA : (fun k => wr.heap.size ≤ k ∧ k < vA.heap.size) (vB.heap.size) := ⟨by omega, lA⟩
                have bA := bA.kept FT (fun h => h (.inr ⟨by omega, lA⟩))
                have lB := bB.lt
                have zB : (fun k => wr.heap.size ≤ k ∧ k < vA.heap.size) (wF.heap.size) := ⟨by omega, lB⟩
                have bB := bB.kept FT (fun h => h (.inr ⟨by omega, lB⟩))
                have SV := QV.fr
                have NV : Fr (fun k => k < wr.heap.size) D wT := (Fr.of_below LD : Fr (fun k => k < wr.heap.size) D vA).trans FT (fun k hk h => Nat.lt_of_not_le fun h2 => h (.inr ⟨h2, by omega⟩))
                clear CT CF
                generalize hX : takeT g l fr (now + s.wt % 500) = X at *
                have hX := Lib.hid hX
                refine ⟨_, rfl, SV, ?_⟩
                refine held_take (i := 11) (v := .tuple #[.agg (vcells X.v), .agg (kcells X.k x cx y cy)]) rfl (by kernel_rfl) (by kernel_rfl) (by kernel_rfl) (fun _ _ _ h => h) (by kernel_rfl) SV (fun _ hu => by kernel_rfl) ?_
                refine held_take (i := 12) (v := .agg (vcells X.v)) rfl (by kernel_rfl) (by kernel_rfl) (by kernel_rfl) (fun _ _ _ h => h) (by kernel_rfl) SV (fun _ hu => by kernel_rfl) ?_
                refine held_take (i := 13) (v := .agg (kcells X.k x cx y cy)) rfl (by kernel_rfl) (by kernel_rfl) (by kernel_rfl) (fun _ _ _ h => h) (by kernel_rfl) SV (fun _ hu => by kernel_rfl) ?_
                have S1 := SV.setRow (g := vB.heap.size) (fun h => by omega) (vcells X.v)
                refine held_st (i := 16) rfl (by kernel_rfl) (by kernel_rfl) (st_row 44 (.tmp 19) (.tmp 85) rfl (g := vB.heap.size) (cells := vcells X.v) (by kernel_rfl) (by kernel_rfl) bA (by kernel_rfl) rfl (by simp [vcells, Value.oneCell'])) S1 ?_
                have bB1 := bB.otherRow (g := vB.heap.size) (by omega) (vcells X.v)
                have S2 := S1.setRow (g := wF.heap.size) (fun h => by omega) (kcells X.k x cx y cy)
                refine held_st (i := 17) rfl (by kernel_rfl) (by kernel_rfl) (st_row 56 (.tmp 20) (.tmp 86) rfl (g := wF.heap.size) (cells := kcells X.k x cx y cy) (by kernel_rfl) (by kernel_rfl) bB1 (by kernel_rfl) rfl (by simp [kcells, Value.oneCell'])) S2 ?_
                refine held_done (by kernel_rfl) ?_
                have bA1 := (bA.setRow (vcells X.v)).otherRow (g := wF.heap.size) (by omega) (kcells X.k x cx y cy)
                have bB2 := bB1.setRow (kcells X.k x cx y cy)
                have QF := ((QV.set (b := vB.heap.size) zA (by omega) (vcells X.v)).set (b := wF.heap.size) zB (by omega) (kcells X.k x cx y cy)).pick zA zB
                have NF := hDD.trans ((NV.setRow (g := vB.heap.size) (fun h => by omega) (vcells X.v)).setRow (g := wF.heap.size) (fun h => by omega) (kcells X.k x cx y cy)) fun _ _ h => h
                go_wp2
                go_meet
                have hX := hX.out
                subst hX
                exact ⟨vB.heap.size, wF.heap.size, fr, x, cx, y, cy, rfl, rfl, hby, bA1, bB2, ⟨by omega, by omega, by omega⟩, QF, S2, NF⟩
          · have hA : Below D.heap.size D (D.alloc (.cells #[.int .i64 0, .int .i64 0, .int .u64 0, .bool false] 44)) := (Below.refl _ _).alloc (Nat.le_refl _) _
            have bA := Blk.new D #[.int .i64 0, .int .i64 0, .int .u64 0, .bool false] 44
            have mA : D.heap.size < (D.alloc (.cells #[.int .i64 0, .int .i64 0, .int .u64 0, .bool false] 44)).heap.size := by simp
            generalize D.alloc (.cells #[.int .i64 0, .int .i64 0, .int .u64 0, .bool false] 44) = vA at *
            have zL := LV.size
            have zD := LD.size
            have LV := Base.next LV hA
            have LD := Base.next LD hA
            have SV : Fr AA wr vA := Fr.of_below LV
            refine held_two (i := 8) (j := 15) (by kernel_rfl) (op_call (i := 8) (f := 14) (args := #[.agg (shC s).toArray, .agg #[.pointer (some a), .pointer (some ⟨b, 0, none⟩)]]) rfl (by kernel_rfl) (by kernel_rfl) ((CF vA LV).mono ?_)) (op_value (i := 15) (v := .pointer (some ⟨vA.heap.size, 0, none⟩)) (w' := vA.alloc (.cells #[.slice none 0 0, .slice none 0 0, .int .u64 0, .int .u64 0, .bool false] 56)) rfl (by kernel_rfl) (by kernel_rfl) ⟨SV.alloc _, ?_⟩)
            · rintro e wF ⟨p, n, c, fr, rfl, hfn, hnc, hnm, hby, hrow, LF⟩
              have zF := LF.size
              have zL := LV.size
              have zD := LD.size
              have bA := bA.below LF bA.lt
              have row := hrow.mono (T := fun k => k < w.heap.size ∨ wr.heap.size ≤ k) fun k _ h => h.imp id fun h => (by omega)
              have LV := Base.next LV LF
              have LD := Base.next LD LF
              have SV : Fr AA wr wF := Fr.of_below LV
              refine ⟨_, rfl, SV, ?_⟩
              refine held_two (i := 10) (j := 15) (by kernel_rfl) (op_call (i := 10) (f := 18) (args := #[.pointer (some gp), .pointer (some a), .slice p n c, .int .u64 (now + s.wt % 500)]) rfl (by kernel_rfl) (by kernel_rfl) ((CT wF LV p n c fr hfn hnc hnm hby row).mono ?_)) (op_value (i := 15) (v := .pointer (some ⟨wF.heap.size, 0, none⟩)) (w' := wF.alloc (.cells #[.slice none 0 0, .slice none 0 0, .int .u64 0, .int .u64 0, .bool false] 56)) rfl (by kernel_rfl) (by kernel_rfl) ⟨SV.alloc _, ?_⟩)
              · rintro e wT ⟨x, cx, y, cy, Yf, rfl, hrw, QV, FT⟩
                have zT' := FT.size
                have zL := LV.size
                have zD := LD.size
                have lA := bA.lt
                have zA : (fun k => wr.heap.size ≤ k ∧ k < wF.heap.size) (D.heap.size) := ⟨by omega, lA⟩
                have bA := bA.kept FT (fun h => h (.inr ⟨by omega, lA⟩))
                have SV := QV.fr
                have NV : Fr (fun k => k < wr.heap.size) D wT := (Fr.of_below LD : Fr (fun k => k < wr.heap.size) D wF).trans FT (fun k hk h => Nat.lt_of_not_le fun h2 => h (.inr ⟨h2, by omega⟩))
                clear CT CF
                generalize hX : takeT g l fr (now + s.wt % 500) = X at *
                have hX := Lib.hid hX
                refine ⟨_, rfl, SV, ?_⟩
                refine held_take (i := 11) (v := .tuple #[.agg (vcells X.v), .agg (kcells X.k x cx y cy)]) rfl (by kernel_rfl) (by kernel_rfl) (by kernel_rfl) (fun _ _ _ h => h) (by kernel_rfl) SV (fun _ hu => by kernel_rfl) ?_
                refine held_take (i := 12) (v := .agg (vcells X.v)) rfl (by kernel_rfl) (by kernel_rfl) (by kernel_rfl) (fun _ _ _ h => h) (by kernel_rfl) SV (fun _ hu => by kernel_rfl) ?_
                refine held_take (i := 13) (v := .agg (kcells X.k x cx y cy)) rfl (by kernel_rfl) (by kernel_rfl) (by kernel_rfl) (fun _ _ _ h => h) (by kernel_rfl) SV (fun _ hu => by kernel_rfl) ?_
                refine held_one (i := 15) (v := .pointer (some ⟨wT.heap.size, 0, none⟩)) (w' := wT.alloc (.cells #[.slice none 0 0, .slice none 0 0, .int .u64 0, .int .u64 0, .bool false] 56)) rfl (by kernel_rfl) (by kernel_rfl) (by kernel_rfl) (SV.alloc _) ?_
                have hB : Below wT.heap.size wT (wT.alloc (.cells #[.slice none 0 0, .slice none 0 0, .int .u64 0, .int .u64 0, .bool false] 56)) := (Below.refl _ _).alloc (Nat.le_refl _) _
                have bB := Blk.new wT #[.slice none 0 0, .slice none 0 0, .int .u64 0, .int .u64 0, .bool false] 56
                have mB : wT.heap.size < (wT.alloc (.cells #[.slice none 0 0, .slice none 0 0, .int .u64 0, .int .u64 0, .bool false] 56)).heap.size := by simp
                generalize wT.alloc (.cells #[.slice none 0 0, .slice none 0 0, .int .u64 0, .int .u64 0, .bool false] 56) = vB at *
                have bA := bA.below hB bA.lt
                have zS' := SV.size
                have zD := NV.size
                obtain ⟨FB, ZB, QV, zzB, zB⟩ := QV.grow hB (by omega)
                have zA := zzB _ zA
                have NV := NV.trans (T := fun _ => False) (Fr.of_below hB) fun _ _ h => h.elim
                have SV := QV.fr
                have S1 := SV.setRow (g := D.heap.size) (fun h => by omega) (vcells X.v)
                refine held_st (i := 16) rfl (by kernel_rfl) (by kernel_rfl) (st_row 44 (.tmp 19) (.tmp 85) rfl (g := D.heap.size) (cells := vcells X.v) (by kernel_rfl) (by kernel_rfl) bA (by kernel_rfl) rfl (by simp [vcells, Value.oneCell'])) S1 ?_
                have bB1 := bB.otherRow (g := D.heap.size) (by omega) (vcells X.v)
                have S2 := S1.setRow (g := wT.heap.size) (fun h => by omega) (kcells X.k x cx y cy)
                refine held_st (i := 17) rfl (by kernel_rfl) (by kernel_rfl) (st_row 56 (.tmp 20) (.tmp 86) rfl (g := wT.heap.size) (cells := kcells X.k x cx y cy) (by kernel_rfl) (by kernel_rfl) bB1 (by kernel_rfl) rfl (by simp [kcells, Value.oneCell'])) S2 ?_
                refine held_done (by kernel_rfl) ?_
                have bA1 := (bA.setRow (vcells X.v)).otherRow (g := wT.heap.size) (by omega) (kcells X.k x cx y cy)
                have bB2 := bB1.setRow (kcells X.k x cx y cy)
                have QF := ((QV.set (b := D.heap.size) zA (by omega) (vcells X.v)).set (b := wT.heap.size) zB (by omega) (kcells X.k x cx y cy)).pick zA zB
                have NF := hDD.trans ((NV.setRow (g := D.heap.size) (fun h => by omega) (vcells X.v)).setRow (g := wT.heap.size) (fun h => by omega) (kcells X.k x cx y cy)) fun _ _ h => h
                go_wp2
                go_meet
                have hX := hX.out
                subst hX
                exact ⟨D.heap.size, wT.heap.size, fr, x, cx, y, cy, rfl, rfl, hby, bA1, bB2, ⟨by omega, by omega, by omega⟩, QF, S2, NF⟩
              · have hB : Below wF.heap.size wF (wF.alloc (.cells #[.slice none 0 0, .slice none 0 0, .int .u64 0, .int .u64 0, .bool false] 56)) := (Below.refl _ _).alloc (Nat.le_refl _) _
                have bB := Blk.new wF #[.slice none 0 0, .slice none 0 0, .int .u64 0, .int .u64 0, .bool false] 56
                have mB : wF.heap.size < (wF.alloc (.cells #[.slice none 0 0, .slice none 0 0, .int .u64 0, .int .u64 0, .bool false] 56)).heap.size := by simp
                generalize wF.alloc (.cells #[.slice none 0 0, .slice none 0 0, .int .u64 0, .int .u64 0, .bool false] 56) = vB at *
                have bA := bA.below hB bA.lt
                have row := row.kept (T := fun _ => False) (Fr.of_below hB) (fun _ _ h => h)
                have zL := LV.size
                have zD := LD.size
                have LV := Base.next LV hB
                have LD := Base.next LD hB
                have SV : Fr AA wr vB := Fr.of_below LV
                refine held_call (i := 10) (f := 18) (args := #[.pointer (some gp), .pointer (some a), .slice p n c, .int .u64 (now + s.wt % 500)]) rfl (by kernel_rfl) (by kernel_rfl) (by kernel_rfl) ((CT vB LV p n c fr hfn hnc hnm hby row).mono ?_)
                rintro e wT ⟨x, cx, y, cy, Yf, rfl, hrw, QV, FT⟩
                have zT' := FT.size
                have zL := LV.size
                have zD := LD.size
                have lA := bA.lt
                have zA : (fun k => wr.heap.size ≤ k ∧ k < vB.heap.size) (D.heap.size) := ⟨by omega, lA⟩
                have bA := bA.kept FT (fun h => h (.inr ⟨by omega, lA⟩))
                have lB := bB.lt
                have zB : (fun k => wr.heap.size ≤ k ∧ k < vB.heap.size) (wF.heap.size) := ⟨by omega, lB⟩
                have bB := bB.kept FT (fun h => h (.inr ⟨by omega, lB⟩))
                have SV := QV.fr
                have NV : Fr (fun k => k < wr.heap.size) D wT := (Fr.of_below LD : Fr (fun k => k < wr.heap.size) D vB).trans FT (fun k hk h => Nat.lt_of_not_le fun h2 => h (.inr ⟨h2, by omega⟩))
                clear CT CF
                generalize hX : takeT g l fr (now + s.wt % 500) = X at *
                have hX := Lib.hid hX
                refine ⟨_, rfl, SV, ?_⟩
                refine held_take (i := 11) (v := .tuple #[.agg (vcells X.v), .agg (kcells X.k x cx y cy)]) rfl (by kernel_rfl) (by kernel_rfl) (by kernel_rfl) (fun _ _ _ h => h) (by kernel_rfl) SV (fun _ hu => by kernel_rfl) ?_
                refine held_take (i := 12) (v := .agg (vcells X.v)) rfl (by kernel_rfl) (by kernel_rfl) (by kernel_rfl) (fun _ _ _ h => h) (by kernel_rfl) SV (fun _ hu => by kernel_rfl) ?_
                refine held_take (i := 13) (v := .agg (kcells X.k x cx y cy)) rfl (by kernel_rfl) (by kernel_rfl) (by kernel_rfl) (fun _ _ _ h => h) (by kernel_rfl) SV (fun _ hu => by kernel_rfl) ?_
                have S1 := SV.setRow (g := D.heap.size) (fun h => by omega) (vcells X.v)
                refine held_st (i := 16) rfl (by kernel_rfl) (by kernel_rfl) (st_row 44 (.tmp 19) (.tmp 85) rfl (g := D.heap.size) (cells := vcells X.v) (by kernel_rfl) (by kernel_rfl) bA (by kernel_rfl) rfl (by simp [vcells, Value.oneCell'])) S1 ?_
                have bB1 := bB.otherRow (g := D.heap.size) (by omega) (vcells X.v)
                have S2 := S1.setRow (g := wF.heap.size) (fun h => by omega) (kcells X.k x cx y cy)
                refine held_st (i := 17) rfl (by kernel_rfl) (by kernel_rfl) (st_row 56 (.tmp 20) (.tmp 86) rfl (g := wF.heap.size) (cells := kcells X.k x cx y cy) (by kernel_rfl) (by kernel_rfl) bB1 (by kernel_rfl) rfl (by simp [kcells, Value.oneCell'])) S2 ?_
                refine held_done (by kernel_rfl) ?_
                have bA1 := (bA.setRow (vcells X.v)).otherRow (g := wF.heap.size) (by omega) (kcells X.k x cx y cy)
                have bB2 := bB1.setRow (kcells X.k x cx y cy)
                have QF := ((QV.set (b := D.heap.size) zA (by omega) (vcells X.v)).set (b := wF.heap.size) zB (by omega) (kcells X.k x cx y cy)).pick zA zB
                have NF := hDD.trans ((NV.setRow (g := D.heap.size) (fun h => by omega) (vcells X.v)).setRow (g := wF.heap.size) (fun h => by omega) (kcells X.k x cx y cy)) fun _ _ h => h
                go_wp2
                go_meet
                have hX := hX.out
                subst hX
                exact ⟨D.heap.size, wF.heap.size, fr, x, cx, y, cy, rfl, rfl, hby, bA1, bB2, ⟨by omega, by omega, by omega⟩, QF, S2, NF⟩
            · have hB : Below vA.heap.size vA (vA.alloc (.cells #[.slice none 0 0, .slice none 0 0, .int .u64 0, .int .u64 0, .bool false] 56)) := (Below.refl _ _).alloc (Nat.le_refl _) _
              have bB := Blk.new vA #[.slice none 0 0, .slice none 0 0, .int .u64 0, .int .u64 0, .bool false] 56
              have mB : vA.heap.size < (vA.alloc (.cells #[.slice none 0 0, .slice none 0 0, .int .u64 0, .int .u64 0, .bool false] 56)).heap.size := by simp
              generalize vA.alloc (.cells #[.slice none 0 0, .slice none 0 0, .int .u64 0, .int .u64 0, .bool false] 56) = vB at *
              have bA := bA.below hB bA.lt
              have zL := LV.size
              have zD := LD.size
              have LV := Base.next LV hB
              have LD := Base.next LD hB
              have SV : Fr AA wr vB := Fr.of_below LV
              refine held_call (i := 8) (f := 14) (args := #[.agg (shC s).toArray, .agg #[.pointer (some a), .pointer (some ⟨b, 0, none⟩)]]) rfl (by kernel_rfl) (by kernel_rfl) (by kernel_rfl) ((CF vB LV).mono ?_)
              rintro e wF ⟨p, n, c, fr, rfl, hfn, hnc, hnm, hby, hrow, LF⟩
              have zF := LF.size
              have zL := LV.size
              have zD := LD.size
              have bA := bA.below LF bA.lt
              have bB := bB.below LF bB.lt
              have row := hrow.mono (T := fun k => k < w.heap.size ∨ wr.heap.size ≤ k) fun k _ h => h.imp id fun h => (by omega)
              have LV := Base.next LV LF
              have LD := Base.next LD LF
              have SV : Fr AA wr wF := Fr.of_below LV
              refine ⟨_, rfl, SV, ?_⟩
              refine held_call (i := 10) (f := 18) (args := #[.pointer (some gp), .pointer (some a), .slice p n c, .int .u64 (now + s.wt % 500)]) rfl (by kernel_rfl) (by kernel_rfl) (by kernel_rfl) ((CT wF LV p n c fr hfn hnc hnm hby row).mono ?_)
              rintro e wT ⟨x, cx, y, cy, Yf, rfl, hrw, QV, FT⟩
              have zT' := FT.size
              have zL := LV.size
              have zD := LD.size
              have lA := bA.lt
              have zA : (fun k => wr.heap.size ≤ k ∧ k < wF.heap.size) (D.heap.size) := ⟨by omega, lA⟩
              have bA := bA.kept FT (fun h => h (.inr ⟨by omega, lA⟩))
              have lB := bB.lt
              have zB : (fun k => wr.heap.size ≤ k ∧ k < wF.heap.size) (vA.heap.size) := ⟨by omega, lB⟩
              have bB := bB.kept FT (fun h => h (.inr ⟨by omega, lB⟩))
              have SV := QV.fr
              have NV : Fr (fun k => k < wr.heap.size) D wT := (Fr.of_below LD : Fr (fun k => k < wr.heap.size) D wF).trans FT (fun k hk h => Nat.lt_of_not_le fun h2 => h (.inr ⟨h2, by omega⟩))
              clear CT CF
              generalize hX : takeT g l fr (now + s.wt % 500) = X at *
              have hX := Lib.hid hX
              refine ⟨_, rfl, SV, ?_⟩
              refine held_take (i := 11) (v := .tuple #[.agg (vcells X.v), .agg (kcells X.k x cx y cy)]) rfl (by kernel_rfl) (by kernel_rfl) (by kernel_rfl) (fun _ _ _ h => h) (by kernel_rfl) SV (fun _ hu => by kernel_rfl) ?_
              refine held_take (i := 12) (v := .agg (vcells X.v)) rfl (by kernel_rfl) (by kernel_rfl) (by kernel_rfl) (fun _ _ _ h => h) (by kernel_rfl) SV (fun _ hu => by kernel_rfl) ?_
              refine held_take (i := 13) (v := .agg (kcells X.k x cx y cy)) rfl (by kernel_rfl) (by kernel_rfl) (by kernel_rfl) (fun _ _ _ h => h) (by kernel_rfl) SV (fun _ hu => by kernel_rfl) ?_
              have S1 := SV.setRow (g := D.heap.size) (fun h => by omega) (vcells X.v)
              refine held_st (i := 16) rfl (by kernel_rfl) (by kernel_rfl) (st_row 44 (.tmp 19) (.tmp 85) rfl (g := D.heap.size) (cells := vcells X.v) (by kernel_rfl) (by kernel_rfl) bA (by kernel_rfl) rfl (by simp [vcells, Value.oneCell'])) S1 ?_
              have bB1 := bB.otherRow (g := D.heap.size) (by omega) (vcells X.v)
              have S2 := S1.setRow (g := vA.heap.size) (fun h => by omega) (kcells X.k x cx y cy)
              refine held_st (i := 17) rfl (by kernel_rfl) (by kernel_rfl) (st_row 56 (.tmp 20) (.tmp 86) rfl (g := vA.heap.size) (cells := kcells X.k x cx y cy) (by kernel_rfl) (by kernel_rfl) bB1 (by kernel_rfl) rfl (by simp [kcells, Value.oneCell'])) S2 ?_
              refine held_done (by kernel_rfl) ?_
              have bA1 := (bA.setRow (vcells X.v)).otherRow (g := vA.heap.size) (by omega) (kcells X.k x cx y cy)
              have bB2 := bB1.setRow (kcells X.k x cx y cy)
              have QF := ((QV.set (b := D.heap.size) zA (by omega) (vcells X.v)).set (b := vA.heap.size) zB (by omega) (kcells X.k x cx y cy)).pick zA zB
              have NF := hDD.trans ((NV.setRow (g := D.heap.size) (fun h => by omega) (vcells X.v)).setRow (g := vA.heap.size) (fun h => by omega) (kcells X.k x cx y cy)) fun _ _ h => h
              go_wp2
              go_meet
              have hX := hX.out
              subst hX
              exact ⟨D.heap.size, vA.heap.size, fr, x, cx, y, cy, rfl, rfl, hby, bA1, bB2, ⟨by omega, by omega, by omega⟩, QF, S2, NF⟩
          · have hB : Below D.heap.size D (D.alloc (.cells #[.slice none 0 0, .slice none 0 0, .int .u64 0, .int .u64 0, .bool false] 56)) := (Below.refl _ _).alloc (Nat.le_refl _) _
            have bB := Blk.new D #[.slice none 0 0, .slice none 0 0, .int .u64 0, .int .u64 0, .bool false] 56
            have mB : D.heap.size < (D.alloc (.cells #[.slice none 0 0, .slice none 0 0, .int .u64 0, .int .u64 0, .bool false] 56)).heap.size := by simp
            generalize D.alloc (.cells #[.slice none 0 0, .slice none 0 0, .int .u64 0, .int .u64 0, .bool false] 56) = vB at *
            have zL := LV.size
            have zD := LD.size
            have LV := Base.next LV hB
            have LD := Base.next LD hB
            have SV : Fr AA wr vB := Fr.of_below LV
            refine held_two (i := 8) (j := 14) (by kernel_rfl) (op_call (i := 8) (f := 14) (args := #[.agg (shC s).toArray, .agg #[.pointer (some a), .pointer (some ⟨b, 0, none⟩)]]) rfl (by kernel_rfl) (by kernel_rfl) ((CF vB LV).mono ?_)) (op_value (i := 14) (v := .pointer (some ⟨vB.heap.size, 0, none⟩)) (w' := vB.alloc (.cells #[.int .i64 0, .int .i64 0, .int .u64 0, .bool false] 44)) rfl (by kernel_rfl) (by kernel_rfl) ⟨SV.alloc _, ?_⟩)
            · rintro e wF ⟨p, n, c, fr, rfl, hfn, hnc, hnm, hby, hrow, LF⟩
              have zF := LF.size
              have zL := LV.size
              have zD := LD.size
              have bB := bB.below LF bB.lt
              have row := hrow.mono (T := fun k => k < w.heap.size ∨ wr.heap.size ≤ k) fun k _ h => h.imp id fun h => (by omega)
              have LV := Base.next LV LF
              have LD := Base.next LD LF
              have SV : Fr AA wr wF := Fr.of_below LV
              refine ⟨_, rfl, SV, ?_⟩
              refine held_two (i := 10) (j := 14) (by kernel_rfl) (op_call (i := 10) (f := 18) (args := #[.pointer (some gp), .pointer (some a), .slice p n c, .int .u64 (now + s.wt % 500)]) rfl (by kernel_rfl) (by kernel_rfl) ((CT wF LV p n c fr hfn hnc hnm hby row).mono ?_)) (op_value (i := 14) (v := .pointer (some ⟨wF.heap.size, 0, none⟩)) (w' := wF.alloc (.cells #[.int .i64 0, .int .i64 0, .int .u64 0, .bool false] 44)) rfl (by kernel_rfl) (by kernel_rfl) ⟨SV.alloc _, ?_⟩)
              · rintro e wT ⟨x, cx, y, cy, Yf, rfl, hrw, QV, FT⟩
                have zT' := FT.size
                have zL := LV.size
                have zD := LD.size
                have lB := bB.lt
                have zB : (fun k => wr.heap.size ≤ k ∧ k < wF.heap.size) (D.heap.size) := ⟨by omega, lB⟩
                have bB := bB.kept FT (fun h => h (.inr ⟨by omega, lB⟩))
                have SV := QV.fr
                have NV : Fr (fun k => k < wr.heap.size) D wT := (Fr.of_below LD : Fr (fun k => k < wr.heap.size) D wF).trans FT (fun k hk h => Nat.lt_of_not_le fun h2 => h (.inr ⟨h2, by omega⟩))
                clear CT CF
                generalize hX : takeT g l fr (now + s.wt % 500) = X at *
                have hX := Lib.hid hX
                refine ⟨_, rfl, SV, ?_⟩
                refine held_take (i := 11) (v := .tuple #[.agg (vcells X.v), .agg (kcells X.k x cx y cy)]) rfl (by kernel_rfl) (by kernel_rfl) (by kernel_rfl) (fun _ _ _ h => h) (by kernel_rfl) SV (fun _ hu => by kernel_rfl) ?_
                refine held_take (i := 12) (v := .agg (vcells X.v)) rfl (by kernel_rfl) (by kernel_rfl) (by kernel_rfl) (fun _ _ _ h => h) (by kernel_rfl) SV (fun _ hu => by kernel_rfl) ?_
                refine held_take (i := 13) (v := .agg (kcells X.k x cx y cy)) rfl (by kernel_rfl) (by kernel_rfl) (by kernel_rfl) (fun _ _ _ h => h) (by kernel_rfl) SV (fun _ hu => by kernel_rfl) ?_
                refine held_one (i := 14) (v := .pointer (some ⟨wT.heap.size, 0, none⟩)) (w' := wT.alloc (.cells #[.int .i64 0, .int .i64 0, .int .u64 0, .bool false] 44)) rfl (by kernel_rfl) (by kernel_rfl) (by kernel_rfl) (SV.alloc _) ?_
                have hA : Below wT.heap.size wT (wT.alloc (.cells #[.int .i64 0, .int .i64 0, .int .u64 0, .bool false] 44)) := (Below.refl _ _).alloc (Nat.le_refl _) _
                have bA := Blk.new wT #[.int .i64 0, .int .i64 0, .int .u64 0, .bool false] 44
                have mA : wT.heap.size < (wT.alloc (.cells #[.int .i64 0, .int .i64 0, .int .u64 0, .bool false] 44)).heap.size := by simp
                generalize wT.alloc (.cells #[.int .i64 0, .int .i64 0, .int .u64 0, .bool false] 44) = vA at *
                have bB := bB.below hA bB.lt
                have zS' := SV.size
                have zD := NV.size
                obtain ⟨FA, ZA, QV, zzA, zA⟩ := QV.grow hA (by omega)
                have zB := zzA _ zB
                have NV := NV.trans (T := fun _ => False) (Fr.of_below hA) fun _ _ h => h.elim
                have SV := QV.fr
                have S1 := SV.setRow (g := wT.heap.size) (fun h => by omega) (vcells X.v)
                refine held_st (i := 16) rfl (by kernel_rfl) (by kernel_rfl) (st_row 44 (.tmp 19) (.tmp 85) rfl (g := wT.heap.size) (cells := vcells X.v) (by kernel_rfl) (by kernel_rfl) bA (by kernel_rfl) rfl (by simp [vcells, Value.oneCell'])) S1 ?_
                have bB1 := bB.otherRow (g := wT.heap.size) (by omega) (vcells X.v)
                have S2 := S1.setRow (g := D.heap.size) (fun h => by omega) (kcells X.k x cx y cy)
                refine held_st (i := 17) rfl (by kernel_rfl) (by kernel_rfl) (st_row 56 (.tmp 20) (.tmp 86) rfl (g := D.heap.size) (cells := kcells X.k x cx y cy) (by kernel_rfl) (by kernel_rfl) bB1 (by kernel_rfl) rfl (by simp [kcells, Value.oneCell'])) S2 ?_
                refine held_done (by kernel_rfl) ?_
                have bA1 := (bA.setRow (vcells X.v)).otherRow (g := D.heap.size) (by omega) (kcells X.k x cx y cy)
                have bB2 := bB1.setRow (kcells X.k x cx y cy)
                have QF := ((QV.set (b := wT.heap.size) zA (by omega) (vcells X.v)).set (b := D.heap.size) zB (by omega) (kcells X.k x cx y cy)).pick zA zB
                have NF := hDD.trans ((NV.setRow (g := wT.heap.size) (fun h => by omega) (vcells X.v)).setRow (g := D.heap.size) (fun h => by omega) (kcells X.k x cx y cy)) fun _ _ h => h
                go_wp2
                go_meet
                have hX := hX.out
                subst hX
                exact ⟨wT.heap.size, D.heap.size, fr, x, cx, y, cy, rfl, rfl, hby, bA1, bB2, ⟨by omega, by omega, by omega⟩, QF, S2, NF⟩
              · have hA : Below wF.heap.size wF (wF.alloc (.cells #[.int .i64 0, .int .i64 0, .int .u64 0, .bool false] 44)) := (Below.refl _ _).alloc (Nat.le_refl _) _
                have bA := Blk.new wF #[.int .i64 0, .int .i64 0, .int .u64 0, .bool false] 44
                have mA : wF.heap.size < (wF.alloc (.cells #[.int .i64 0, .int .i64 0, .int .u64 0, .bool false] 44)).heap.size := by simp
                generalize wF.alloc (.cells #[.int .i64 0, .int .i64 0, .int .u64 0, .bool false] 44) = vA at *
                have bB := bB.below hA bB.lt
                have row := row.kept (T := fun _ => False) (Fr.of_below hA) (fun _ _ h => h)
                have zL := LV.size
                have zD := LD.size
                have LV := Base.next LV hA
                have LD := Base.next LD hA
                have SV : Fr AA wr vA := Fr.of_below LV
                refine held_call (i := 10) (f := 18) (args := #[.pointer (some gp), .pointer (some a), .slice p n c, .int .u64 (now + s.wt % 500)]) rfl (by kernel_rfl) (by kernel_rfl) (by kernel_rfl) ((CT vA LV p n c fr hfn hnc hnm hby row).mono ?_)
                rintro e wT ⟨x, cx, y, cy, Yf, rfl, hrw, QV, FT⟩
                have zT' := FT.size
                have zL := LV.size
                have zD := LD.size
                have lA := bA.lt
                have zA : (fun k => wr.heap.size ≤ k ∧ k < vA.heap.size) (wF.heap.size) := ⟨by omega, lA⟩
                have bA := bA.kept FT (fun h => h (.inr ⟨by omega, lA⟩))
                have lB := bB.lt
                have zB : (fun k => wr.heap.size ≤ k ∧ k < vA.heap.size) (D.heap.size) := ⟨by omega, lB⟩
                have bB := bB.kept FT (fun h => h (.inr ⟨by omega, lB⟩))
                have SV := QV.fr
                have NV : Fr (fun k => k < wr.heap.size) D wT := (Fr.of_below LD : Fr (fun k => k < wr.heap.size) D vA).trans FT (fun k hk h => Nat.lt_of_not_le fun h2 => h (.inr ⟨h2, by omega⟩))
                clear CT CF
                generalize hX : takeT g l fr (now + s.wt % 500) = X at *
                have hX := Lib.hid hX
                refine ⟨_, rfl, SV, ?_⟩
                refine held_take (i := 11) (v := .tuple #[.agg (vcells X.v), .agg (kcells X.k x cx y cy)]) rfl (by kernel_rfl) (by kernel_rfl) (by kernel_rfl) (fun _ _ _ h => h) (by kernel_rfl) SV (fun _ hu => by kernel_rfl) ?_
                refine held_take (i := 12) (v := .agg (vcells X.v)) rfl (by kernel_rfl) (by kernel_rfl) (by kernel_rfl) (fun _ _ _ h => h) (by kernel_rfl) SV (fun _ hu => by kernel_rfl) ?_
                refine held_take (i := 13) (v := .agg (kcells X.k x cx y cy)) rfl (by kernel_rfl) (by kernel_rfl) (by kernel_rfl) (fun _ _ _ h => h) (by kernel_rfl) SV (fun _ hu => by kernel_rfl) ?_
                have S1 := SV.setRow (g := wF.heap.size) (fun h => by omega) (vcells X.v)
                refine held_st (i := 16) rfl (by kernel_rfl) (by kernel_rfl) (st_row 44 (.tmp 19) (.tmp 85) rfl (g := wF.heap.size) (cells := vcells X.v) (by kernel_rfl) (by kernel_rfl) bA (by kernel_rfl) rfl (by simp [vcells, Value.oneCell'])) S1 ?_
                have bB1 := bB.otherRow (g := wF.heap.size) (by omega) (vcells X.v)
                have S2 := S1.setRow (g := D.heap.size) (fun h => by omega) (kcells X.k x cx y cy)
                refine held_st (i := 17) rfl (by kernel_rfl) (by kernel_rfl) (st_row 56 (.tmp 20) (.tmp 86) rfl (g := D.heap.size) (cells := kcells X.k x cx y cy) (by kernel_rfl) (by kernel_rfl) bB1 (by kernel_rfl) rfl (by simp [kcells, Value.oneCell'])) S2 ?_
                refine held_done (by kernel_rfl) ?_
                have bA1 := (bA.setRow (vcells X.v)).otherRow (g := D.heap.size) (by omega) (kcells X.k x cx y cy)
                have bB2 := bB1.setRow (kcells X.k x cx y cy)
                have QF := ((QV.set (b := wF.heap.size) zA (by omega) (vcells X.v)).set (b := D.heap.size) zB (by omega) (kcells X.k x cx y cy)).pick zA zB
                have NF := hDD.trans ((NV.setRow (g := wF.heap.size) (fun h => by omega) (vcells X.v)).setRow (g := D.heap.size) (fun h => by omega) (kcells X.k x cx y cy)) fun _ _ h => h
                go_wp2
                go_meet
                have hX := hX.out
                subst hX
                exact ⟨wF.heap.size, D.heap.size, fr, x, cx, y, cy, rfl, rfl, hby, bA1, bB2, ⟨by omega, by omega, by omega⟩, QF, S2, NF⟩
            · have hA : Below vB.heap.size vB (vB.alloc (.cells #[.int .i64 0, .int .i64 0, .int .u64 0, .bool false] 44)) := (Below.refl _ _).alloc (Nat.le_refl _) _
              have bA := Blk.new vB #[.int .i64 0, .int .i64 0, .int .u64 0, .bool false] 44
              have mA : vB.heap.size < (vB.alloc (.cells #[.int .i64 0, .int .i64 0, .int .u64 0, .bool false] 44)).heap.size := by simp
              generalize vB.alloc (.cells #[.int .i64 0, .int .i64 0, .int .u64 0, .bool false] 44) = vA at *
              have bB := bB.below hA bB.lt
              have zL := LV.size
              have zD := LD.size
              have LV := Base.next LV hA
              have LD := Base.next LD hA
              have SV : Fr AA wr vA := Fr.of_below LV
              refine held_call (i := 8) (f := 14) (args := #[.agg (shC s).toArray, .agg #[.pointer (some a), .pointer (some ⟨b, 0, none⟩)]]) rfl (by kernel_rfl) (by kernel_rfl) (by kernel_rfl) ((CF vA LV).mono ?_)
              rintro e wF ⟨p, n, c, fr, rfl, hfn, hnc, hnm, hby, hrow, LF⟩
              have zF := LF.size
              have zL := LV.size
              have zD := LD.size
              have bA := bA.below LF bA.lt
              have bB := bB.below LF bB.lt
              have row := hrow.mono (T := fun k => k < w.heap.size ∨ wr.heap.size ≤ k) fun k _ h => h.imp id fun h => (by omega)
              have LV := Base.next LV LF
              have LD := Base.next LD LF
              have SV : Fr AA wr wF := Fr.of_below LV
              refine ⟨_, rfl, SV, ?_⟩
              refine held_call (i := 10) (f := 18) (args := #[.pointer (some gp), .pointer (some a), .slice p n c, .int .u64 (now + s.wt % 500)]) rfl (by kernel_rfl) (by kernel_rfl) (by kernel_rfl) ((CT wF LV p n c fr hfn hnc hnm hby row).mono ?_)
              rintro e wT ⟨x, cx, y, cy, Yf, rfl, hrw, QV, FT⟩
              have zT' := FT.size
              have zL := LV.size
              have zD := LD.size
              have lA := bA.lt
              have zA : (fun k => wr.heap.size ≤ k ∧ k < wF.heap.size) (vB.heap.size) := ⟨by omega, lA⟩
              have bA := bA.kept FT (fun h => h (.inr ⟨by omega, lA⟩))
              have lB := bB.lt
              have zB : (fun k => wr.heap.size ≤ k ∧ k < wF.heap.size) (D.heap.size) := ⟨by omega, lB⟩
              have bB := bB.kept FT (fun h => h (.inr ⟨by omega, lB⟩))
              have SV := QV.fr
              have NV : Fr (fun k => k < wr.heap.size) D wT := (Fr.of_below LD : Fr (fun k => k < wr.heap.size) D wF).trans FT (fun k hk h => Nat.lt_of_not_le fun h2 => h (.inr ⟨h2, by omega⟩))
              clear CT CF
              generalize hX : takeT g l fr (now + s.wt % 500) = X at *
              have hX := Lib.hid hX
              refine ⟨_, rfl, SV, ?_⟩
              refine held_take (i := 11) (v := .tuple #[.agg (vcells X.v), .agg (kcells X.k x cx y cy)]) rfl (by kernel_rfl) (by kernel_rfl) (by kernel_rfl) (fun _ _ _ h => h) (by kernel_rfl) SV (fun _ hu => by kernel_rfl) ?_
              refine held_take (i := 12) (v := .agg (vcells X.v)) rfl (by kernel_rfl) (by kernel_rfl) (by kernel_rfl) (fun _ _ _ h => h) (by kernel_rfl) SV (fun _ hu => by kernel_rfl) ?_
              refine held_take (i := 13) (v := .agg (kcells X.k x cx y cy)) rfl (by kernel_rfl) (by kernel_rfl) (by kernel_rfl) (fun _ _ _ h => h) (by kernel_rfl) SV (fun _ hu => by kernel_rfl) ?_
              have S1 := SV.setRow (g := vB.heap.size) (fun h => by omega) (vcells X.v)
              refine held_st (i := 16) rfl (by kernel_rfl) (by kernel_rfl) (st_row 44 (.tmp 19) (.tmp 85) rfl (g := vB.heap.size) (cells := vcells X.v) (by kernel_rfl) (by kernel_rfl) bA (by kernel_rfl) rfl (by simp [vcells, Value.oneCell'])) S1 ?_
              have bB1 := bB.otherRow (g := vB.heap.size) (by omega) (vcells X.v)
              have S2 := S1.setRow (g := D.heap.size) (fun h => by omega) (kcells X.k x cx y cy)
              refine held_st (i := 17) rfl (by kernel_rfl) (by kernel_rfl) (st_row 56 (.tmp 20) (.tmp 86) rfl (g := D.heap.size) (cells := kcells X.k x cx y cy) (by kernel_rfl) (by kernel_rfl) bB1 (by kernel_rfl) rfl (by simp [kcells, Value.oneCell'])) S2 ?_
              refine held_done (by kernel_rfl) ?_
              have bA1 := (bA.setRow (vcells X.v)).otherRow (g := D.heap.size) (by omega) (kcells X.k x cx y cy)
              have bB2 := bB1.setRow (kcells X.k x cx y cy)
              have QF := ((QV.set (b := vB.heap.size) zA (by omega) (vcells X.v)).set (b := D.heap.size) zB (by omega) (kcells X.k x cx y cy)).pick zA zB
              have NF := hDD.trans ((NV.setRow (g := vB.heap.size) (fun h => by omega) (vcells X.v)).setRow (g := D.heap.size) (fun h => by omega) (kcells X.k x cx y cy)) fun _ _ h => h
              go_wp2
              go_meet
              have hX := hX.out
              subst hX
              exact ⟨vB.heap.size, D.heap.size, fr, x, cx, y, cy, rfl, rfl, hby, bA1, bB2, ⟨by omega, by omega, by omega⟩, QF, S2, NF⟩
        case rest =>
          obtain ⟨q1, q2, fr, x, cx, y, cy, rfl, rfl, hby, bA, bB, ⟨r1, r2, r3⟩, QF, SF, NF⟩ := hcut
          have hcb2 := cb_take hc Q.ok hby (now := (now + s.wt % 500)) (by omega) (by omega)
          have hlen2 := len_take g l fr (now + s.wt % 500)
          obtain ⟨hH1, hH2, hH3, hH4, hH5⟩ := take_holds (l := l) (fr := fr) (f := a5) (now := (now + s.wt % 500)) hc.ok hev (by omega) (by rw [hn]; exact hw)
          rw [hn] at hH2
          have hAw : ∀ k, wr.heap.size ≤ k → AA k := fun k hk => hA2 k (by omega) (by omega)
          generalize takeT g l fr (now + s.wt % 500) = X at *
          have v3 : wc.cell? ⟨q1, 3, none⟩ = some (.bool X.v.chal) := bA.cell 3
          have vl := bA.lt
          clear bA bB
          generalize hch : X.v.chal = ch at v3 hH2
          clear hch
          cases ch with
          | false =>
            have hv : inW a5 a3 X.g.b.l = n := by rw [hH2]; simp []
            replace hv := Lib.hid hv
            go_wp2
            all_goals go_roundw
            case rel => exact ⟨t + 1, (now + s.wt % 500), X.g, X.l, by omega, by go_num, rfl, by rw [hv.out], by omega, by push_cast; omega, by rw [hH4]; exact hH1, hH3, by rw [hH4]; exact hmost, by rw [hH5]; exact hev, hcb2, by omega, (QF.bare).at_ hAw, hF.trans SF fun _ _ h => h⟩
            case measure => simp only [intOf]; omega
          | true =>
            by_cases t1 : a5 ≤ (now + s.wt % 500)
            · by_cases t2 : (now + s.wt % 500) - a5 < a3
              · have hv : inW a5 a3 X.g.b.l = n + 1 := by rw [hH2]; simp [t1, t2]
                replace hv := Lib.hid hv
                go_wp2
                all_goals go_roundw
                case rel => exact ⟨t + 1, (now + s.wt % 500), X.g, X.l, by omega, by go_num, rfl, by rw [hv.out], by omega, by push_cast; omega, by rw [hH4]; exact hH1, hH3, by rw [hH4]; exact hmost, by rw [hH5]; exact hev, hcb2, by omega, (QF.bare).at_ hAw, hF.trans SF fun _ _ h => h⟩
                case measure => simp only [intOf]; omega
              · have hv : inW a5 a3 X.g.b.l = n := by rw [hH2]; simp [t1, t2]
                replace hv := Lib.hid hv
                go_wp2
                all_goals go_roundw
                case rel => exact ⟨t + 1, (now + s.wt % 500), X.g, X.l, by omega, by go_num, rfl, by rw [hv.out], by omega, by push_cast; omega, by rw [hH4]; exact hH1, hH3, by rw [hH4]; exact hmost, by rw [hH5]; exact hev, hcb2, by omega, (QF.bare).at_ hAw, hF.trans SF fun _ _ h => h⟩
                case measure => simp only [intOf]; omega
            · have hv : inW a5 a3 X.g.b.l = n := by rw [hH2]; simp [t1]
              replace hv := Lib.hid hv
              go_wp2
              all_goals go_roundw
              case rel => exact ⟨t + 1, (now + s.wt % 500), X.g, X.l, by omega, by go_num, rfl, by rw [hv.out], by omega, by push_cast; omega, by rw [hH4]; exact hH1, hH3, by rw [hH4]; exact hmost, by rw [hH5]; exact hev, hcb2, by omega, (QF.bare).at_ hAw, hF.trans SF fun _ _ h => h⟩
              case measure => simp only [intOf]; omega
      · have hlI : ¬ (t : Int) < (z4.length : Int) := by omega
        have hle : inW a5 a3 g.b.l ≤ a2 % 5 := by omega
        generalize inW a5 a3 g.b.l = n at *
        go_wp2
        all_goals go_ret
        all_goals exact ⟨rfl, hL⟩

set_option maxRecDepth 100000 in
theorem lifted (os : Os) (started : os.Started) (H : Type) (enc : TypeId × Value → H) :
    ReturnsInHanded {} Tryz.checked os 7 .any (Rows.guardChallengesSpec.pre6 enc Tryz.prog Tryz.f7 Rows.guardChallengesRow.domain false) (Rows.guardChallengesSpec.post enc Tryz.prog Tryz.f7 false true false false) := by
  refine returnsInHanded_of_change (C := Tryz.checked) own started (by kernel_rfl) Tryz.func7
    (ChangeSpec.witness6 (enc := enc) (C := Tryz.checked) false ⟨#[], #[.int .u8 0, .slice none 0 0, .int .u8 0, .int .u16 0, .slice none 0 0, .int .u32 0], []⟩ 8 (by kernel_rfl) (by kernel_rfl) (by kernel_rfl) (by kernel_rfl)) ?_
  intro W base args ds gs before hval0 hW hcnd _
  have hval : ∀ (j : Nat) t v, Tryz.f7.params[j]? = some t → args[j]? = some v → Value.okWide Tryz.prog W .any base t v := hval0
  have hW' := hW
  obtain ⟨p, q, hA0, hV, rfl, hfz, hnd⟩ := hW
  have hA : DataW.TrodAll enc Tryz.prog W 0 (fun _ => true) true Tryz.f7.params.toList args.toList ds p := hA0
  rw [Tryz.params7] at hA hval
  obtain ⟨v0, vs0, d0, ds0, p0, q0, hargs, rfl, rfl, h0, r0⟩ := trodAll_cons hA
  obtain ⟨v1, vs1, d1, ds1, p1, q1, rfl, rfl, rfl, h1, r1⟩ := trodAll_cons r0
  obtain ⟨v2, vs2, d2, ds2, p2, q2, rfl, rfl, rfl, h2, r2⟩ := trodAll_cons r1
  obtain ⟨v3, vs3, d3, ds3, p3, q3, rfl, rfl, rfl, h3, r3⟩ := trodAll_cons r2
  obtain ⟨v4, vs4, d4, ds4, p4, q4, rfl, rfl, rfl, h4, r4⟩ := trodAll_cons r3
  obtain ⟨v5, vs5, d5, ds5, p5, q5, rfl, rfl, rfl, h5, r5⟩ := trodAll_cons r4
  obtain ⟨rfl, rfl, rfl⟩ := trodAll_nil r5
  obtain rfl : args = #[v0, v1, v2, v3, v4, v5] := by cases args; simp_all
  obtain ⟨rfl, rfl⟩ := trodVars_none hV
  obtain ⟨a0, rfl, rfl, rfl, w0⟩ := open_int Tryz.underlying5 (hval 0 5 v0 rfl rfl) h0
  obtain ⟨a1, len1, cap1, rfl⟩ := okWide_slice Tryz.underlying22 (hval 1 22 v1 rfl rfl)
  have k1 := h1
  have lt1 : ∀ x ∈ p1, x.block < W.heap.size := by obtain ⟨m, hm⟩ := k1; exact DataW.trod_lt m _ _ _ hm
  obtain ⟨z1, w1, n1, m1, o1, f1⟩ : ∃ zs, Deeds W a1 zs ∧ zs.length = len1 ∧ len1 ≤ cap1 ∧ cap1 ≤ maxLen ∧ (∀ d ∈ zs, Fit d) := by
    obtain ⟨fuel, hf⟩ := h1
    rcases open_deeds Tryz.underlying22 Tryz.underlying90 (by kernel_rfl) (by kernel_rfl) Tryz.underlying3 Tryz.underlying23 Tryz.underlying23 hf with ⟨hcs, hx⟩ | ⟨x, l, c, zs, E, S, hcs, hl, hm, hz, hx, hE, hS, hsp, hwz⟩
    · simp [Value.cells] at hcs
      obtain ⟨rfl, rfl, rfl⟩ := hcs
      exact ⟨[], Deeds.nil _ _, rfl, Nat.le_refl _, Nat.zero_le _, fun _ h => by cases h⟩
    · simp [Value.cells] at hcs
      obtain ⟨rfl, rfl, rfl⟩ := hcs
      exact ⟨zs, hsp, hz, hl, hm, hwz⟩
  obtain ⟨a2, rfl, rfl, rfl, w2⟩ := open_int Tryz.underlying5 (hval 2 5 v2 rfl rfl) h2
  obtain ⟨a3, rfl, rfl, rfl, w3⟩ := open_int Tryz.underlying39 (hval 3 39 v3 rfl rfl) h3
  obtain ⟨a4, len4, cap4, rfl⟩ := okWide_slice Tryz.underlying24 (hval 4 24 v4 rfl rfl)
  have k4 := h4
  have lt4 : ∀ x ∈ p4, x.block < W.heap.size := by obtain ⟨m, hm⟩ := k4; exact DataW.trod_lt m _ _ _ hm
  obtain ⟨z4, w4, n4, m4, o4, f4⟩ : ∃ zs, Shots W a4 zs ∧ zs.length = len4 ∧ len4 ≤ cap4 ∧ cap4 ≤ maxLen ∧ (∀ d ∈ zs, ShFit W d) := by
    obtain ⟨fuel, hf⟩ := h4
    rcases open_shots Tryz.underlying24 Tryz.underlying42 (by kernel_rfl) (by kernel_rfl) Tryz.underlying3 Tryz.underlying38 Tryz.underlying5 (by kernel_rfl) Tryz.underlying40 Tryz.underlying39 (by kernel_rfl) Tryz.underlying23 Tryz.underlying4 Tryz.underlying39 hf with ⟨hcs, hx⟩ | ⟨x, l, c, zs, hcs, hl, hm, hz, hsp, hwz⟩
    · simp [Value.cells] at hcs
      obtain ⟨rfl, rfl, rfl⟩ := hcs
      exact ⟨[], Shots.nil _ _, rfl, Nat.le_refl _, Nat.zero_le _, fun _ h => by cases h⟩
    · simp [Value.cells] at hcs
      obtain ⟨rfl, rfl, rfl⟩ := hcs
      exact ⟨zs, hsp, hz, hl, hm, hwz⟩
  obtain ⟨a5, rfl, rfl, rfl, w5⟩ := open_int Tryz.underlying80 (hval 5 80 v5 rfl rfl) h5
  clear hA0 hval0
  refine (walk a0 a1 len1 cap1 z1 a2 a3 a4 len4 cap4 z4 a5 W w0 w1 n1 m1 o1 f1 w2 w3 w4 n4 m4 o4 f4 w5).mono fun e W' ⟨he, bel⟩ => ?_
  subst he
  exact ⟨_, rfl, _, _, _, [], _, [], hW', trodAll_mk1 (shut_bool Tryz.underlying4 _), (trodAll_cons_mk (shut_int Tryz.underlying5 w0) (trodAll_cons_mk (Below.trod laidOut (by kernel_rfl) (of_decide_eq_true (by kernel_rfl)) k1 bel lt1) (trodAll_cons_mk (shut_int Tryz.underlying5 w2) (trodAll_cons_mk (shut_int Tryz.underlying39 w3) (trodAll_cons_mk (Below.trod laidOut (by kernel_rfl) (of_decide_eq_true (by kernel_rfl)) k4 bel lt4) (trodAll_cons_mk (shut_int Tryz.underlying80 w5) trodAll_mk0)))))), rfl, bel.frame _, fun h => by cases h⟩

theorem over : Rows.guardChallengesRow.holds Tryz.pinned (OpenSpec.ofChange Rows.guardChallengesSpec) :=
  OpenClaim.holds_of_wide 7 Tryz.f7 rfl rfl rfl rfl rfl rfl rfl ⟨rfl, rfl, rfl, rfl, rfl⟩ rfl rfl rfl rfl rfl (by kernel_rfl) Tryz.func7 (by kernel_rfl)
    (of_decide_eq_true (by kernel_rfl)) (by unfold Func.isWrapper; first | (rw [if_pos (by decide +kernel)]; kernel_rfl) | (rw [if_neg (by decide +kernel)]; exact ⟨rfl, rfl⟩))
    (fun os started H enc _ => lifted os started H enc)

/-- The given statement. -/
theorem proved : Rows.GuardChallengesSaid :=
  over
#print axioms proved
end Go.Proofs.YtkiloaebokkjbaaGreat.guardChallenges
