/-
  Behind any frames, the program's guard says, counts and shows what the document says. No conditions.
-/
import Derived.Test.YtkiloaebokkjbaaGreatM1
import Derived.Test.YtkiloaebokkjbaaGreatRows
import Derived.Test.YtkiloaebokkjbaaGreatRow
import Derived.WalkKit
import Derived.ProofKit
import Derived.OpenShut
import Derived.ShutString
import Derived.ChangeOld
import Derived.Below
import Derived.Test.YtkiloaebokkjbaaGreatGuardStep
namespace Go.Proofs.YtkiloaebokkjbaaGreat.guardTells
open Go.ChangeShapes Go.WideShapes Go.ChangeAt Go.RowKit
open Go.ChangeMaps (open_string shut_string)
open Go.Proofs.YtkiloaebokkjbaaGreat.Base
set_option linter.unusedVariables false
set_option linter.unusedSimpArgs false

theorem own : ownKnob Tryz.prog.godebug = none := by kernel_rfl
theorem laidOut : laidOutB Tryz.prog = true := by kernel_rfl

open Go.Proofs.YtkiloaebokkjbaaGreat.Led Go.Proofs.YtkiloaebokkjbaaGreat.LedPlain Go.Proofs.YtkiloaebokkjbaaGreat.GuardPlain Go.Proofs.YtkiloaebokkjbaaGreat.Guard
set_option maxHeartbeats 4000000 in
theorem walk (a0 : Int) (a1 : Option Addr) (len1 cap1 : Nat) (z1 : List Dd) (a2 : Int) (a3 : Int) (a4 : Option Addr) (len4 cap4 : Nat) (z4 : List Sh) (w : World) (w0 : (Lit.int .u8 a0).wf = true) (w1 : Deeds w a1 z1) (n1 : z1.length = len1) (m1 : len1 ≤ cap1) (o1 : cap1 ≤ maxLen) (f1 : ∀ d ∈ z1, Fit d) (w2 : (Lit.int .i64 a2).wf = true) (w3 : (Lit.int .u64 a3).wf = true) (w4 : Shots w a4 z4) (n4 : z4.length = len4) (m4 : len4 ≤ cap4) (o4 : cap4 ≤ maxLen) (f4 : ∀ d ∈ z4, ShFit w d) :
    Calls Tryz.prog 3 #[.int .u8 a0, .slice a1 len1 cap1, .int .i64 a2, .int .u64 a3, .slice a4 len4 cap4] w fun e w' => e = .returned (.bool true) ∧ Below w.heap.size w w' := by
  obtain ⟨p0, p1⟩ := Base.u8_of w0
  obtain ⟨i0, i1⟩ := Base.i64_of w2
  obtain ⟨e0, e1⟩ := Base.u64_of w3
  subst n1
  subst n4
  unfold maxLen at o4
  have hB := Below.refl w.heap.size w
  have CM := make_any (a0 % 40) 4611686018427387903 (by omega) (by omega) (by decide) (by decide) a1 z1.length cap1 z1 w rfl m1 o1 f1 w1
  have hgl := made_len (a0 % 40) 4611686018427387903 z1
  generalize madeG (a0 % 40) 4611686018427387903 z1 = g0 at *
  have CG := fun V => Guard.new_any a2 a3 i0 i1 e0 e1 V
  have CR := fun V => ref_newguard a2 a3 e0 e1 V
  have CA := fun V => alive_guard V
  have hcb := cb_new a2 a3 e0 e1
  generalize newD a2 a3 = d0 at *
  go_enter Tryz.func3, Tryz.ntmps3
  go_upto_region 2 with (go_at_call 9; refine CM.mono ?_; rintro e u1 ⟨a, b, S, rfl, P1, hS, L1⟩)
  refine at_world ?_
  intro U2 hU
  obtain ⟨T2, P2, M2, q2⟩ : Blk U2 u1.heap.size #[.pointer (some a), .pointer (some ⟨b, 0, none⟩)] 28 ∧ Pair S U2 a b g0 ∧ Below w.heap.size w U2 ∧ U2.heap.size = u1.heap.size + 1 := by
    subst hU
    exact ⟨Blk.new _ _ _, P1.below ((Below.refl _ _).alloc (Nat.le_refl _) _), L1.alloc L1.size _, by simp⟩
  have hSl : ∀ k, S k → w.heap.size ≤ k ∧ k < u1.heap.size := fun k hk => ⟨hS k hk, P1.lt k hk⟩
  have s1 := L1.size
  clear hU P1 L1 hS CM
  go_upto_region 3 with (first
    | (go_at_call 10; refine (CG U2).mono ?_; rintro e u3 ⟨gp, rfl, G3, L3⟩)
    | (go_at_call 11; refine (CR u3).mono ?_; rintro e u4 ⟨gr, rfl, R4, L4⟩))
  refine at_world ?_
  intro U hU
  have s3 := L3.size
  have s4 := L4.size
  obtain ⟨B5, T5, Q5, M5⟩ : Blk U u4.heap.size #[.pointer (some gp), .pointer (some ⟨gr, 0, none⟩)] 36 ∧ Blk U u1.heap.size #[.pointer (some a), .pointer (some ⟨b, 0, none⟩)] 28 ∧
      Quar (fun k => w.heap.size ≤ k ∧ k ≠ u1.heap.size ∧ k ≠ u4.heap.size) (fun _ => False) (fun _ => False) U U a b gp gr g0 g0 d0 d0 ∧ Below w.heap.size w U := by
    subst hU
    have hb : Below u4.heap.size u4 (u4.alloc (.cells #[.pointer (some gp), .pointer (some ⟨gr, 0, none⟩)] 36)) := (Below.refl _ _).alloc (Nat.le_refl _) _
    have h3 := Base.next L3 L4
    refine ⟨Blk.new _ _ _, ((T2.below L3 T2.lt).below L4 (by have := T2.lt; omega)).alloc _, Quar.make ((P2.below h3).below hb) ((G3.below L4).below hb) (R4.below hb) (fun k hk => ?_) (fun k hk => ?_) (fun k hk => ?_) (fun k hk h => ?_) (fun k hk h => ?_) fun k hk h => ?_, Base.next (Base.next M2 h3) hb⟩
    · have := hSl k hk
      omega
    · have := hb.size
      omega
    · have := hb.size
      omega
    · have := hSl k h
      omega
    · have := hSl k h
      omega
    · omega
  clear hU G3 R4 L3 L4 CG CR P2 M2 T2
  have n41 : u1.heap.size < u4.heap.size := by omega
  have hw1 : w.heap.size ≤ u1.heap.size := s1
  clear s1 s3 s4 q2 hSl hB
  generalize u1.heap.size = tb at *
  generalize u4.heap.size = gb at *
  have hA1 : ∀ k, (fun k => w.heap.size ≤ k ∧ k ≠ tb ∧ k ≠ gb) k → w.heap.size ≤ k ∧ k ≠ tb ∧ k ≠ gb := fun k h => h
  have hA2 : ∀ k, w.heap.size ≤ k → k ≠ tb → k ≠ gb → (fun k => w.heap.size ≤ k ∧ k ≠ tb ∧ k ≠ gb) k := fun k h1 h2 h3 => ⟨h1, h2, h3⟩
  have hA0 : ∀ k, (fun k => w.heap.size ≤ k ∧ k ≠ tb ∧ k ≠ gb) k → w.heap.size ≤ k := fun k h => h.1
  generalize (fun k => w.heap.size ≤ k ∧ k ≠ tb ∧ k ≠ gb) = AA at *
  have hbU := B5.lt
  have c0 : U.cell? ⟨gb, 0, none⟩ = some (.pointer (some gp)) := B5.cell 0
  have k0 := fun V (hV : Below U.heap.size U V) => show V.cell? ⟨gb, 0, none⟩ = some (.pointer (some gp)) from (B5.below hV B5.lt).cell 0
  by_cases h30 : 30 < z4.length
  · have h30I : (30 : Int) < (z4.length : Int) := by omega
    go_wp2_with (first
      | (go_at_call 12; (with_reducible refine (CA U).mono ?_); rintro e u5 ⟨rfl, L5⟩; have M6 := Base.next M5 L5; have c1 := k0 _ L5)
      | (go_at_call 12; (with_reducible refine (CA u5).mono ?_); rintro e u6 ⟨rfl, L6⟩; have M7 := Base.next M6 L6; have c2 := keepCell L6 c1))
    all_goals go_ret
    all_goals exact ⟨rfl, M7⟩
  · have h30I : (z4.length : Int) ≤ 30 := by omega
    go_wp2_with (go_at_call 12; refine (CA U).mono ?_; rintro e X ⟨rfl, L5⟩; have M6 := Base.next M5 L5; have c1 := k0 _ L5)
    have Q6 := (Q5.next L5).at_ fun k hk => hA2 k (by have := M5.size; omega) (by omega) (by omega)
    have hF6 : Fr AA U X := Fr.of_below L5
    have hwU := M5.size
    clear Q5 k0 c0 c1 CA
    go_loopw [14, 15, 16, 17] (fun nw i pp ok wr => ∃ (t : Nat) (now : Int) (g' : Gd) (l' : Lg), t ≤ z4.length ∧ i = .int .i64 t ∧ nw = .int .u64 now ∧ 0 ≤ now ∧ now ≤ 65535 * t ∧ Cb g' t ∧ l'.l.length = g0.l.length ∧ Quar AA (fun _ => False) (fun _ => False) wr wr a b gp gr l' l' g' g' ∧ Fr AA U wr) (fun _ i _ _ _ => z4.length - (intOf i).toNat)
    case atStart => exact ⟨0, 0, d0, g0, Nat.zero_le _, rfl, rfl, Int.le_refl _, by omega, hcb, rfl, Q6, hF6⟩
    case round =>
      obtain ⟨t, now, g, l, ht, rfl, rfl, h0, h1, hc, hl, Q, hF⟩ := hrel
      have hL : Below w.heap.size w wr := M5.trans (hF.toBelow' (B := w.heap.size) M5.size fun k _ hk => (hA1 k hk).1)
      have T7 := T5.kept hF (fun h => (hA1 _ h).2.1 rfl)
      have B7 := B5.kept hF (fun h => (hA1 _ h).2.2 rfl)
      have hUw := hF.size
      clear Q6 M6 hF6 L5
      by_cases hlt : t < z4.length
      · have hlI : (t : Int) < (z4.length : Int) := by omega
        obtain ⟨bz, off, rfl, hbz, ds⟩ := w4.at_ hlt
        have hFit := f4 (z4.getD t sh0) (by simp [List.getD, hlt])
        generalize z4.getD t sh0 = s at *
        have k0 := hFit.w0
        have k1 := hFit.w1
        replace ds : ∀ j x, (shC s)[j]? = some x → wr.cell? ⟨bz, off + t * 9 + j, none⟩ = some x := fun j x hj => by
          rw [hL.cell (p := ⟨bz, off + t * 9 + j, none⟩) hbz]
          exact ds j x hj
        have d8 : wr.cell? ⟨bz, off + t * 9 + 8, none⟩ = some (.int .u16 s.wt) := ds 8 _ rfl
        have hbw : bz < wr.heap.size := Nat.lt_of_lt_of_le hbz hL.size
        go_upto_region 10 with fail
        have hD : Below wr.heap.size wr wr.drew := Base.drew1 (Below.refl _ _)
        have hLD : Below w.heap.size w wr.drew := Base.next hL hD
        have hAD : ∀ k, wr.drew.heap.size ≤ k → AA k := fun k hk => hA2 k (by have := hUw; have := hD.size; omega) (by have := hUw; have := hD.size; omega) (by have := hUw; have := hD.size; omega)
        have QD : Quar AA (fun _ => False) (fun _ => False) wr.drew wr.drew a b gp gr l l g g := (Q.drew).at_ fun k hk => hA2 k (by omega) (by omega) (by omega)
        have hFD : Fr AA U wr.drew := hF.trans (T := fun _ => False) (Fr.of_below hD) fun _ _ h => h.elim
        have S0 : Fr AA wr.drew wr.drew := Fr.refl _ _
        have BD := B7.below hD B7.lt
        have TD := T7.below hD T7.lt
        have hwD : w.heap.size ≤ wr.drew.heap.size := hLD.size
        have dsD : ∀ j x, (shC s)[j]? = some x → wr.drew.cell? ⟨bz, off + t * 9 + j, none⟩ = some x := fun j x hj => ds j x hj
        have hok : Ok l := Q.ok
        have hBk : ∀ k, k < w.heap.size → k < wr.drew.heap.size ∧ ¬ AA k := fun k hk => ⟨by omega, fun h => by have := hA0 _ h; omega⟩
        have hnow0 : 0 ≤ (now + s.wt) := by omega
        have hnow1 : (now + s.wt) ≤ 18446744073709551615 := by omega
        have CF := fun V (Q : Quar AA (fun _ => False) (fun _ => False) wr.drew V a b gp gr l l g g) (hb : Below w.heap.size w V) => quar_frame Q (by omega) hb hFit
        have CT := fun V (hV : Below wr.drew.heap.size wr.drew V) p n c fr hfn hnc hnm hby (hrow : RowIn (fun k => k < w.heap.size ∨ wr.drew.heap.size ≤ k) V p (fr.map (.int .u8))) => take_both (QD.with_ hV (fun k => k < w.heap.size) hBk) hc (by omega) (by omega) p n c fr hfn hnc hnm hby (hrow.mono fun k hk h => h.imp id fun h => ⟨h, hk⟩) (now + s.wt) hnow0 hnow1
        have zB := fun V (hV : Fr AA wr.drew V) => show V.rangeAt gb 0 [.pointer (some gp), .pointer (some ⟨gr, 0, none⟩)] from Blk.range (BD.kept hV (fun h => (hA1 _ h).2.2 rfl)) (fun j u hj => by rw [Nat.zero_add]; rcases j with _ | _ | j <;> first | exact hj | simp at hj)
        have zT := fun V (hV : Fr AA wr.drew V) => show V.rangeAt tb 0 [.pointer (some a), .pointer (some ⟨b, 0, none⟩)] from Blk.range (TD.kept hV (fun h => (hA1 _ h).2.1 rfl)) (fun j u hj => by rw [Nat.zero_add]; rcases j with _ | _ | j <;> first | exact hj | simp at hj)
        have zS := fun V (hV : Fr AA wr.drew V) => show V.rangeAt bz (off + t * 9) (shC s) from fun j x hj => by
          rw [hV.cell (p := ⟨bz, off + t * 9 + j, none⟩) (Nat.lt_of_lt_of_le hbz hwD) (fun h => absurd (show w.heap.size ≤ bz from hA0 _ h) (by omega))]
          exact dsD j x hj
        refine held_start (fun v => Fr AA wr.drew v) (by kernel_rfl) ?_
        generalize wr.drew = D at *
        refine held_take (i := 0) (v := .agg #[.pointer (some gp), .pointer (some ⟨gr, 0, none⟩)]) rfl (by kernel_rfl) (by kernel_rfl) (by kernel_rfl) (fun _ _ _ h => h) (by kernel_rfl) S0 (fun _ hu => by exact lb_mid 36 (.tmp 13) rfl (by kernel_rfl) (zB _ hu) Tryz.underlying36 rfl (by kernel_rfl)) ?_
        refine held_take (i := 1) (v := .agg #[.pointer (some a), .pointer (some ⟨b, 0, none⟩)]) rfl (by kernel_rfl) (by kernel_rfl) (by kernel_rfl) (fun _ _ _ h => h) (by kernel_rfl) S0 (fun _ hu => by exact lb_mid 28 (.tmp 11) rfl (by kernel_rfl) (zT _ hu) Tryz.underlying28 rfl (by kernel_rfl)) ?_
        refine held_take (i := 2) (v := .slice (some ⟨bz, off, none⟩) z4.length cap4) rfl (by kernel_rfl) (by kernel_rfl) (by kernel_rfl) (fun _ _ _ h => h) (by kernel_rfl) S0 (fun _ hu => by kernel_rfl) ?_
        refine held_take (i := 3) (v := .int .i64 t) rfl (by kernel_rfl) (by kernel_rfl) (by kernel_rfl) (fun _ _ _ h => h) (by kernel_rfl) S0 (fun _ hu => by kernel_rfl) ?_
        refine held_take (i := 4) (v := .pointer (some ⟨bz, off + t * 9, none⟩)) rfl (by kernel_rfl) (by kernel_rfl) (by kernel_rfl) (fun _ _ _ h => h) (by kernel_rfl) S0 (fun _ hu => by exact ix_shots (.tmp 75) (.tmp 76) (n := z4.length) (cap := cap4) rfl (by kernel_rfl) (by kernel_rfl) hlt) ?_
        refine held_take (i := 5) (v := .agg (shC s).toArray) rfl (by kernel_rfl) (by kernel_rfl) (by kernel_rfl) (fun _ _ _ h => h) (by kernel_rfl) S0 (fun _ hu => by exact lb_mid 42 (.tmp 77) rfl (by kernel_rfl) (zS _ hu) Tryz.underlying42 rfl (by kernel_rfl)) ?_
        refine held_take (i := 6) (v := .agg #[.pointer (some a), .pointer (some ⟨b, 0, none⟩)]) rfl (by kernel_rfl) (by kernel_rfl) (by kernel_rfl) (fun _ _ _ h => h) (by kernel_rfl) S0 (fun _ hu => by exact lb_mid 28 (.tmp 11) rfl (by kernel_rfl) (zT _ hu) Tryz.underlying28 rfl (by kernel_rfl)) ?_
        refine held_take (i := 8) (v := .int .u64 (now + s.wt)) rfl (by kernel_rfl) (by kernel_rfl) (by kernel_rfl) (fun _ _ _ h => h) (by kernel_rfl) S0 (fun _ hu => by kernel_rfl) ?_
        refine held_two (i := 7) (j := 13) (by kernel_rfl) (op_call (i := 7) (f := 14) (args := #[.agg (shC s).toArray, .agg #[.pointer (some a), .pointer (some ⟨b, 0, none⟩)]]) rfl (by kernel_rfl) (by kernel_rfl) ((CF D QD hLD).mono ?_)) (op_value (i := 13) (v := .pointer (some ⟨D.heap.size, 0, none⟩)) (w' := D.alloc (.cells #[.int .i64 0, .int .i64 0, .int .u64 0, .bool false] 44)) rfl (by kernel_rfl) (by kernel_rfl) ⟨S0.alloc _, ?_⟩)
        · rintro e w5 ⟨p, n, c, fr, rfl, hfn, hnc, hnm, hby, hrow, L5⟩
          have S5 : Fr AA D w5 := S0.trans (T := fun _ => False) (Fr.of_below L5) (fun _ _ h => h.elim)
          have hcb2 := cb_take hc hok hby hnow0 hnow1
          have hlen2 := len_take g l fr (now + s.wt)
          refine ⟨_, rfl, S5, ?_⟩
          refine held_two (i := 9) (j := 13) (by kernel_rfl) (op_call (i := 9) (f := 13) (args := #[.agg #[.pointer (some gp), .pointer (some ⟨gr, 0, none⟩)], .agg #[.pointer (some a), .pointer (some ⟨b, 0, none⟩)], .slice p n c, .int .u64 (now + s.wt)]) rfl (by kernel_rfl) (by kernel_rfl) ((CT w5 L5 p n c fr hfn hnc hnm hby hrow).mono ?_)) (op_value (i := 13) (v := .pointer (some ⟨w5.heap.size, 0, none⟩)) (w' := w5.alloc (.cells #[.int .i64 0, .int .i64 0, .int .u64 0, .bool false] 44)) rfl (by kernel_rfl) (by kernel_rfl) ⟨S5.alloc _, ?_⟩)
          · rintro e w6 ⟨rfl, Q6, F6⟩
            have S6 := Q6.fr
            clear CT CF
            generalize takeT g l fr (now + s.wt) = X at *
            refine ⟨_, rfl, S6, ?_⟩
            refine held_take (i := 10) (v := .tuple #[.agg (vcells X.v), .bool true]) rfl (by kernel_rfl) (by kernel_rfl) (by kernel_rfl) (fun _ _ _ h => h) (by kernel_rfl) S6 (fun _ hu => by kernel_rfl) ?_
            refine held_take (i := 11) (v := .agg (vcells X.v)) rfl (by kernel_rfl) (by kernel_rfl) (by kernel_rfl) (fun _ _ _ h => h) (by kernel_rfl) S6 (fun _ hu => by kernel_rfl) ?_
            refine held_take (i := 12) (v := .bool true) rfl (by kernel_rfl) (by kernel_rfl) (by kernel_rfl) (fun _ _ _ h => h) (by kernel_rfl) S6 (fun _ hu => by kernel_rfl) ?_
            refine held_one (i := 13) (v := .pointer (some ⟨w6.heap.size, 0, none⟩)) (w' := w6.alloc (.cells #[.int .i64 0, .int .i64 0, .int .u64 0, .bool false] 44)) rfl (by kernel_rfl) (by kernel_rfl) (by kernel_rfl) (S6.alloc _) ?_
            have h7 : Below w6.heap.size w6 (w6.alloc (.cells #[.int .i64 0, .int .i64 0, .int .u64 0, .bool false] 44)) := (Below.refl _ _).alloc (Nat.le_refl _) _
            have b7 := Blk.new w6 #[.int .i64 0, .int .i64 0, .int .u64 0, .bool false] 44
            have S7 := S6.alloc (.cells #[.int .i64 0, .int .i64 0, .int .u64 0, .bool false] 44)
            have Q7 := Q6.more h7
            have z6 := S6.size
            have n7 := b7.lt
            have SF := S7.setRow (g := w6.heap.size) (fun h => by omega) (vcells X.v)
            refine held_st (i := 14) rfl (by kernel_rfl) (by kernel_rfl) (st_row 44 (.tmp 16) (.tmp 83) rfl (g := w6.heap.size) (cells := vcells X.v) (by kernel_rfl) (by kernel_rfl) b7 (by kernel_rfl) rfl (by simp [vcells, Value.oneCell'])) SF ?_
            refine held_take (i := 15) (v := .bool true) rfl (by kernel_rfl) (by kernel_rfl) (by kernel_rfl) (fun _ _ _ h => h) (by kernel_rfl) SF (fun _ hu => by kernel_rfl) ?_
            refine held_done (by kernel_rfl) ?_
            have QF := ((Q7).set (b := w6.heap.size) (.inr ⟨Nat.le_refl _, n7⟩) (by omega) (vcells X.v)).bare
            go_wp2
            all_goals go_roundw
            case rel => exact ⟨t + 1, now + s.wt, X.g, X.l, by omega, by go_num, rfl, by omega, by push_cast; omega, hcb2, by omega, QF.at_ hAD, hFD.trans QF.fr fun _ _ h => h⟩
            case measure => simp only [intOf]; omega
          · have h6 : Below w5.heap.size w5 (w5.alloc (.cells #[.int .i64 0, .int .i64 0, .int .u64 0, .bool false] 44)) := (Below.refl _ _).alloc (Nat.le_refl _) _
            have b6 := Blk.new w5 #[.int .i64 0, .int .i64 0, .int .u64 0, .bool false] 44
            have z5 := L5.size
            have n6 := b6.lt
            have S6 := S5.alloc (.cells #[.int .i64 0, .int .i64 0, .int .u64 0, .bool false] 44)
            have row6 := hrow.kept (T := fun _ => False) (Fr.of_below h6) (fun _ _ h => h)
            have C6 := CT _ (Base.next L5 h6) p n c fr hfn hnc hnm hby row6
            generalize w5.alloc (.cells #[.int .i64 0, .int .i64 0, .int .u64 0, .bool false] 44) = v6 at *
            refine held_call (i := 9) (f := 13) (args := #[.agg #[.pointer (some gp), .pointer (some ⟨gr, 0, none⟩)], .agg #[.pointer (some a), .pointer (some ⟨b, 0, none⟩)], .slice p n c, .int .u64 (now + s.wt)]) rfl (by kernel_rfl) (by kernel_rfl) (by kernel_rfl) (C6.mono ?_)
            rintro e w7 ⟨rfl, Q7, F7⟩
            have S7 := Q7.fr
            have b7 := b6.kept F7 (fun h => h (.inr ⟨z5, n6⟩))
            clear CT CF C6
            generalize takeT g l fr (now + s.wt) = X at *
            refine ⟨_, rfl, S7, ?_⟩
            refine held_take (i := 10) (v := .tuple #[.agg (vcells X.v), .bool true]) rfl (by kernel_rfl) (by kernel_rfl) (by kernel_rfl) (fun _ _ _ h => h) (by kernel_rfl) S7 (fun _ hu => by kernel_rfl) ?_
            refine held_take (i := 11) (v := .agg (vcells X.v)) rfl (by kernel_rfl) (by kernel_rfl) (by kernel_rfl) (fun _ _ _ h => h) (by kernel_rfl) S7 (fun _ hu => by kernel_rfl) ?_
            refine held_take (i := 12) (v := .bool true) rfl (by kernel_rfl) (by kernel_rfl) (by kernel_rfl) (fun _ _ _ h => h) (by kernel_rfl) S7 (fun _ hu => by kernel_rfl) ?_
            have SF := S7.setRow (g := w5.heap.size) (fun h => by omega) (vcells X.v)
            refine held_st (i := 14) rfl (by kernel_rfl) (by kernel_rfl) (st_row 44 (.tmp 16) (.tmp 83) rfl (g := w5.heap.size) (cells := vcells X.v) (by kernel_rfl) (by kernel_rfl) b7 (by kernel_rfl) rfl (by simp [vcells, Value.oneCell'])) SF ?_
            refine held_take (i := 15) (v := .bool true) rfl (by kernel_rfl) (by kernel_rfl) (by kernel_rfl) (fun _ _ _ h => h) (by kernel_rfl) SF (fun _ hu => by kernel_rfl) ?_
            refine held_done (by kernel_rfl) ?_
            have QF := ((Q7).set (b := w5.heap.size) ⟨z5, n6⟩ (by omega) (vcells X.v)).bare
            go_wp2
            all_goals go_roundw
            case rel => exact ⟨t + 1, now + s.wt, X.g, X.l, by omega, by go_num, rfl, by omega, by push_cast; omega, hcb2, by omega, QF.at_ hAD, hFD.trans QF.fr fun _ _ h => h⟩
            case measure => simp only [intOf]; omega
        · have h5 : Below D.heap.size D (D.alloc (.cells #[.int .i64 0, .int .i64 0, .int .u64 0, .bool false] 44)) := (Below.refl _ _).alloc (Nat.le_refl _) _
          have b5 := Blk.new D #[.int .i64 0, .int .i64 0, .int .u64 0, .bool false] 44
          have n5 := b5.lt
          have S5 := S0.alloc (.cells #[.int .i64 0, .int .i64 0, .int .u64 0, .bool false] 44)
          have C5 := CF _ (QD.next h5) (Base.next hLD h5)
          generalize D.alloc (.cells #[.int .i64 0, .int .i64 0, .int .u64 0, .bool false] 44) = v5 at *
          refine held_call (i := 7) (f := 14) (args := #[.agg (shC s).toArray, .agg #[.pointer (some a), .pointer (some ⟨b, 0, none⟩)]]) rfl (by kernel_rfl) (by kernel_rfl) (by kernel_rfl) (C5.mono ?_)
          rintro e w6 ⟨p, n, c, fr, rfl, hfn, hnc, hnm, hby, hrow, L6⟩
          have hcb2 := cb_take hc hok hby hnow0 hnow1
          have hlen2 := len_take g l fr (now + s.wt)
          have z5 := h5.size
          have z6 := L6.size
          have b6 := b5.below L6 n5
          have L6' := Base.next h5 L6
          have S6 : Fr AA D w6 := Fr.of_below L6'
          have C6 := CT _ L6' p n c fr hfn hnc hnm hby (hrow.mono fun k _ h => h.imp id fun h => by omega)
          refine ⟨_, rfl, S6, ?_⟩
          refine held_call (i := 9) (f := 13) (args := #[.agg #[.pointer (some gp), .pointer (some ⟨gr, 0, none⟩)], .agg #[.pointer (some a), .pointer (some ⟨b, 0, none⟩)], .slice p n c, .int .u64 (now + s.wt)]) rfl (by kernel_rfl) (by kernel_rfl) (by kernel_rfl) (C6.mono ?_)
          rintro e w7 ⟨rfl, Q7, F7⟩
          have S7 := Q7.fr
          have b7 := b6.kept F7 (fun h => h (.inr ⟨Nat.le_refl _, by omega⟩))
          clear CT CF C6 C5
          generalize takeT g l fr (now + s.wt) = X at *
          refine ⟨_, rfl, S7, ?_⟩
          refine held_take (i := 10) (v := .tuple #[.agg (vcells X.v), .bool true]) rfl (by kernel_rfl) (by kernel_rfl) (by kernel_rfl) (fun _ _ _ h => h) (by kernel_rfl) S7 (fun _ hu => by kernel_rfl) ?_
          refine held_take (i := 11) (v := .agg (vcells X.v)) rfl (by kernel_rfl) (by kernel_rfl) (by kernel_rfl) (fun _ _ _ h => h) (by kernel_rfl) S7 (fun _ hu => by kernel_rfl) ?_
          refine held_take (i := 12) (v := .bool true) rfl (by kernel_rfl) (by kernel_rfl) (by kernel_rfl) (fun _ _ _ h => h) (by kernel_rfl) S7 (fun _ hu => by kernel_rfl) ?_
          have SF := S7.setRow (g := D.heap.size) (fun h => by omega) (vcells X.v)
          refine held_st (i := 14) rfl (by kernel_rfl) (by kernel_rfl) (st_row 44 (.tmp 16) (.tmp 83) rfl (g := D.heap.size) (cells := vcells X.v) (by kernel_rfl) (by kernel_rfl) b7 (by kernel_rfl) rfl (by simp [vcells, Value.oneCell'])) SF ?_
          refine held_take (i := 15) (v := .bool true) rfl (by kernel_rfl) (by kernel_rfl) (by kernel_rfl) (fun _ _ _ h => h) (by kernel_rfl) SF (fun _ hu => by kernel_rfl) ?_
          refine held_done (by kernel_rfl) ?_
          have QF := ((Q7).set (b := D.heap.size) ⟨Nat.le_refl _, by omega⟩ (by omega) (vcells X.v)).bare
          go_wp2
          all_goals go_roundw
          case rel => exact ⟨t + 1, now + s.wt, X.g, X.l, by omega, by go_num, rfl, by omega, by push_cast; omega, hcb2, by omega, QF.at_ hAD, hFD.trans QF.fr fun _ _ h => h⟩
          case measure => simp only [intOf]; omega
      · have hlI : ¬ (t : Int) < (z4.length : Int) := by omega
        have c0 : wr.cell? ⟨gb, 0, none⟩ = some (.pointer (some gp)) := B7.cell 0
        have c1 : wr.cell? ⟨gb, 1, none⟩ = some (.pointer (some ⟨gr, 0, none⟩)) := B7.cell 1
        have hbl := B7.lt
        have CS := same_any Q hc (by omega)
        go_wp2_with (go_at_call 15; refine CS.mono ?_; rintro e u9 ⟨rfl, L9⟩; have M9 := Base.next hL L9)
        all_goals go_ret
        all_goals exact ⟨rfl, M9⟩

set_option maxRecDepth 100000 in
theorem lifted (os : Os) (started : os.Started) (H : Type) (enc : TypeId × Value → H) :
    ReturnsInHanded {} Tryz.checked os 3 .any (Rows.guardTellsSpec.pre6 enc Tryz.prog Tryz.f3 Rows.guardTellsRow.domain false) (Rows.guardTellsSpec.post enc Tryz.prog Tryz.f3 false true false false) := by
  refine returnsInHanded_of_change (C := Tryz.checked) own started (by kernel_rfl) Tryz.func3
    (ChangeSpec.witness6 (enc := enc) (C := Tryz.checked) false ⟨#[], #[.int .u8 0, .slice none 0 0, .int .i64 0, .int .u64 0, .slice none 0 0], []⟩ 8 (by kernel_rfl) (by kernel_rfl) (by kernel_rfl) (by kernel_rfl)) ?_
  intro W base args ds gs before hval0 hW hcnd _
  have hval : ∀ (j : Nat) t v, Tryz.f3.params[j]? = some t → args[j]? = some v → Value.okWide Tryz.prog W .any base t v := hval0
  have hW' := hW
  obtain ⟨p, q, hA0, hV, rfl, hfz, hnd⟩ := hW
  have hA : DataW.TrodAll enc Tryz.prog W 0 (fun _ => true) true Tryz.f3.params.toList args.toList ds p := hA0
  rw [Tryz.params3] at hA hval
  obtain ⟨v0, vs0, d0, ds0, p0, q0, hargs, rfl, rfl, h0, r0⟩ := trodAll_cons hA
  obtain ⟨v1, vs1, d1, ds1, p1, q1, rfl, rfl, rfl, h1, r1⟩ := trodAll_cons r0
  obtain ⟨v2, vs2, d2, ds2, p2, q2, rfl, rfl, rfl, h2, r2⟩ := trodAll_cons r1
  obtain ⟨v3, vs3, d3, ds3, p3, q3, rfl, rfl, rfl, h3, r3⟩ := trodAll_cons r2
  obtain ⟨v4, vs4, d4, ds4, p4, q4, rfl, rfl, rfl, h4, r4⟩ := trodAll_cons r3
  obtain ⟨rfl, rfl, rfl⟩ := trodAll_nil r4
  obtain rfl : args = #[v0, v1, v2, v3, v4] := by cases args; simp_all
  obtain ⟨rfl, rfl⟩ := trodVars_none hV
  obtain ⟨a0, rfl, rfl, rfl, w0⟩ := open_int Tryz.underlying5 (hval 0 5 v0 rfl rfl) h0
  obtain ⟨a1, len1, cap1, rfl⟩ := okWide_slice Tryz.underlying22 (hval 1 22 v1 rfl rfl)
  have k1 := h1
  have lt1 : ∀ x ∈ p1, x.block < W.heap.size := by obtain ⟨m, hm⟩ := k1; exact DataW.trod_lt m _ _ _ hm
  obtain ⟨z1, w1, n1, m1, o1, f1⟩ : ∃ zs, Deeds W a1 zs ∧ zs.length = len1 ∧ len1 ≤ cap1 ∧ cap1 ≤ maxLen ∧ (∀ d ∈ zs, Fit d) := by
    obtain ⟨fuel, hf⟩ := h1
    rcases open_deeds Tryz.underlying22 Tryz.underlying90 (by kernel_rfl) (by kernel_rfl) Tryz.underlying3 Tryz.underlying23 Tryz.underlying23 hf with ⟨hcs, hx⟩ | ⟨x, l, c, zs, E, S, hcs, hl, hm, hz, hx, hE, hS, hsp, hwz⟩
    · simp [Value.cells] at hcs
      obtain ⟨rfl, rfl, rfl⟩ := hcs
      exact ⟨[], Deeds.nil _ _, rfl, Nat.le_refl _, Nat.zero_le _, fun _ h => by cases h⟩
    · simp [Value.cells] at hcs
      obtain ⟨rfl, rfl, rfl⟩ := hcs
      exact ⟨zs, hsp, hz, hl, hm, hwz⟩
  obtain ⟨a2, rfl, rfl, rfl, w2⟩ := open_int Tryz.underlying3 (hval 2 3 v2 rfl rfl) h2
  obtain ⟨a3, rfl, rfl, rfl, w3⟩ := open_int Tryz.underlying23 (hval 3 23 v3 rfl rfl) h3
  obtain ⟨a4, len4, cap4, rfl⟩ := okWide_slice Tryz.underlying24 (hval 4 24 v4 rfl rfl)
  have k4 := h4
  have lt4 : ∀ x ∈ p4, x.block < W.heap.size := by obtain ⟨m, hm⟩ := k4; exact DataW.trod_lt m _ _ _ hm
  obtain ⟨z4, w4, n4, m4, o4, f4⟩ : ∃ zs, Shots W a4 zs ∧ zs.length = len4 ∧ len4 ≤ cap4 ∧ cap4 ≤ maxLen ∧ (∀ d ∈ zs, ShFit W d) := by
    obtain ⟨fuel, hf⟩ := h4
    rcases open_shots Tryz.underlying24 Tryz.underlying42 (by kernel_rfl) (by kernel_rfl) Tryz.underlying3 Tryz.underlying38 Tryz.underlying5 (by kernel_rfl) Tryz.underlying40 Tryz.underlying39 (by kernel_rfl) Tryz.underlying23 Tryz.underlying4 Tryz.underlying39 hf with ⟨hcs, hx⟩ | ⟨x, l, c, zs, hcs, hl, hm, hz, hsp, hwz⟩
    · simp [Value.cells] at hcs
      obtain ⟨rfl, rfl, rfl⟩ := hcs
      exact ⟨[], Shots.nil _ _, rfl, Nat.le_refl _, Nat.zero_le _, fun _ h => by cases h⟩
    · simp [Value.cells] at hcs
      obtain ⟨rfl, rfl, rfl⟩ := hcs
      exact ⟨zs, hsp, hz, hl, hm, hwz⟩
  clear hA0 hval0
  refine (walk a0 a1 len1 cap1 z1 a2 a3 a4 len4 cap4 z4 W w0 w1 n1 m1 o1 f1 w2 w3 w4 n4 m4 o4 f4).mono fun e W' ⟨he, bel⟩ => ?_
  subst he
  exact ⟨_, rfl, _, _, _, [], _, [], hW', trodAll_mk1 (shut_bool Tryz.underlying4 _), (trodAll_cons_mk (shut_int Tryz.underlying5 w0) (trodAll_cons_mk (Below.trod laidOut (by kernel_rfl) (of_decide_eq_true (by kernel_rfl)) k1 bel lt1) (trodAll_cons_mk (shut_int Tryz.underlying3 w2) (trodAll_cons_mk (shut_int Tryz.underlying23 w3) (trodAll_cons_mk (Below.trod laidOut (by kernel_rfl) (of_decide_eq_true (by kernel_rfl)) k4 bel lt4) trodAll_mk0))))), rfl, bel.frame _, fun h => by cases h⟩

theorem over : Rows.guardTellsRow.holds Tryz.pinned (OpenSpec.ofChange Rows.guardTellsSpec) :=
  OpenClaim.holds_of_wide 3 Tryz.f3 rfl rfl rfl rfl rfl rfl rfl ⟨rfl, rfl, rfl, rfl, rfl⟩ rfl rfl rfl rfl rfl (by kernel_rfl) Tryz.func3 (by kernel_rfl)
    (of_decide_eq_true (by kernel_rfl)) (by unfold Func.isWrapper; first | (rw [if_pos (by decide +kernel)]; kernel_rfl) | (rw [if_neg (by decide +kernel)]; exact ⟨rfl, rfl⟩))
    (fun os started H enc _ => lifted os started H enc)

/-- The given statement. -/
theorem proved : Rows.GuardTellsSaid :=
  over
#print axioms proved
end Go.Proofs.YtkiloaebokkjbaaGreat.guardTells
