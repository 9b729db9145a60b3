/-
  What was forked says the same, and neither touches the other. No conditions.
-/
import Derived.Test.YtkiloaebokkjbaaGreatM1
import Derived.Test.YtkiloaebokkjbaaGreatRows
import Derived.Test.YtkiloaebokkjbaaGreatRow
import Derived.WalkKit
import Derived.ProofKit
import Derived.OpenShut
import Derived.ShutString
import Derived.ChangeOld
import Derived.Below
import Derived.Test.YtkiloaebokkjbaaGreatGuardStep
namespace Go.Proofs.YtkiloaebokkjbaaGreat.guardForks
open Go.ChangeShapes Go.WideShapes Go.ChangeAt Go.RowKit
open Go.ChangeMaps (open_string shut_string)
open Go.Proofs.YtkiloaebokkjbaaGreat.Base
set_option linter.unusedVariables false
set_option linter.unusedSimpArgs false

theorem own : ownKnob Tryz.prog.godebug = none := by kernel_rfl
theorem laidOut : laidOutB Tryz.prog = true := by kernel_rfl

open Go.Proofs.YtkiloaebokkjbaaGreat.Led Go.Proofs.YtkiloaebokkjbaaGreat.LedPlain Go.Proofs.YtkiloaebokkjbaaGreat.GuardPlain Go.Proofs.YtkiloaebokkjbaaGreat.Guard
set_option maxHeartbeats 4000000 in
set_option maxRecDepth 20000 in
theorem walk (a0 : Int) (a1 : Option Addr) (len1 cap1 : Nat) (z1 : List Dd) (a2 : Option Addr) (len2 cap2 : Nat) (z2 : List Sh) (a3 : Option Addr) (len3 cap3 : Nat) (z3 : List Sh) (w : World) (w0 : (Lit.int .u8 a0).wf = true) (w1 : Deeds w a1 z1) (n1 : z1.length = len1) (m1 : len1 ≤ cap1) (o1 : cap1 ≤ maxLen) (f1 : ∀ d ∈ z1, Fit d) (w2 : Shots w a2 z2) (n2 : z2.length = len2) (m2 : len2 ≤ cap2) (o2 : cap2 ≤ maxLen) (f2 : ∀ d ∈ z2, ShFit w d) (w3 : Shots w a3 z3) (n3 : z3.length = len3) (m3 : len3 ≤ cap3) (o3 : cap3 ≤ maxLen) (f3 : ∀ d ∈ z3, ShFit w d) :
    Calls Tryz.prog 8 #[.int .u8 a0, .slice a1 len1 cap1, .slice a2 len2 cap2, .slice a3 len3 cap3] w fun e w' => e = .returned (.bool true) ∧ Below w.heap.size w w' := by
  obtain ⟨p0, p1⟩ := Base.u8_of w0
  subst n1
  subst n2
  subst n3
  unfold maxLen at o2 o3
  have hB := Below.refl w.heap.size w
  have CM := make_any (a0 % 40) 4611686018427387903 (by omega) (by omega) (by decide) (by decide) a1 z1.length cap1 z1 w rfl m1 o1 f1 w1
  have hgl := made_len (a0 % 40) 4611686018427387903 z1
  generalize madeG (a0 % 40) 4611686018427387903 z1 = g0 at *
  have CG := fun V => Guard.new_any 2 100 (by decide) (by decide) (by decide) (by decide) V
  have CR := fun V => ref_newguard 2 100 (by decide) (by decide) V
  have CA := fun V => alive_guard V
  have hcb := cb_new 2 100 (by decide) (by decide)
  generalize newD 2 100 = d0 at *
  go_enter Tryz.func8, Tryz.ntmps8
  go_upto_region 2 with (go_at_call 9; refine CM.mono ?_; rintro e u1 ⟨a, b, S, rfl, P1, hS, L1⟩)
  refine at_world ?_
  intro U2 hU
  obtain ⟨T2, P2, M2, q2⟩ : Blk U2 u1.heap.size #[.pointer (some a), .pointer (some ⟨b, 0, none⟩)] 28 ∧ Pair S U2 a b g0 ∧ Below w.heap.size w U2 ∧ U2.heap.size = u1.heap.size + 1 := by
    subst hU
    exact ⟨Blk.new _ _ _, P1.below ((Below.refl _ _).alloc (Nat.le_refl _) _), L1.alloc L1.size _, by simp⟩
  have hSl : ∀ k, S k → w.heap.size ≤ k ∧ k < u1.heap.size := fun k hk => ⟨hS k hk, P1.lt k hk⟩
  have s1 := L1.size
  clear hU P1 L1 hS CM
  go_upto_region 3 with (first
    | (go_at_call 10; refine (CG U2).mono ?_; rintro e u3 ⟨gp, rfl, G3, L3⟩)
    | (go_at_call 11; refine (CR u3).mono ?_; rintro e u4 ⟨gr, rfl, R4, L4⟩))
  refine at_world ?_
  intro U hU
  have s3 := L3.size
  have s4 := L4.size
  obtain ⟨B5, T5, Q5, M5⟩ : Blk U u4.heap.size #[.pointer (some gp), .pointer (some ⟨gr, 0, none⟩)] 36 ∧ Blk U u1.heap.size #[.pointer (some a), .pointer (some ⟨b, 0, none⟩)] 28 ∧
      Quar (fun k => w.heap.size ≤ k ∧ k ≠ u1.heap.size ∧ k ≠ u4.heap.size) (fun _ => False) (fun _ => False) U U a b gp gr g0 g0 d0 d0 ∧ Below w.heap.size w U := by
    subst hU
    have hb : Below u4.heap.size u4 (u4.alloc (.cells #[.pointer (some gp), .pointer (some ⟨gr, 0, none⟩)] 36)) := (Below.refl _ _).alloc (Nat.le_refl _) _
    have h3 := Base.next L3 L4
    refine ⟨Blk.new _ _ _, ((T2.below L3 T2.lt).below L4 (by have := T2.lt; omega)).alloc _, Quar.make ((P2.below h3).below hb) ((G3.below L4).below hb) (R4.below hb) (fun k hk => ?_) (fun k hk => ?_) (fun k hk => ?_) (fun k hk h => ?_) (fun k hk h => ?_) fun k hk h => ?_, Base.next (Base.next M2 h3) hb⟩
    · have := hSl k hk
      omega
    · have := hb.size
      omega
    · have := hb.size
      omega
    · have := hSl k h
      omega
    · have := hSl k h
      omega
    · omega
  clear hU G3 R4 L3 L4 CG CR P2 M2 T2
  have n41 : u1.heap.size < u4.heap.size := by omega
  have hw1 : w.heap.size ≤ u1.heap.size := s1
  clear s1 s3 s4 q2 hSl hB
  generalize u1.heap.size = tb at *
  generalize u4.heap.size = gb at *
  have hA1 : ∀ k, (fun k => w.heap.size ≤ k ∧ k ≠ tb ∧ k ≠ gb) k → w.heap.size ≤ k ∧ k ≠ tb ∧ k ≠ gb := fun k h => h
  have hA2 : ∀ k, w.heap.size ≤ k → k ≠ tb → k ≠ gb → (fun k => w.heap.size ≤ k ∧ k ≠ tb ∧ k ≠ gb) k := fun k h1 h2 h3 => ⟨h1, h2, h3⟩
  have hA0 : ∀ k, (fun k => w.heap.size ≤ k ∧ k ≠ tb ∧ k ≠ gb) k → w.heap.size ≤ k := fun k h => h.1
  generalize (fun k => w.heap.size ≤ k ∧ k ≠ tb ∧ k ≠ gb) = AA at *
  have hbU := B5.lt
  have c0 : U.cell? ⟨gb, 0, none⟩ = some (.pointer (some gp)) := B5.cell 0
  have k0 := fun V (hV : Below U.heap.size U V) => show V.cell? ⟨gb, 0, none⟩ = some (.pointer (some gp)) from (B5.below hV B5.lt).cell 0
  by_cases h20 : 20 < z2.length
  · have h20I : (20 : Int) < (z2.length : Int) := by omega
    go_wp2_with (first
      | (go_at_call 12; (with_reducible refine (CA U).mono ?_); rintro e u5 ⟨rfl, L5⟩; have M6 := Base.next M5 L5; have c1 := k0 _ L5)
      | (go_at_call 12; (with_reducible refine (CA u5).mono ?_); rintro e u6 ⟨rfl, L6⟩; have M7 := Base.next M6 L6; have c2 := keepCell L6 c1))
    all_goals go_ret
    all_goals exact ⟨rfl, M7⟩
  have h20I : (z2.length : Int) ≤ 20 := by omega
  by_cases h21 : 20 < z3.length
  · have h21I : (20 : Int) < (z3.length : Int) := by omega
    go_wp2_with (first
      | (go_at_call 12; (with_reducible refine (CA U).mono ?_); rintro e u5 ⟨rfl, L5⟩; have M6 := Base.next M5 L5; have c1 := k0 _ L5)
      | (go_at_call 12; (with_reducible refine (CA u5).mono ?_); rintro e u6 ⟨rfl, L6⟩; have M7 := Base.next M6 L6; have c2 := keepCell L6 c1))
    all_goals go_ret
    all_goals exact ⟨rfl, M7⟩
  have h21I : (z3.length : Int) ≤ 20 := by omega
  go_wp2_with (go_at_call 12; refine (CA U).mono ?_; rintro e X ⟨rfl, L5⟩; have M6 := Base.next M5 L5; have c1 := k0 _ L5)
  have Q6 := (Q5.next L5).at_ fun k hk => hA2 k (by have := M5.size; omega) (by omega) (by omega)
  have hF6 : Fr AA U X := Fr.of_below L5
  have hwU := M5.size
  clear Q5 k0 c0 c1 CA
  go_loopw [12, 13, 14] (fun i pp ok wr => ∃ (t : Nat) (g' : Gd) (l' : Lg), t ≤ z2.length ∧ i = .int .i64 t ∧ Cb g' t ∧ l'.l.length = g0.l.length ∧ Quar AA (fun _ => False) (fun _ => False) wr wr a b gp gr l' l' g' g' ∧ Fr AA U wr) (fun i _ _ _ => z2.length - (intOf i).toNat)
  case atStart => exact ⟨0, d0, g0, Nat.zero_le _, rfl, hcb, rfl, Q6, hF6⟩
  case round =>
    obtain ⟨t, g, l, ht, rfl, hc, hl, Q, hF⟩ := hrel
    have wsl := w2
    have fsl := f2
    clear Q6 M6 hF6 L5
    have hL : Below w.heap.size w wr := M5.trans (hF.toBelow' (B := w.heap.size) M5.size fun k _ hk => hA0 k hk)
    have T7 := T5.kept hF (fun h => (hA1 _ h).2.1 rfl)
    have B7 := B5.kept hF (fun h => (hA1 _ h).2.2 rfl)
    have hUw := hF.size
    by_cases hlt : t < z2.length
    · have hlI : (t : Int) < (z2.length : Int) := by omega
      obtain ⟨bz, off, rfl, hbz, ds⟩ := wsl.at_ hlt
      have hFit := fsl (z2.getD t sh0) (by simp [List.getD, hlt])
      generalize z2.getD t sh0 = s at *
      replace ds : ∀ j x, (shC s)[j]? = some x → wr.cell? ⟨bz, off + t * 9 + j, none⟩ = some x := fun j x hj => by
        rw [hL.cell (p := ⟨bz, off + t * 9 + j, none⟩) hbz]
        exact ds j x hj
      have hbw : bz < wr.heap.size := Nat.lt_of_lt_of_le hbz hL.size
      go_upto_region 8 with fail
      have hD : Below wr.heap.size wr wr.drew := Base.drew1 (Below.refl _ _)
      have hLD : Below w.heap.size w wr.drew := Base.next hL hD
      have hAD : ∀ k, wr.drew.heap.size ≤ k → AA k := fun k hk => hA2 k (by have := hUw; have := hD.size; omega) (by have := hUw; have := hD.size; omega) (by have := hUw; have := hD.size; omega)
      have QD : Quar AA (fun _ => False) (fun _ => False) wr.drew wr.drew a b gp gr l l g g := (Q.drew).at_ fun k hk => hA2 k (by omega) (by omega) (by omega)
      have hFD : Fr AA U wr.drew := hF.trans (T := fun _ => False) (Fr.of_below hD) fun _ _ h => h.elim
      have S0 : Fr AA wr.drew wr.drew := Fr.refl _ _
      have BD := B7.below hD B7.lt
      have TD := T7.below hD T7.lt
      have hwD : w.heap.size ≤ wr.drew.heap.size := hLD.size
      have dsD : ∀ j x, (shC s)[j]? = some x → wr.drew.cell? ⟨bz, off + t * 9 + j, none⟩ = some x := fun j x hj => ds j x hj
      have hok : Ok l := Q.ok
      have hBk : ∀ k, k < w.heap.size → k < wr.drew.heap.size ∧ ¬ AA k := fun k hk => ⟨by omega, fun h => by have := hA0 _ h; omega⟩
      have hnow0 : 0 ≤ (t : Int) := by omega
      have hnow1 : (t : Int) ≤ 18446744073709551615 := by omega
      have CF := fun V (Q : Quar AA (fun _ => False) (fun _ => False) wr.drew V a b gp gr l l g g) (hb : Below w.heap.size w V) => quar_frame Q (by omega) hb hFit
      have CT := fun V (hV : Below wr.drew.heap.size wr.drew V) p n c fr hfn hnc hnm hby (hrow : RowIn (fun k => k < w.heap.size ∨ wr.drew.heap.size ≤ k) V p (fr.map (.int .u8))) => take_both (QD.with_ hV (fun k => k < w.heap.size) hBk) hc (by omega) (by omega) p n c fr hfn hnc hnm hby (hrow.mono fun k hk h => h.imp id fun h => ⟨h, hk⟩) (t : Int) hnow0 hnow1
      have zB := fun V (hV : Fr AA wr.drew V) => show V.rangeAt gb 0 [.pointer (some gp), .pointer (some ⟨gr, 0, none⟩)] from Blk.range (BD.kept hV (fun h => (hA1 _ h).2.2 rfl)) (fun j u hj => by rw [Nat.zero_add]; rcases j with _ | _ | j <;> first | exact hj | simp at hj)
      have zT := fun V (hV : Fr AA wr.drew V) => show V.rangeAt tb 0 [.pointer (some a), .pointer (some ⟨b, 0, none⟩)] from Blk.range (TD.kept hV (fun h => (hA1 _ h).2.1 rfl)) (fun j u hj => by rw [Nat.zero_add]; rcases j with _ | _ | j <;> first | exact hj | simp at hj)
      have zS := fun V (hV : Fr AA wr.drew V) => show V.rangeAt bz (off + t * 9) (shC s) from fun j x hj => by
        rw [hV.cell (p := ⟨bz, off + t * 9 + j, none⟩) (Nat.lt_of_lt_of_le hbz hwD) (fun h => absurd (show w.heap.size ≤ bz from hA0 _ h) (by omega))]
        exact dsD j x hj
      refine held_start (fun v => Fr AA wr.drew v) (by kernel_rfl) ?_
      generalize wr.drew = D at *
      refine held_take (i := 0) (v := .agg #[.pointer (some gp), .pointer (some ⟨gr, 0, none⟩)]) rfl (by kernel_rfl) (by kernel_rfl) (by kernel_rfl) (fun _ _ _ h => h) (by kernel_rfl) S0 (fun _ hu => by exact lb_mid 36 (.tmp 11) rfl (by kernel_rfl) (zB _ hu) Tryz.underlying36 rfl (by kernel_rfl)) ?_
      refine held_take (i := 1) (v := .agg #[.pointer (some a), .pointer (some ⟨b, 0, none⟩)]) rfl (by kernel_rfl) (by kernel_rfl) (by kernel_rfl) (fun _ _ _ h => h) (by kernel_rfl) S0 (fun _ hu => by exact lb_mid 28 (.tmp 9) rfl (by kernel_rfl) (zT _ hu) Tryz.underlying28 rfl (by kernel_rfl)) ?_
      refine held_take (i := 2) (v := .slice (some ⟨bz, off, none⟩) z2.length cap2) rfl (by kernel_rfl) (by kernel_rfl) (by kernel_rfl) (fun _ _ _ h => h) (by kernel_rfl) S0 (fun _ hu => by kernel_rfl) ?_
      refine held_take (i := 3) (v := .int .i64 t) rfl (by kernel_rfl) (by kernel_rfl) (by kernel_rfl) (fun _ _ _ h => h) (by kernel_rfl) S0 (fun _ hu => by kernel_rfl) ?_
      refine held_take (i := 4) (v := .pointer (some ⟨bz, off + t * 9, none⟩)) rfl (by kernel_rfl) (by kernel_rfl) (by kernel_rfl) (fun _ _ _ h => h) (by kernel_rfl) S0 (fun _ hu => by exact ix_shots (.tmp 70) (.tmp 71) (n := z2.length) (cap := cap2) rfl (by kernel_rfl) (by kernel_rfl) hlt) ?_
      refine held_take (i := 5) (v := .agg (shC s).toArray) rfl (by kernel_rfl) (by kernel_rfl) (by kernel_rfl) (fun _ _ _ h => h) (by kernel_rfl) S0 (fun _ hu => by exact lb_mid 42 (.tmp 72) rfl (by kernel_rfl) (zS _ hu) Tryz.underlying42 rfl (by kernel_rfl)) ?_
      refine held_take (i := 6) (v := .agg #[.pointer (some a), .pointer (some ⟨b, 0, none⟩)]) rfl (by kernel_rfl) (by kernel_rfl) (by kernel_rfl) (fun _ _ _ h => h) (by kernel_rfl) S0 (fun _ hu => by exact lb_mid 28 (.tmp 9) rfl (by kernel_rfl) (zT _ hu) Tryz.underlying28 rfl (by kernel_rfl)) ?_
      refine held_take (i := 8) (v := .int .i64 t) rfl (by kernel_rfl) (by kernel_rfl) (by kernel_rfl) (fun _ _ _ h => h) (by kernel_rfl) S0 (fun _ hu => by kernel_rfl) ?_
      refine held_take (i := 9) (v := .int .u64 (t : Int)) rfl (by kernel_rfl) (by kernel_rfl) (by kernel_rfl) (fun _ _ _ h => h) (by kernel_rfl) S0 (fun _ hu => by exact cv_any (.tmp 76) rfl (by kernel_rfl) (by omega) (by omega)) ?_
      refine held_two (i := 7) (j := 14) (by kernel_rfl) (op_call (i := 7) (f := 14) (args := #[.agg (shC s).toArray, .agg #[.pointer (some a), .pointer (some ⟨b, 0, none⟩)]]) rfl (by kernel_rfl) (by kernel_rfl) ((CF D QD hLD).mono ?_)) (op_value (i := 14) (v := .pointer (some ⟨D.heap.size, 0, none⟩)) (w' := D.alloc (.cells #[.int .i64 0, .int .i64 0, .int .u64 0, .bool false] 44)) rfl (by kernel_rfl) (by kernel_rfl) ⟨S0.alloc _, ?_⟩)
      · rintro e w5 ⟨p, n, c, fr, rfl, hfn, hnc, hnm, hby, hrow, L5⟩
        have S5 : Fr AA D w5 := S0.trans (T := fun _ => False) (Fr.of_below L5) (fun _ _ h => h.elim)
        have hcb2 := cb_take hc hok hby hnow0 hnow1
        have hlen2 := len_take g l fr (t : Int)
        refine ⟨_, rfl, S5, ?_⟩
        refine held_two (i := 10) (j := 14) (by kernel_rfl) (op_call (i := 10) (f := 13) (args := #[.agg #[.pointer (some gp), .pointer (some ⟨gr, 0, none⟩)], .agg #[.pointer (some a), .pointer (some ⟨b, 0, none⟩)], .slice p n c, .int .u64 (t : Int)]) rfl (by kernel_rfl) (by kernel_rfl) ((CT w5 L5 p n c fr hfn hnc hnm hby hrow).mono ?_)) (op_value (i := 14) (v := .pointer (some ⟨w5.heap.size, 0, none⟩)) (w' := w5.alloc (.cells #[.int .i64 0, .int .i64 0, .int .u64 0, .bool false] 44)) rfl (by kernel_rfl) (by kernel_rfl) ⟨S5.alloc _, ?_⟩)
        · rintro e w6 ⟨rfl, Q6, F6⟩
          have S6 := Q6.fr
          clear CT CF
          generalize takeT g l fr (t : Int) = X at *
          refine ⟨_, rfl, S6, ?_⟩
          refine held_take (i := 11) (v := .tuple #[.agg (vcells X.v), .bool true]) rfl (by kernel_rfl) (by kernel_rfl) (by kernel_rfl) (fun _ _ _ h => h) (by kernel_rfl) S6 (fun _ hu => by kernel_rfl) ?_
          refine held_take (i := 12) (v := .agg (vcells X.v)) rfl (by kernel_rfl) (by kernel_rfl) (by kernel_rfl) (fun _ _ _ h => h) (by kernel_rfl) S6 (fun _ hu => by kernel_rfl) ?_
          refine held_take (i := 13) (v := .bool true) rfl (by kernel_rfl) (by kernel_rfl) (by kernel_rfl) (fun _ _ _ h => h) (by kernel_rfl) S6 (fun _ hu => by kernel_rfl) ?_
          refine held_one (i := 14) (v := .pointer (some ⟨w6.heap.size, 0, none⟩)) (w' := w6.alloc (.cells #[.int .i64 0, .int .i64 0, .int .u64 0, .bool false] 44)) rfl (by kernel_rfl) (by kernel_rfl) (by kernel_rfl) (S6.alloc _) ?_
          have h7 : Below w6.heap.size w6 (w6.alloc (.cells #[.int .i64 0, .int .i64 0, .int .u64 0, .bool false] 44)) := (Below.refl _ _).alloc (Nat.le_refl _) _
          have b7 := Blk.new w6 #[.int .i64 0, .int .i64 0, .int .u64 0, .bool false] 44
          have S7 := S6.alloc (.cells #[.int .i64 0, .int .i64 0, .int .u64 0, .bool false] 44)
          have Q7 := Q6.more h7
          have z6 := S6.size
          have n7 := b7.lt
          have SF := S7.setRow (g := w6.heap.size) (fun h => by omega) (vcells X.v)
          refine held_st (i := 15) rfl (by kernel_rfl) (by kernel_rfl) (st_row 44 (.tmp 13) (.tmp 79) rfl (g := w6.heap.size) (cells := vcells X.v) (by kernel_rfl) (by kernel_rfl) b7 (by kernel_rfl) rfl (by simp [vcells, Value.oneCell'])) SF ?_
          refine held_take (i := 16) (v := .bool true) rfl (by kernel_rfl) (by kernel_rfl) (by kernel_rfl) (fun _ _ _ h => h) (by kernel_rfl) SF (fun _ hu => by kernel_rfl) ?_
          refine held_done (by kernel_rfl) ?_
          have QF := ((Q7).set (b := w6.heap.size) (.inr ⟨Nat.le_refl _, n7⟩) (by omega) (vcells X.v)).bare
          go_wp2
          all_goals go_roundw
          case rel => exact ⟨t + 1, X.g, X.l, by omega, by go_num, hcb2, by omega, QF.at_ hAD, hFD.trans QF.fr fun _ _ h => h⟩
          case measure => simp only [intOf]; omega
        · have h6 : Below w5.heap.size w5 (w5.alloc (.cells #[.int .i64 0, .int .i64 0, .int .u64 0, .bool false] 44)) := (Below.refl _ _).alloc (Nat.le_refl _) _
          have b6 := Blk.new w5 #[.int .i64 0, .int .i64 0, .int .u64 0, .bool false] 44
          have z5 := L5.size
          have n6 := b6.lt
          have S6 := S5.alloc (.cells #[.int .i64 0, .int .i64 0, .int .u64 0, .bool false] 44)
          have row6 := hrow.kept (T := fun _ => False) (Fr.of_below h6) (fun _ _ h => h)
          have C6 := CT _ (Base.next L5 h6) p n c fr hfn hnc hnm hby row6
          generalize w5.alloc (.cells #[.int .i64 0, .int .i64 0, .int .u64 0, .bool false] 44) = v6 at *
          refine held_call (i := 10) (f := 13) (args := #[.agg #[.pointer (some gp), .pointer (some ⟨gr, 0, none⟩)], .agg #[.pointer (some a), .pointer (some ⟨b, 0, none⟩)], .slice p n c, .int .u64 (t : Int)]) rfl (by kernel_rfl) (by kernel_rfl) (by kernel_rfl) (C6.mono ?_)
          rintro e w7 ⟨rfl, Q7, F7⟩
          have S7 := Q7.fr
          have b7 := b6.kept F7 (fun h => h (.inr ⟨z5, n6⟩))
          clear CT CF C6
          generalize takeT g l fr (t : Int) = X at *
          refine ⟨_, rfl, S7, ?_⟩
          refine held_take (i := 11) (v := .tuple #[.agg (vcells X.v), .bool true]) rfl (by kernel_rfl) (by kernel_rfl) (by kernel_rfl) (fun _ _ _ h => h) (by kernel_rfl) S7 (fun _ hu => by kernel_rfl) ?_
          refine held_take (i := 12) (v := .agg (vcells X.v)) rfl (by kernel_rfl) (by kernel_rfl) (by kernel_rfl) (fun _ _ _ h => h) (by kernel_rfl) S7 (fun _ hu => by kernel_rfl) ?_
          refine held_take (i := 13) (v := .bool true) rfl (by kernel_rfl) (by kernel_rfl) (by kernel_rfl) (fun _ _ _ h => h) (by kernel_rfl) S7 (fun _ hu => by kernel_rfl) ?_
          have SF := S7.setRow (g := w5.heap.size) (fun h => by omega) (vcells X.v)
          refine held_st (i := 15) rfl (by kernel_rfl) (by kernel_rfl) (st_row 44 (.tmp 13) (.tmp 79) rfl (g := w5.heap.size) (cells := vcells X.v) (by kernel_rfl) (by kernel_rfl) b7 (by kernel_rfl) rfl (by simp [vcells, Value.oneCell'])) SF ?_
          refine held_take (i := 16) (v := .bool true) rfl (by kernel_rfl) (by kernel_rfl) (by kernel_rfl) (fun _ _ _ h => h) (by kernel_rfl) SF (fun _ hu => by kernel_rfl) ?_
          refine held_done (by kernel_rfl) ?_
          have QF := ((Q7).set (b := w5.heap.size) ⟨z5, n6⟩ (by omega) (vcells X.v)).bare
          go_wp2
          all_goals go_roundw
          case rel => exact ⟨t + 1, X.g, X.l, by omega, by go_num, hcb2, by omega, QF.at_ hAD, hFD.trans QF.fr fun _ _ h => h⟩
          case measure => simp only [intOf]; omega
      · have h5 : Below D.heap.size D (D.alloc (.cells #[.int .i64 0, .int .i64 0, .int .u64 0, .bool false] 44)) := (Below.refl _ _).alloc (Nat.le_refl _) _
        have b5 := Blk.new D #[.int .i64 0, .int .i64 0, .int .u64 0, .bool false] 44
        have n5 := b5.lt
        have S5 := S0.alloc (.cells #[.int .i64 0, .int .i64 0, .int .u64 0, .bool false] 44)
        have C5 := CF _ (QD.next h5) (Base.next hLD h5)
        generalize D.alloc (.cells #[.int .i64 0, .int .i64 0, .int .u64 0, .bool false] 44) = v5 at *
        refine held_call (i := 7) (f := 14) (args := #[.agg (shC s).toArray, .agg #[.pointer (some a), .pointer (some ⟨b, 0, none⟩)]]) rfl (by kernel_rfl) (by kernel_rfl) (by kernel_rfl) (C5.mono ?_)
        rintro e w6 ⟨p, n, c, fr, rfl, hfn, hnc, hnm, hby, hrow, L6⟩
        have hcb2 := cb_take hc hok hby hnow0 hnow1
        have hlen2 := len_take g l fr (t : Int)
        have z5 := h5.size
        have z6 := L6.size
        have b6 := b5.below L6 n5
        have L6' := Base.next h5 L6
        have S6 : Fr AA D w6 := Fr.of_below L6'
        have C6 := CT _ L6' p n c fr hfn hnc hnm hby (hrow.mono fun k _ h => h.imp id fun h => by omega)
        refine ⟨_, rfl, S6, ?_⟩
        refine held_call (i := 10) (f := 13) (args := #[.agg #[.pointer (some gp), .pointer (some ⟨gr, 0, none⟩)], .agg #[.pointer (some a), .pointer (some ⟨b, 0, none⟩)], .slice p n c, .int .u64 (t : Int)]) rfl (by kernel_rfl) (by kernel_rfl) (by kernel_rfl) (C6.mono ?_)
        rintro e w7 ⟨rfl, Q7, F7⟩
        have S7 := Q7.fr
        have b7 := b6.kept F7 (fun h => h (.inr ⟨Nat.le_refl _, by omega⟩))
        clear CT CF C6 C5
        generalize takeT g l fr (t : Int) = X at *
        refine ⟨_, rfl, S7, ?_⟩
        refine held_take (i := 11) (v := .tuple #[.agg (vcells X.v), .bool true]) rfl (by kernel_rfl) (by kernel_rfl) (by kernel_rfl) (fun _ _ _ h => h) (by kernel_rfl) S7 (fun _ hu => by kernel_rfl) ?_
        refine held_take (i := 12) (v := .agg (vcells X.v)) rfl (by kernel_rfl) (by kernel_rfl) (by kernel_rfl) (fun _ _ _ h => h) (by kernel_rfl) S7 (fun _ hu => by kernel_rfl) ?_
        refine held_take (i := 13) (v := .bool true) rfl (by kernel_rfl) (by kernel_rfl) (by kernel_rfl) (fun _ _ _ h => h) (by kernel_rfl) S7 (fun _ hu => by kernel_rfl) ?_
        have SF := S7.setRow (g := D.heap.size) (fun h => by omega) (vcells X.v)
        refine held_st (i := 15) rfl (by kernel_rfl) (by kernel_rfl) (st_row 44 (.tmp 13) (.tmp 79) rfl (g := D.heap.size) (cells := vcells X.v) (by kernel_rfl) (by kernel_rfl) b7 (by kernel_rfl) rfl (by simp [vcells, Value.oneCell'])) SF ?_
        refine held_take (i := 16) (v := .bool true) rfl (by kernel_rfl) (by kernel_rfl) (by kernel_rfl) (fun _ _ _ h => h) (by kernel_rfl) SF (fun _ hu => by kernel_rfl) ?_
        refine held_done (by kernel_rfl) ?_
        have QF := ((Q7).set (b := D.heap.size) ⟨Nat.le_refl _, by omega⟩ (by omega) (vcells X.v)).bare
        go_wp2
        all_goals go_roundw
        case rel => exact ⟨t + 1, X.g, X.l, by omega, by go_num, hcb2, by omega, QF.at_ hAD, hFD.trans QF.fr fun _ _ h => h⟩
        case measure => simp only [intOf]; omega
    · have hlI : ¬ (t : Int) < (z2.length : Int) := by omega
      generalize wr = wo at *
      obtain ⟨S1, S2, T1, R1, T2, R2, q, q1, q2, q3, q4⟩ := id Q
      have hgn : l.l.length ≤ 1000000 := by omega
      have hn1 : t ≤ 20 := by omega
      have htl := T7.lt
      have hbl := B7.lt
      go_upto_region 11 with fail
      go_cut [15] from 83 to 89 (fun s wx => ∃ (d bp : Nat) (ap : Addr) (S3 S4 : Nat → Prop), s = .pointer (some ⟨d, 0, none⟩) ∧ Blk wx d #[.pointer (some ap), .pointer (some ⟨bp, 0, none⟩)] 28 ∧ Led S3 wx ap l ∧ Rf S4 wx bp l ∧ (∀ k, S3 k → wo.heap.size ≤ k ∧ k < wx.heap.size ∧ k ≠ d) ∧ (∀ k, S4 k → wo.heap.size ≤ k ∧ k < wx.heap.size ∧ k ≠ d) ∧ (∀ k, S3 k → ¬ S4 k) ∧ wo.heap.size ≤ d ∧ Below wo.heap.size wo wx)
      case first =>
        have hDw : Below wo.heap.size wo wo.drew := Base.drew1 (Below.refl _ _)
        have hDs := Lib.hid (show wo.drew.heap.size = wo.heap.size from rfl)
        have KD := T7.below hDw T7.lt
        have CPL := fun V (hV : Below wo.drew.heap.size wo.drew V) => Led.fork_any (q1.below (Base.next hDw hV)) hgn
        have CRL := fun V (hV : Below wo.drew.heap.size wo.drew V) => Led.ref_fork (q2.below (Base.next hDw hV)) hgn
        refine held_start (fun v => Below wo.drew.heap.size wo.drew v) (by kernel_rfl) ?_
        generalize wo.drew = D at *
        have S0 : Below D.heap.size D D := Below.refl _ _
        have kc0 := fun V (hV : Below D.heap.size D V) => show V.cell? ⟨tb, 0, none⟩ = some (.pointer (some a)) from (KD.below hV KD.lt).cell 0
        have kc1 := fun V (hV : Below D.heap.size D V) => show V.cell? ⟨tb, 1, none⟩ = some (.pointer (some ⟨b, 0, none⟩)) from (KD.below hV KD.lt).cell 1
        refine held_take (i := 0) (v := .pointer (some ⟨tb, 0, none⟩)) rfl (by kernel_rfl) (by kernel_rfl) (by kernel_rfl) (fun _ _ _ h => h) (by kernel_rfl) S0 (fun _ hu => by kernel_rfl) ?_
        refine held_take (i := 1) (v := .pointer (some a)) rfl (by kernel_rfl) (by kernel_rfl) (by kernel_rfl) (fun _ _ _ h => h) (by kernel_rfl) S0 (fun _ hu => by exact lb_any 25 (.tmp 83) rfl (by kernel_rfl) (by kernel_rfl) (kc0 _ hu)) ?_
        refine held_take (i := 3) (v := .pointer (some ⟨tb, 1, none⟩)) rfl (by kernel_rfl) (by kernel_rfl) (by kernel_rfl) (fun _ _ _ h => h) (by kernel_rfl) S0 (fun _ hu => by kernel_rfl) ?_
        refine held_take (i := 4) (v := .pointer (some ⟨b, 0, none⟩)) rfl (by kernel_rfl) (by kernel_rfl) (by kernel_rfl) (fun _ _ _ h => h) (by kernel_rfl) S0 (fun _ hu => by exact lb_any 26 (.tmp 86) rfl (by kernel_rfl) (by kernel_rfl) (kc1 _ hu)) ?_
        refine held_two (i := 2) (j := 7) (by kernel_rfl) (op_call (i := 2) (f := 29) (args := #[.pointer (some a)]) rfl (by kernel_rfl) (by kernel_rfl) ((CPL D S0).mono ?_)) (op_value (i := 7) (v := .pointer (some ⟨D.heap.size, 0, none⟩)) (w' := D.alloc (.cells #[.pointer none, .pointer none] 28)) rfl (by kernel_rfl) (by kernel_rfl) ⟨S0.alloc (Nat.le_refl _) _, ?_⟩)
        · rintro e v1 ⟨ap, rfl, Q1, L1⟩
          have n1 := L1.size
          refine ⟨_, rfl, L1, ?_⟩
          refine held_two (i := 5) (j := 7) (by kernel_rfl) (op_call (i := 5) (f := 30) (args := #[.pointer (some ⟨b, 0, none⟩)]) rfl (by kernel_rfl) (by kernel_rfl) ((CRL v1 L1).mono ?_)) (op_value (i := 7) (v := .pointer (some ⟨v1.heap.size, 0, none⟩)) (w' := v1.alloc (.cells #[.pointer none, .pointer none] 28)) rfl (by kernel_rfl) (by kernel_rfl) ⟨L1.alloc n1 _, ?_⟩)
          · rintro e v2 ⟨bp, rfl, Q2, L2⟩
            have n2 := L2.size
            have L12 := Base.next L1 L2
            refine ⟨_, rfl, L12, ?_⟩
            refine held_take (i := 6) (v := .agg #[.pointer (some ap), .pointer (some ⟨bp, 0, none⟩)]) rfl (by kernel_rfl) (by kernel_rfl) (by kernel_rfl) (fun _ _ _ h => h) (by kernel_rfl) L12 (fun _ hu => by kernel_rfl) ?_
            refine held_one (i := 7) (v := .pointer (some ⟨v2.heap.size, 0, none⟩)) (w' := v2.alloc (.cells #[.pointer none, .pointer none] 28)) rfl (by kernel_rfl) (by kernel_rfl) (by kernel_rfl) (L12.alloc L12.size _) ?_
            have b3 := Blk.new v2 #[.pointer none, .pointer none] 28
            have h3 : Below v2.heap.size v2 (v2.alloc (.cells #[.pointer none, .pointer none] 28)) := (Below.refl _ _).alloc (Nat.le_refl _) _
            have L3 := Base.next L12 h3
            have n3 := b3.lt
            have SF : Below D.heap.size D ((v2.alloc (.cells #[.pointer none, .pointer none] 28)).setRow v2.heap.size #[.pointer (some ap), .pointer (some ⟨bp, 0, none⟩)]) := bel_setRow (cs := #[.pointer (some ap), .pointer (some ⟨bp, 0, none⟩)]) L3 (g := v2.heap.size) (by omega)
            refine held_st (i := 8) rfl (by kernel_rfl) (by kernel_rfl) (st_row 28 (.tmp 15) (.tmp 89) rfl (g := v2.heap.size) (cells := #[.pointer (some ap), .pointer (some ⟨bp, 0, none⟩)]) (by kernel_rfl) (by kernel_rfl) b3 (by kernel_rfl) rfl (by simp [Value.oneCell'])) SF ?_
            refine held_done (by kernel_rfl) ?_
            have bF := b3.setRow #[.pointer (some ap), .pointer (some ⟨bp, 0, none⟩)]
            go_wp2
            go_meet
            have hDs := hDs.out
            have hs3 := h3.size
            have fs : Fr (fun k => k = v2.heap.size) (v2.alloc (.cells #[.pointer none, .pointer none] 28)) ((v2.alloc (.cells #[.pointer none, .pointer none] 28)).setRow v2.heap.size #[.pointer (some ap), .pointer (some ⟨bp, 0, none⟩)]) := (Fr.refl (fun k => k = v2.heap.size) _).setRow (g := v2.heap.size) (fun _ => rfl) _
            have gs : ((v2.alloc (.cells #[.pointer none, .pointer none] 28)).setRow v2.heap.size #[.pointer (some ap), .pointer (some ⟨bp, 0, none⟩)]).heap.size = (v2.alloc (.cells #[.pointer none, .pointer none] 28)).heap.size := by simp [World.setRow]
            exact ⟨v2.heap.size, bp, ap, _, _, rfl, bF, ((Q1.below L2).below h3).kept fs (fun k hk h => by omega), (Q2.below h3).kept fs (fun k hk h => by omega), fun k hk => by rw [gs]; omega, fun k hk => by rw [gs]; omega, fun k h1 h2 => by omega, by omega, Base.next hDw SF⟩
          · have b2 := Blk.new v1 #[.pointer none, .pointer none] 28
            have h2 : Below v1.heap.size v1 (v1.alloc (.cells #[.pointer none, .pointer none] 28)) := (Below.refl _ _).alloc (Nat.le_refl _) _
            have m2 : (v1.alloc (.cells #[.pointer none, .pointer none] 28)).heap.size = v1.heap.size + 1 := by simp
            generalize v1.alloc (.cells #[.pointer none, .pointer none] 28) = u2 at *
            have L12 := Base.next L1 h2
            refine held_call (i := 5) (f := 30) (args := #[.pointer (some ⟨b, 0, none⟩)]) rfl (by kernel_rfl) (by kernel_rfl) (by kernel_rfl) ((CRL u2 L12).mono ?_)
            rintro e v2 ⟨bp, rfl, Q2, L2⟩
            have n2 := L2.size
            have b3 := b2.below L2 (by omega)
            have L3 := Base.next L12 L2
            have h3 : Below v2.heap.size v2 v2 := Below.refl _ _
            refine ⟨_, rfl, L3, ?_⟩
            refine held_take (i := 6) (v := .agg #[.pointer (some ap), .pointer (some ⟨bp, 0, none⟩)]) rfl (by kernel_rfl) (by kernel_rfl) (by kernel_rfl) (fun _ _ _ h => h) (by kernel_rfl) L3 (fun _ hu => by kernel_rfl) ?_
            have SF : Below D.heap.size D (v2.setRow v1.heap.size #[.pointer (some ap), .pointer (some ⟨bp, 0, none⟩)]) := bel_setRow (cs := #[.pointer (some ap), .pointer (some ⟨bp, 0, none⟩)]) L3 (g := v1.heap.size) (by omega)
            refine held_st (i := 8) rfl (by kernel_rfl) (by kernel_rfl) (st_row 28 (.tmp 15) (.tmp 89) rfl (g := v1.heap.size) (cells := #[.pointer (some ap), .pointer (some ⟨bp, 0, none⟩)]) (by kernel_rfl) (by kernel_rfl) b3 (by kernel_rfl) rfl (by simp [Value.oneCell'])) SF ?_
            refine held_done (by kernel_rfl) ?_
            have bF := b3.setRow #[.pointer (some ap), .pointer (some ⟨bp, 0, none⟩)]
            go_wp2
            go_meet
            have hDs := hDs.out
            have hs3 := h3.size
            have fs : Fr (fun k => k = v1.heap.size) v2 (v2.setRow v1.heap.size #[.pointer (some ap), .pointer (some ⟨bp, 0, none⟩)]) := (Fr.refl (fun k => k = v1.heap.size) _).setRow (g := v1.heap.size) (fun _ => rfl) _
            have gs : (v2.setRow v1.heap.size #[.pointer (some ap), .pointer (some ⟨bp, 0, none⟩)]).heap.size = v2.heap.size := by simp [World.setRow]
            exact ⟨v1.heap.size, bp, ap, _, _, rfl, bF, ((Q1.below (Base.next h2 L2)).below h3).kept fs (fun k hk h => by omega), (Q2.below h3).kept fs (fun k hk h => by omega), fun k hk => by rw [gs]; omega, fun k hk => by rw [gs]; omega, fun k h1 h2 => by omega, by omega, Base.next hDw SF⟩
        · have b1 := Blk.new D #[.pointer none, .pointer none] 28
          have h1 : Below D.heap.size D (D.alloc (.cells #[.pointer none, .pointer none] 28)) := (Below.refl _ _).alloc (Nat.le_refl _) _
          have m1 : (D.alloc (.cells #[.pointer none, .pointer none] 28)).heap.size = D.heap.size + 1 := by simp
          generalize D.alloc (.cells #[.pointer none, .pointer none] 28) = u1 at *
          refine held_call (i := 2) (f := 29) (args := #[.pointer (some a)]) rfl (by kernel_rfl) (by kernel_rfl) (by kernel_rfl) ((CPL u1 h1).mono ?_)
          rintro e v1 ⟨ap, rfl, Q1, L1⟩
          have n1 := L1.size
          have b2 := b1.below L1 (by omega)
          have L12 := Base.next h1 L1
          refine ⟨_, rfl, L12, ?_⟩
          refine held_call (i := 5) (f := 30) (args := #[.pointer (some ⟨b, 0, none⟩)]) rfl (by kernel_rfl) (by kernel_rfl) (by kernel_rfl) ((CRL v1 L12).mono ?_)
          rintro e v2 ⟨bp, rfl, Q2, L2⟩
          have n2 := L2.size
          have b3 := b2.below L2 (by omega)
          have L3 := Base.next L12 L2
          have h3 : Below v2.heap.size v2 v2 := Below.refl _ _
          refine ⟨_, rfl, L3, ?_⟩
          refine held_take (i := 6) (v := .agg #[.pointer (some ap), .pointer (some ⟨bp, 0, none⟩)]) rfl (by kernel_rfl) (by kernel_rfl) (by kernel_rfl) (fun _ _ _ h => h) (by kernel_rfl) L3 (fun _ hu => by kernel_rfl) ?_
          have SF : Below D.heap.size D (v2.setRow D.heap.size #[.pointer (some ap), .pointer (some ⟨bp, 0, none⟩)]) := bel_setRow (cs := #[.pointer (some ap), .pointer (some ⟨bp, 0, none⟩)]) L3 (g := D.heap.size) (by omega)
          refine held_st (i := 8) rfl (by kernel_rfl) (by kernel_rfl) (st_row 28 (.tmp 15) (.tmp 89) rfl (g := D.heap.size) (cells := #[.pointer (some ap), .pointer (some ⟨bp, 0, none⟩)]) (by kernel_rfl) (by kernel_rfl) b3 (by kernel_rfl) rfl (by simp [Value.oneCell'])) SF ?_
          refine held_done (by kernel_rfl) ?_
          have bF := b3.setRow #[.pointer (some ap), .pointer (some ⟨bp, 0, none⟩)]
          go_wp2
          go_meet
          have hDs := hDs.out
          have hs3 := h3.size
          have fs : Fr (fun k => k = D.heap.size) v2 (v2.setRow D.heap.size #[.pointer (some ap), .pointer (some ⟨bp, 0, none⟩)]) := (Fr.refl (fun k => k = D.heap.size) _).setRow (g := D.heap.size) (fun _ => rfl) _
          have gs : (v2.setRow D.heap.size #[.pointer (some ap), .pointer (some ⟨bp, 0, none⟩)]).heap.size = v2.heap.size := by simp [World.setRow]
          exact ⟨D.heap.size, bp, ap, _, _, rfl, bF, ((Q1.below L2).below h3).kept fs (fun k hk h => by omega), (Q2.below h3).kept fs (fun k hk h => by omega), fun k hk => by rw [gs]; omega, fun k hk => by rw [gs]; omega, fun k h1 h2 => by omega, by omega, Base.next hDw SF⟩
      case rest =>
        obtain ⟨d, bp, ap, S3, S4, rfl, hDb, l3, f4, s3, s4, s34, hd, hLc⟩ := hcut
        generalize wc = wy at *
        have T8 := T7.below hLc T7.lt
        have B8 := B7.below hLc B7.lt
        have hcw := hLc.size
        go_upto_region 12 with fail
        go_cut [16] from 90 to 96 (fun s wx => ∃ (d1 br : Nat) (ag : Addr) (S5 R5 S6 R6 : Nat → Prop), s = .pointer (some ⟨d1, 0, none⟩) ∧ Blk wx d1 #[.pointer (some ag), .pointer (some ⟨br, 0, none⟩)] 36 ∧ Grd S5 R5 wx ag g ∧ Gf S6 R6 wx br g ∧ (∀ k, S5 k → wy.heap.size ≤ k ∧ k < wx.heap.size ∧ k ≠ d1) ∧ (∀ k, S6 k → (wy.heap.size ≤ k ∧ k < wx.heap.size ∧ k ≠ d1) ∧ ¬ S5 k) ∧ (∀ k, R5 k → (k < wo.heap.size ∨ (wy.heap.size ≤ k ∧ k < wx.heap.size)) ∧ ¬ S6 k) ∧ (∀ k, R6 k → k < wo.heap.size) ∧ wy.heap.size ≤ d1 ∧ Below wy.heap.size wy wx)
        case first =>
          have hDw : Below wy.heap.size wy wy.drew := Base.drew1 (Below.refl _ _)
          have hDs := Lib.hid (show wy.drew.heap.size = wy.heap.size from rfl)
          have KD := B8.below hDw B8.lt
          have CPG := fun V (hV : Below wy.drew.heap.size wy.drew V) => Guard.fork_any (q3.below (Base.next hLc (Base.next hDw hV))) hc (by omega)
          have CRG := fun V (hV : Below wy.drew.heap.size wy.drew V) => ref_gfork (q4.below (Base.next hLc (Base.next hDw hV))) hc (by omega)
          refine held_start (fun v => Below wy.drew.heap.size wy.drew v) (by kernel_rfl) ?_
          generalize wy.drew = D at *
          have S0 : Below D.heap.size D D := Below.refl _ _
          have kc0 := fun V (hV : Below D.heap.size D V) => show V.cell? ⟨gb, 0, none⟩ = some (.pointer (some gp)) from (KD.below hV KD.lt).cell 0
          have kc1 := fun V (hV : Below D.heap.size D V) => show V.cell? ⟨gb, 1, none⟩ = some (.pointer (some ⟨gr, 0, none⟩)) from (KD.below hV KD.lt).cell 1
          refine held_take (i := 0) (v := .pointer (some ⟨gb, 0, none⟩)) rfl (by kernel_rfl) (by kernel_rfl) (by kernel_rfl) (fun _ _ _ h => h) (by kernel_rfl) S0 (fun _ hu => by kernel_rfl) ?_
          refine held_take (i := 1) (v := .pointer (some gp)) rfl (by kernel_rfl) (by kernel_rfl) (by kernel_rfl) (fun _ _ _ h => h) (by kernel_rfl) S0 (fun _ hu => by exact lb_any 31 (.tmp 90) rfl (by kernel_rfl) (by kernel_rfl) (kc0 _ hu)) ?_
          refine held_take (i := 3) (v := .pointer (some ⟨gb, 1, none⟩)) rfl (by kernel_rfl) (by kernel_rfl) (by kernel_rfl) (fun _ _ _ h => h) (by kernel_rfl) S0 (fun _ hu => by kernel_rfl) ?_
          refine held_take (i := 4) (v := .pointer (some ⟨gr, 0, none⟩)) rfl (by kernel_rfl) (by kernel_rfl) (by kernel_rfl) (fun _ _ _ h => h) (by kernel_rfl) S0 (fun _ hu => by exact lb_any 33 (.tmp 93) rfl (by kernel_rfl) (by kernel_rfl) (kc1 _ hu)) ?_
          refine held_two (i := 2) (j := 7) (by kernel_rfl) (op_call (i := 2) (f := 31) (args := #[.pointer (some gp)]) rfl (by kernel_rfl) (by kernel_rfl) ((CPG D S0).mono ?_)) (op_value (i := 7) (v := .pointer (some ⟨D.heap.size, 0, none⟩)) (w' := D.alloc (.cells #[.pointer none, .pointer none] 36)) rfl (by kernel_rfl) (by kernel_rfl) ⟨S0.alloc (Nat.le_refl _) _, ?_⟩)
          · rintro e v1 ⟨ag, S5, R5, rfl, Q1, i1, j1, L1⟩
            have n1 := L1.size
            refine ⟨_, rfl, L1, ?_⟩
            refine held_two (i := 5) (j := 7) (by kernel_rfl) (op_call (i := 5) (f := 32) (args := #[.pointer (some ⟨gr, 0, none⟩)]) rfl (by kernel_rfl) (by kernel_rfl) ((CRG v1 L1).mono ?_)) (op_value (i := 7) (v := .pointer (some ⟨v1.heap.size, 0, none⟩)) (w' := v1.alloc (.cells #[.pointer none, .pointer none] 36)) rfl (by kernel_rfl) (by kernel_rfl) ⟨L1.alloc n1 _, ?_⟩)
            · rintro e v2 ⟨br, rfl, Q2, L2⟩
              have n2 := L2.size
              have L12 := Base.next L1 L2
              refine ⟨_, rfl, L12, ?_⟩
              refine held_take (i := 6) (v := .agg #[.pointer (some ag), .pointer (some ⟨br, 0, none⟩)]) rfl (by kernel_rfl) (by kernel_rfl) (by kernel_rfl) (fun _ _ _ h => h) (by kernel_rfl) L12 (fun _ hu => by kernel_rfl) ?_
              refine held_one (i := 7) (v := .pointer (some ⟨v2.heap.size, 0, none⟩)) (w' := v2.alloc (.cells #[.pointer none, .pointer none] 36)) rfl (by kernel_rfl) (by kernel_rfl) (by kernel_rfl) (L12.alloc L12.size _) ?_
              have b3 := Blk.new v2 #[.pointer none, .pointer none] 36
              have h3 : Below v2.heap.size v2 (v2.alloc (.cells #[.pointer none, .pointer none] 36)) := (Below.refl _ _).alloc (Nat.le_refl _) _
              have L3 := Base.next L12 h3
              have n3 := b3.lt
              have SF : Below D.heap.size D ((v2.alloc (.cells #[.pointer none, .pointer none] 36)).setRow v2.heap.size #[.pointer (some ag), .pointer (some ⟨br, 0, none⟩)]) := bel_setRow (cs := #[.pointer (some ag), .pointer (some ⟨br, 0, none⟩)]) L3 (g := v2.heap.size) (by omega)
              refine held_st (i := 8) rfl (by kernel_rfl) (by kernel_rfl) (st_row 36 (.tmp 16) (.tmp 96) rfl (g := v2.heap.size) (cells := #[.pointer (some ag), .pointer (some ⟨br, 0, none⟩)]) (by kernel_rfl) (by kernel_rfl) b3 (by kernel_rfl) rfl (by simp [Value.oneCell'])) SF ?_
              refine held_done (by kernel_rfl) ?_
              have bF := b3.setRow #[.pointer (some ag), .pointer (some ⟨br, 0, none⟩)]
              go_wp2
              go_meet
              have hDs := hDs.out
              have hs3 := h3.size
              have fs : Fr (fun k => k = v2.heap.size) (v2.alloc (.cells #[.pointer none, .pointer none] 36)) ((v2.alloc (.cells #[.pointer none, .pointer none] 36)).setRow v2.heap.size #[.pointer (some ag), .pointer (some ⟨br, 0, none⟩)]) := (Fr.refl (fun k => k = v2.heap.size) _).setRow (g := v2.heap.size) (fun _ => rfl) _
              have gs : ((v2.alloc (.cells #[.pointer none, .pointer none] 36)).setRow v2.heap.size #[.pointer (some ag), .pointer (some ⟨br, 0, none⟩)]).heap.size = (v2.alloc (.cells #[.pointer none, .pointer none] 36)).heap.size := by simp [World.setRow]
              refine ⟨v2.heap.size, br, ag, _, _, _, _, rfl, bF, ((Q1.below L2).below h3).kept fs (fun k hk h => by have := i1 k hk; omega) (fun k hk h => ?_), (Q2.below h3).kept fs (fun k hk h => by omega) (fun k hk h => by have := q.r2 k hk.1; omega), fun k hk => by rw [gs]; have := i1 k hk; omega, fun k hk => ⟨by rw [gs]; omega, fun h => by have := i1 k h; omega⟩, fun k hk => ⟨?_, fun h => ?_⟩, fun k hk => q.r2 k hk.1, by omega, Base.next hDw SF⟩
              · rcases j1 k hk with h4 | h4
                · have := q.r1 k h4.1
                  omega
                · omega
              · rw [gs]
                rcases j1 k hk with h4 | h4
                · exact .inl (q.r1 k h4.1)
                · exact .inr (by omega)
              · rcases j1 k hk with h4 | h4
                · have := q.r1 k h4.1
                  omega
                · omega
            · have b2 := Blk.new v1 #[.pointer none, .pointer none] 36
              have h2 : Below v1.heap.size v1 (v1.alloc (.cells #[.pointer none, .pointer none] 36)) := (Below.refl _ _).alloc (Nat.le_refl _) _
              have m2 : (v1.alloc (.cells #[.pointer none, .pointer none] 36)).heap.size = v1.heap.size + 1 := by simp
              generalize v1.alloc (.cells #[.pointer none, .pointer none] 36) = u2 at *
              have L12 := Base.next L1 h2
              refine held_call (i := 5) (f := 32) (args := #[.pointer (some ⟨gr, 0, none⟩)]) rfl (by kernel_rfl) (by kernel_rfl) (by kernel_rfl) ((CRG u2 L12).mono ?_)
              rintro e v2 ⟨br, rfl, Q2, L2⟩
              have n2 := L2.size
              have b3 := b2.below L2 (by omega)
              have L3 := Base.next L12 L2
              have h3 : Below v2.heap.size v2 v2 := Below.refl _ _
              refine ⟨_, rfl, L3, ?_⟩
              refine held_take (i := 6) (v := .agg #[.pointer (some ag), .pointer (some ⟨br, 0, none⟩)]) rfl (by kernel_rfl) (by kernel_rfl) (by kernel_rfl) (fun _ _ _ h => h) (by kernel_rfl) L3 (fun _ hu => by kernel_rfl) ?_
              have SF : Below D.heap.size D (v2.setRow v1.heap.size #[.pointer (some ag), .pointer (some ⟨br, 0, none⟩)]) := bel_setRow (cs := #[.pointer (some ag), .pointer (some ⟨br, 0, none⟩)]) L3 (g := v1.heap.size) (by omega)
              refine held_st (i := 8) rfl (by kernel_rfl) (by kernel_rfl) (st_row 36 (.tmp 16) (.tmp 96) rfl (g := v1.heap.size) (cells := #[.pointer (some ag), .pointer (some ⟨br, 0, none⟩)]) (by kernel_rfl) (by kernel_rfl) b3 (by kernel_rfl) rfl (by simp [Value.oneCell'])) SF ?_
              refine held_done (by kernel_rfl) ?_
              have bF := b3.setRow #[.pointer (some ag), .pointer (some ⟨br, 0, none⟩)]
              go_wp2
              go_meet
              have hDs := hDs.out
              have hs3 := h3.size
              have fs : Fr (fun k => k = v1.heap.size) v2 (v2.setRow v1.heap.size #[.pointer (some ag), .pointer (some ⟨br, 0, none⟩)]) := (Fr.refl (fun k => k = v1.heap.size) _).setRow (g := v1.heap.size) (fun _ => rfl) _
              have gs : (v2.setRow v1.heap.size #[.pointer (some ag), .pointer (some ⟨br, 0, none⟩)]).heap.size = v2.heap.size := by simp [World.setRow]
              refine ⟨v1.heap.size, br, ag, _, _, _, _, rfl, bF, ((Q1.below (Base.next h2 L2)).below h3).kept fs (fun k hk h => by have := i1 k hk; omega) (fun k hk h => ?_), (Q2.below h3).kept fs (fun k hk h => by omega) (fun k hk h => by have := q.r2 k hk.1; omega), fun k hk => by rw [gs]; have := i1 k hk; omega, fun k hk => ⟨by rw [gs]; omega, fun h => by have := i1 k h; omega⟩, fun k hk => ⟨?_, fun h => ?_⟩, fun k hk => q.r2 k hk.1, by omega, Base.next hDw SF⟩
              · rcases j1 k hk with h4 | h4
                · have := q.r1 k h4.1
                  omega
                · omega
              · rw [gs]
                rcases j1 k hk with h4 | h4
                · exact .inl (q.r1 k h4.1)
                · exact .inr (by omega)
              · rcases j1 k hk with h4 | h4
                · have := q.r1 k h4.1
                  omega
                · omega
          · have b1 := Blk.new D #[.pointer none, .pointer none] 36
            have h1 : Below D.heap.size D (D.alloc (.cells #[.pointer none, .pointer none] 36)) := (Below.refl _ _).alloc (Nat.le_refl _) _
            have m1 : (D.alloc (.cells #[.pointer none, .pointer none] 36)).heap.size = D.heap.size + 1 := by simp
            generalize D.alloc (.cells #[.pointer none, .pointer none] 36) = u1 at *
            refine held_call (i := 2) (f := 31) (args := #[.pointer (some gp)]) rfl (by kernel_rfl) (by kernel_rfl) (by kernel_rfl) ((CPG u1 h1).mono ?_)
            rintro e v1 ⟨ag, S5, R5, rfl, Q1, i1, j1, L1⟩
            have n1 := L1.size
            have b2 := b1.below L1 (by omega)
            have L12 := Base.next h1 L1
            refine ⟨_, rfl, L12, ?_⟩
            refine held_call (i := 5) (f := 32) (args := #[.pointer (some ⟨gr, 0, none⟩)]) rfl (by kernel_rfl) (by kernel_rfl) (by kernel_rfl) ((CRG v1 L12).mono ?_)
            rintro e v2 ⟨br, rfl, Q2, L2⟩
            have n2 := L2.size
            have b3 := b2.below L2 (by omega)
            have L3 := Base.next L12 L2
            have h3 : Below v2.heap.size v2 v2 := Below.refl _ _
            refine ⟨_, rfl, L3, ?_⟩
            refine held_take (i := 6) (v := .agg #[.pointer (some ag), .pointer (some ⟨br, 0, none⟩)]) rfl (by kernel_rfl) (by kernel_rfl) (by kernel_rfl) (fun _ _ _ h => h) (by kernel_rfl) L3 (fun _ hu => by kernel_rfl) ?_
            have SF : Below D.heap.size D (v2.setRow D.heap.size #[.pointer (some ag), .pointer (some ⟨br, 0, none⟩)]) := bel_setRow (cs := #[.pointer (some ag), .pointer (some ⟨br, 0, none⟩)]) L3 (g := D.heap.size) (by omega)
            refine held_st (i := 8) rfl (by kernel_rfl) (by kernel_rfl) (st_row 36 (.tmp 16) (.tmp 96) rfl (g := D.heap.size) (cells := #[.pointer (some ag), .pointer (some ⟨br, 0, none⟩)]) (by kernel_rfl) (by kernel_rfl) b3 (by kernel_rfl) rfl (by simp [Value.oneCell'])) SF ?_
            refine held_done (by kernel_rfl) ?_
            have bF := b3.setRow #[.pointer (some ag), .pointer (some ⟨br, 0, none⟩)]
            go_wp2
            go_meet
            have hDs := hDs.out
            have hs3 := h3.size
            have fs : Fr (fun k => k = D.heap.size) v2 (v2.setRow D.heap.size #[.pointer (some ag), .pointer (some ⟨br, 0, none⟩)]) := (Fr.refl (fun k => k = D.heap.size) _).setRow (g := D.heap.size) (fun _ => rfl) _
            have gs : (v2.setRow D.heap.size #[.pointer (some ag), .pointer (some ⟨br, 0, none⟩)]).heap.size = v2.heap.size := by simp [World.setRow]
            refine ⟨D.heap.size, br, ag, _, _, _, _, rfl, bF, ((Q1.below L2).below h3).kept fs (fun k hk h => by have := i1 k hk; omega) (fun k hk h => ?_), (Q2.below h3).kept fs (fun k hk h => by omega) (fun k hk h => by have := q.r2 k hk.1; omega), fun k hk => by rw [gs]; have := i1 k hk; omega, fun k hk => ⟨by rw [gs]; omega, fun h => by have := i1 k h; omega⟩, fun k hk => ⟨?_, fun h => ?_⟩, fun k hk => q.r2 k hk.1, by omega, Base.next hDw SF⟩
            · rcases j1 k hk with h4 | h4
              · have := q.r1 k h4.1
                omega
              · omega
            · rw [gs]
              rcases j1 k hk with h4 | h4
              · exact .inl (q.r1 k h4.1)
              · exact .inr (by omega)
            · rcases j1 k hk with h4 | h4
              · have := q.r1 k h4.1
                omega
              · omega
        case rest =>
          obtain ⟨d1, br, ag, S5, R5, S6, R6, rfl, hEb, g5, g6, s5, s6, r5, r6, hd1, hLd⟩ := hcut
          have hdv := hLd.size
          have D9 := hDb.below hLd hDb.lt
          have hLV := Base.next hLc hLd
          have hdd := hDb.lt
          have hc1 : ∀ k, (fun k => wo.heap.size ≤ k ∧ k ≠ d ∧ k ≠ d1) k → wo.heap.size ≤ k ∧ k ≠ d ∧ k ≠ d1 := fun k h => h
          have hc2 : ∀ k, wo.heap.size ≤ k → k ≠ d → k ≠ d1 → (fun k => wo.heap.size ≤ k ∧ k ≠ d ∧ k ≠ d1) k := fun k h1 h2 h3 => ⟨h1, h2, h3⟩
          have QV : Quar (fun k => wo.heap.size ≤ k ∧ k ≠ d ∧ k ≠ d1) (fun _ => False) (fun _ => False) wc wc ap bp ag br l l g g :=
            Quar.of (l3.below hLd) (f4.below hLd) g5 g6 (fun k hk => by have := s3 k hk; exact ⟨by omega, by omega, by omega, by omega⟩) (fun k hk => by have := s4 k hk; exact ⟨by omega, by omega, by omega, by omega⟩) (fun k hk => by have := s5 k hk; exact ⟨by omega, by omega, by omega, by omega⟩) (fun k hk => by have := (s6 k hk).1; exact ⟨by omega, by omega, by omega, by omega⟩)
              (fun k hk => by
                have := (r5 k hk).1
                exact ⟨by omega, fun h => by have := s3 k h; omega, fun h => by have := s4 k h; omega, (r5 k hk).2⟩)
              (fun k hk => by
                have := r6 k hk
                exact ⟨by omega, fun h => by have := s3 k h; omega, fun h => by have := s4 k h; omega, fun h => by have := s5 k h; omega⟩) s34
              (fun k hk => by
                have := s5 k hk
                exact ⟨fun h => by have := s3 k h; omega, fun h => by have := s4 k h; omega⟩)
              (fun k hk => by
                have := (s6 k hk).1
                exact ⟨fun h => by have := s3 k h; omega, fun h => by have := s4 k h; omega, (s6 k hk).2⟩)
          have hc0 : ∀ k, (fun k => wo.heap.size ≤ k ∧ k ≠ d ∧ k ≠ d1) k → w.heap.size ≤ k := fun k h => by have := h.1; have := hL.size; omega
          have hwV := hLV.size
          generalize (fun k => wo.heap.size ≤ k ∧ k ≠ d ∧ k ≠ d1) = AC at *
          have CS := same_any QV hc (by omega)
          have e0 : wc.cell? ⟨d1, 0, none⟩ = some (.pointer (some ag)) := hEb.cell 0
          have e1 : wc.cell? ⟨d1, 1, none⟩ = some (.pointer (some ⟨br, 0, none⟩)) := hEb.cell 1
          have hel := hEb.lt
          have hMV := Base.next hL hLV
          clear l3 f4 g5 g6 s3 s4 s5 s6 r5 r6 s34 q q1 q2 q3 q4
          go_wp2_with (go_at_call 15; refine CS.mono ?_; rintro e X ⟨rfl, L5⟩)
          have Q6 := (QV.next L5).at_ fun k hk => hc2 k (by omega) (by omega) (by omega)
          have hF6 : Fr AC wc X := Fr.of_below L5
          have hTV := T8.below hLd T8.lt
          have hBV := B8.below hLd B8.lt
          clear QV CS e0 e1 T8 B8
          go_loopw [17, 18, 19] (fun i pp ok wv => ∃ (m : Nat) (g' : Gd) (l' : Lg), m ≤ z3.length ∧ i = .int .i64 m ∧ Cb g' (t + m) ∧ l'.l.length = g0.l.length ∧ Quar AC (fun _ => False) (fun _ => False) wv wv ap bp ag br l' l' g' g' ∧ Fr AC wc wv) (fun i _ _ _ => z3.length - (intOf i).toNat)
          case atStart => exact ⟨0, g, l, Nat.zero_le _, rfl, hc, hl, Q6, hF6⟩
          case round =>
            obtain ⟨m, G, Lz, hm, rfl, hC, hlz, QW, hFW⟩ := hrel
            have wsl := w3
            have fsl := f3
            clear Q6 hF6 L5
            have hLW : Below w.heap.size w wr := hMV.trans (hFW.toBelow' (B := w.heap.size) hMV.size fun k _ hk => hc0 k hk)
            have T9 := D9.kept hFW (fun h => (hc1 _ h).2.1 rfl)
            have B9 := hEb.kept hFW (fun h => (hc1 _ h).2.2 rfl)
            have hUw := hFW.size
            by_cases hlt : m < z3.length
            · have hlI : (m : Int) < (z3.length : Int) := by omega
              obtain ⟨bz, off, rfl, hbz, ds⟩ := wsl.at_ hlt
              have hFit := fsl (z3.getD m sh0) (by simp [List.getD, hlt])
              generalize z3.getD m sh0 = s at *
              replace ds : ∀ j x, (shC s)[j]? = some x → wr.cell? ⟨bz, off + m * 9 + j, none⟩ = some x := fun j x hj => by
                rw [hLW.cell (p := ⟨bz, off + m * 9 + j, none⟩) hbz]
                exact ds j x hj
              have hbw : bz < wr.heap.size := Nat.lt_of_lt_of_le hbz hLW.size
              go_upto_region 18 with fail
              have hD : Below wr.heap.size wr wr.drew := Base.drew1 (Below.refl _ _)
              have hLD : Below w.heap.size w wr.drew := Base.next hLW hD
              have hAD : ∀ k, wr.drew.heap.size ≤ k → AC k := fun k hk => hc2 k (by have := hUw; have := hD.size; omega) (by have := hUw; have := hD.size; omega) (by have := hUw; have := hD.size; omega)
              have QD : Quar AC (fun _ => False) (fun _ => False) wr.drew wr.drew ap bp ag br Lz Lz G G := (QW.drew).at_ fun k hk => hc2 k (by omega) (by omega) (by omega)
              have hFD : Fr AC wc wr.drew := hFW.trans (T := fun _ => False) (Fr.of_below hD) fun _ _ h => h.elim
              have S0 : Fr AC wr.drew wr.drew := Fr.refl _ _
              have BD := B9.below hD B9.lt
              have TD := T9.below hD T9.lt
              have hwD : w.heap.size ≤ wr.drew.heap.size := hLD.size
              have dsD : ∀ j x, (shC s)[j]? = some x → wr.drew.cell? ⟨bz, off + m * 9 + j, none⟩ = some x := fun j x hj => ds j x hj
              have hok : Ok Lz := QW.ok
              have hBk : ∀ k, k < w.heap.size → k < wr.drew.heap.size ∧ ¬ AC k := fun k hk => ⟨by omega, fun h => by have := hc0 _ h; omega⟩
              have hnow0 : 0 ≤ (30 + (m : Int)) := by omega
              have hnow1 : (30 + (m : Int)) ≤ 18446744073709551615 := by omega
              have CF := fun V (QW : Quar AC (fun _ => False) (fun _ => False) wr.drew V ap bp ag br Lz Lz G G) (hb : Below w.heap.size w V) => quar_frame QW (by omega) hb hFit
              have CT := fun V (hV : Below wr.drew.heap.size wr.drew V) p n c fr hfn hnc hnm hby (hrow : RowIn (fun k => k < w.heap.size ∨ wr.drew.heap.size ≤ k) V p (fr.map (.int .u8))) => take_both (QD.with_ hV (fun k => k < w.heap.size) hBk) hC (by omega) (by omega) p n c fr hfn hnc hnm hby (hrow.mono fun k hk h => h.imp id fun h => ⟨h, hk⟩) (30 + (m : Int)) hnow0 hnow1
              have zB := fun V (hV : Fr AC wr.drew V) => show V.rangeAt d1 0 [.pointer (some ag), .pointer (some ⟨br, 0, none⟩)] from Blk.range (BD.kept hV (fun h => (hc1 _ h).2.2 rfl)) (fun j u hj => by rw [Nat.zero_add]; rcases j with _ | _ | j <;> first | exact hj | simp at hj)
              have zT := fun V (hV : Fr AC wr.drew V) => show V.rangeAt d 0 [.pointer (some ap), .pointer (some ⟨bp, 0, none⟩)] from Blk.range (TD.kept hV (fun h => (hc1 _ h).2.1 rfl)) (fun j u hj => by rw [Nat.zero_add]; rcases j with _ | _ | j <;> first | exact hj | simp at hj)
              have zS := fun V (hV : Fr AC wr.drew V) => show V.rangeAt bz (off + m * 9) (shC s) from fun j x hj => by
                rw [hV.cell (p := ⟨bz, off + m * 9 + j, none⟩) (Nat.lt_of_lt_of_le hbz hwD) (fun h => absurd (show w.heap.size ≤ bz from hc0 _ h) (by omega))]
                exact dsD j x hj
              refine held_start (fun v => Fr AC wr.drew v) (by kernel_rfl) ?_
              generalize wr.drew = D at *
              refine held_take (i := 0) (v := .agg #[.pointer (some ag), .pointer (some ⟨br, 0, none⟩)]) rfl (by kernel_rfl) (by kernel_rfl) (by kernel_rfl) (fun _ _ _ h => h) (by kernel_rfl) S0 (fun _ hu => by exact lb_mid 36 (.tmp 16) rfl (by kernel_rfl) (zB _ hu) Tryz.underlying36 rfl (by kernel_rfl)) ?_
              refine held_take (i := 1) (v := .agg #[.pointer (some ap), .pointer (some ⟨bp, 0, none⟩)]) rfl (by kernel_rfl) (by kernel_rfl) (by kernel_rfl) (fun _ _ _ h => h) (by kernel_rfl) S0 (fun _ hu => by exact lb_mid 28 (.tmp 15) rfl (by kernel_rfl) (zT _ hu) Tryz.underlying28 rfl (by kernel_rfl)) ?_
              refine held_take (i := 2) (v := .slice (some ⟨bz, off, none⟩) z3.length cap3) rfl (by kernel_rfl) (by kernel_rfl) (by kernel_rfl) (fun _ _ _ h => h) (by kernel_rfl) S0 (fun _ hu => by kernel_rfl) ?_
              refine held_take (i := 3) (v := .int .i64 m) rfl (by kernel_rfl) (by kernel_rfl) (by kernel_rfl) (fun _ _ _ h => h) (by kernel_rfl) S0 (fun _ hu => by kernel_rfl) ?_
              refine held_take (i := 4) (v := .pointer (some ⟨bz, off + m * 9, none⟩)) rfl (by kernel_rfl) (by kernel_rfl) (by kernel_rfl) (fun _ _ _ h => h) (by kernel_rfl) S0 (fun _ hu => by exact ix_shots (.tmp 114) (.tmp 115) (n := z3.length) (cap := cap3) rfl (by kernel_rfl) (by kernel_rfl) hlt) ?_
              refine held_take (i := 5) (v := .agg (shC s).toArray) rfl (by kernel_rfl) (by kernel_rfl) (by kernel_rfl) (fun _ _ _ h => h) (by kernel_rfl) S0 (fun _ hu => by exact lb_mid 42 (.tmp 116) rfl (by kernel_rfl) (zS _ hu) Tryz.underlying42 rfl (by kernel_rfl)) ?_
              refine held_take (i := 6) (v := .agg #[.pointer (some ap), .pointer (some ⟨bp, 0, none⟩)]) rfl (by kernel_rfl) (by kernel_rfl) (by kernel_rfl) (fun _ _ _ h => h) (by kernel_rfl) S0 (fun _ hu => by exact lb_mid 28 (.tmp 15) rfl (by kernel_rfl) (zT _ hu) Tryz.underlying28 rfl (by kernel_rfl)) ?_
              refine held_take (i := 8) (v := .int .i64 m) rfl (by kernel_rfl) (by kernel_rfl) (by kernel_rfl) (fun _ _ _ h => h) (by kernel_rfl) S0 (fun _ hu => by kernel_rfl) ?_
              refine held_take (i := 9) (v := .int .i64 (30 + (m : Int))) rfl (by kernel_rfl) (by kernel_rfl) (by kernel_rfl) (fun _ _ _ h => h) (by kernel_rfl) S0 (fun _ hu => by exact ad_any (.const (.int .i64 30)) (.tmp 120) rfl rfl (by kernel_rfl) (by omega) (by omega)) ?_
              refine held_take (i := 10) (v := .int .u64 (30 + (m : Int))) rfl (by kernel_rfl) (by kernel_rfl) (by kernel_rfl) (fun _ _ _ h => h) (by kernel_rfl) S0 (fun _ hu => by exact cv_any (.tmp 121) rfl (by kernel_rfl) (by omega) (by omega)) ?_
              refine held_two (i := 7) (j := 15) (by kernel_rfl) (op_call (i := 7) (f := 14) (args := #[.agg (shC s).toArray, .agg #[.pointer (some ap), .pointer (some ⟨bp, 0, none⟩)]]) rfl (by kernel_rfl) (by kernel_rfl) ((CF D QD hLD).mono ?_)) (op_value (i := 15) (v := .pointer (some ⟨D.heap.size, 0, none⟩)) (w' := D.alloc (.cells #[.int .i64 0, .int .i64 0, .int .u64 0, .bool false] 44)) rfl (by kernel_rfl) (by kernel_rfl) ⟨S0.alloc _, ?_⟩)
              · rintro e w5 ⟨p, n, c, fr, rfl, hfn, hnc, hnm, hby, hrow, L5⟩
                have S5 : Fr AC D w5 := S0.trans (T := fun _ => False) (Fr.of_below L5) (fun _ _ h => h.elim)
                have hcb2 := cb_take hC hok hby hnow0 hnow1
                have hlen2 := len_take G Lz fr (30 + (m : Int))
                refine ⟨_, rfl, S5, ?_⟩
                refine held_two (i := 11) (j := 15) (by kernel_rfl) (op_call (i := 11) (f := 13) (args := #[.agg #[.pointer (some ag), .pointer (some ⟨br, 0, none⟩)], .agg #[.pointer (some ap), .pointer (some ⟨bp, 0, none⟩)], .slice p n c, .int .u64 (30 + (m : Int))]) rfl (by kernel_rfl) (by kernel_rfl) ((CT w5 L5 p n c fr hfn hnc hnm hby hrow).mono ?_)) (op_value (i := 15) (v := .pointer (some ⟨w5.heap.size, 0, none⟩)) (w' := w5.alloc (.cells #[.int .i64 0, .int .i64 0, .int .u64 0, .bool false] 44)) rfl (by kernel_rfl) (by kernel_rfl) ⟨S5.alloc _, ?_⟩)
                · rintro e w6 ⟨rfl, Q6, F6⟩
                  have S6 := Q6.fr
                  clear CT CF
                  generalize takeT G Lz fr (30 + (m : Int)) = X at *
                  refine ⟨_, rfl, S6, ?_⟩
                  refine held_take (i := 12) (v := .tuple #[.agg (vcells X.v), .bool true]) rfl (by kernel_rfl) (by kernel_rfl) (by kernel_rfl) (fun _ _ _ h => h) (by kernel_rfl) S6 (fun _ hu => by kernel_rfl) ?_
                  refine held_take (i := 13) (v := .agg (vcells X.v)) rfl (by kernel_rfl) (by kernel_rfl) (by kernel_rfl) (fun _ _ _ h => h) (by kernel_rfl) S6 (fun _ hu => by kernel_rfl) ?_
                  refine held_take (i := 14) (v := .bool true) rfl (by kernel_rfl) (by kernel_rfl) (by kernel_rfl) (fun _ _ _ h => h) (by kernel_rfl) S6 (fun _ hu => by kernel_rfl) ?_
                  refine held_one (i := 15) (v := .pointer (some ⟨w6.heap.size, 0, none⟩)) (w' := w6.alloc (.cells #[.int .i64 0, .int .i64 0, .int .u64 0, .bool false] 44)) rfl (by kernel_rfl) (by kernel_rfl) (by kernel_rfl) (S6.alloc _) ?_
                  have h7 : Below w6.heap.size w6 (w6.alloc (.cells #[.int .i64 0, .int .i64 0, .int .u64 0, .bool false] 44)) := (Below.refl _ _).alloc (Nat.le_refl _) _
                  have b7 := Blk.new w6 #[.int .i64 0, .int .i64 0, .int .u64 0, .bool false] 44
                  have S7 := S6.alloc (.cells #[.int .i64 0, .int .i64 0, .int .u64 0, .bool false] 44)
                  have Q7 := Q6.more h7
                  have z6 := S6.size
                  have n7 := b7.lt
                  have SF := S7.setRow (g := w6.heap.size) (fun h => by omega) (vcells X.v)
                  refine held_st (i := 16) rfl (by kernel_rfl) (by kernel_rfl) (st_row 44 (.tmp 18) (.tmp 124) rfl (g := w6.heap.size) (cells := vcells X.v) (by kernel_rfl) (by kernel_rfl) b7 (by kernel_rfl) rfl (by simp [vcells, Value.oneCell'])) SF ?_
                  refine held_take (i := 17) (v := .bool true) rfl (by kernel_rfl) (by kernel_rfl) (by kernel_rfl) (fun _ _ _ h => h) (by kernel_rfl) SF (fun _ hu => by kernel_rfl) ?_
                  refine held_done (by kernel_rfl) ?_
                  have QF := ((Q7).set (b := w6.heap.size) (.inr ⟨Nat.le_refl _, n7⟩) (by omega) (vcells X.v)).bare
                  go_wp2
                  all_goals go_roundw
                  case rel => exact ⟨m + 1, X.g, X.l, by omega, by go_num, hcb2, by omega, QF.at_ hAD, hFD.trans QF.fr fun _ _ h => h⟩
                  case measure => simp only [intOf]; omega
                · have h6 : Below w5.heap.size w5 (w5.alloc (.cells #[.int .i64 0, .int .i64 0, .int .u64 0, .bool false] 44)) := (Below.refl _ _).alloc (Nat.le_refl _) _
                  have b6 := Blk.new w5 #[.int .i64 0, .int .i64 0, .int .u64 0, .bool false] 44
                  have z5 := L5.size
                  have n6 := b6.lt
                  have S6 := S5.alloc (.cells #[.int .i64 0, .int .i64 0, .int .u64 0, .bool false] 44)
                  have row6 := hrow.kept (T := fun _ => False) (Fr.of_below h6) (fun _ _ h => h)
                  have C6 := CT _ (Base.next L5 h6) p n c fr hfn hnc hnm hby row6
                  generalize w5.alloc (.cells #[.int .i64 0, .int .i64 0, .int .u64 0, .bool false] 44) = v6 at *
                  refine held_call (i := 11) (f := 13) (args := #[.agg #[.pointer (some ag), .pointer (some ⟨br, 0, none⟩)], .agg #[.pointer (some ap), .pointer (some ⟨bp, 0, none⟩)], .slice p n c, .int .u64 (30 + (m : Int))]) rfl (by kernel_rfl) (by kernel_rfl) (by kernel_rfl) (C6.mono ?_)
                  rintro e w7 ⟨rfl, Q7, F7⟩
                  have S7 := Q7.fr
                  have b7 := b6.kept F7 (fun h => h (.inr ⟨z5, n6⟩))
                  clear CT CF C6
                  generalize takeT G Lz fr (30 + (m : Int)) = X at *
                  refine ⟨_, rfl, S7, ?_⟩
                  refine held_take (i := 12) (v := .tuple #[.agg (vcells X.v), .bool true]) rfl (by kernel_rfl) (by kernel_rfl) (by kernel_rfl) (fun _ _ _ h => h) (by kernel_rfl) S7 (fun _ hu => by kernel_rfl) ?_
                  refine held_take (i := 13) (v := .agg (vcells X.v)) rfl (by kernel_rfl) (by kernel_rfl) (by kernel_rfl) (fun _ _ _ h => h) (by kernel_rfl) S7 (fun _ hu => by kernel_rfl) ?_
                  refine held_take (i := 14) (v := .bool true) rfl (by kernel_rfl) (by kernel_rfl) (by kernel_rfl) (fun _ _ _ h => h) (by kernel_rfl) S7 (fun _ hu => by kernel_rfl) ?_
                  have SF := S7.setRow (g := w5.heap.size) (fun h => by omega) (vcells X.v)
                  refine held_st (i := 16) rfl (by kernel_rfl) (by kernel_rfl) (st_row 44 (.tmp 18) (.tmp 124) rfl (g := w5.heap.size) (cells := vcells X.v) (by kernel_rfl) (by kernel_rfl) b7 (by kernel_rfl) rfl (by simp [vcells, Value.oneCell'])) SF ?_
                  refine held_take (i := 17) (v := .bool true) rfl (by kernel_rfl) (by kernel_rfl) (by kernel_rfl) (fun _ _ _ h => h) (by kernel_rfl) SF (fun _ hu => by kernel_rfl) ?_
                  refine held_done (by kernel_rfl) ?_
                  have QF := ((Q7).set (b := w5.heap.size) ⟨z5, n6⟩ (by omega) (vcells X.v)).bare
                  go_wp2
                  all_goals go_roundw
                  case rel => exact ⟨m + 1, X.g, X.l, by omega, by go_num, hcb2, by omega, QF.at_ hAD, hFD.trans QF.fr fun _ _ h => h⟩
                  case measure => simp only [intOf]; omega
              · have h5 : Below D.heap.size D (D.alloc (.cells #[.int .i64 0, .int .i64 0, .int .u64 0, .bool false] 44)) := (Below.refl _ _).alloc (Nat.le_refl _) _
                have b5 := Blk.new D #[.int .i64 0, .int .i64 0, .int .u64 0, .bool false] 44
                have n5 := b5.lt
                have S5 := S0.alloc (.cells #[.int .i64 0, .int .i64 0, .int .u64 0, .bool false] 44)
                have C5 := CF _ (QD.next h5) (Base.next hLD h5)
                generalize D.alloc (.cells #[.int .i64 0, .int .i64 0, .int .u64 0, .bool false] 44) = v5 at *
                refine held_call (i := 7) (f := 14) (args := #[.agg (shC s).toArray, .agg #[.pointer (some ap), .pointer (some ⟨bp, 0, none⟩)]]) rfl (by kernel_rfl) (by kernel_rfl) (by kernel_rfl) (C5.mono ?_)
                rintro e w6 ⟨p, n, c, fr, rfl, hfn, hnc, hnm, hby, hrow, L6⟩
                have hcb2 := cb_take hC hok hby hnow0 hnow1
                have hlen2 := len_take G Lz fr (30 + (m : Int))
                have z5 := h5.size
                have z6 := L6.size
                have b6 := b5.below L6 n5
                have L6' := Base.next h5 L6
                have S6 : Fr AC D w6 := Fr.of_below L6'
                have C6 := CT _ L6' p n c fr hfn hnc hnm hby (hrow.mono fun k _ h => h.imp id fun h => by omega)
                refine ⟨_, rfl, S6, ?_⟩
                refine held_call (i := 11) (f := 13) (args := #[.agg #[.pointer (some ag), .pointer (some ⟨br, 0, none⟩)], .agg #[.pointer (some ap), .pointer (some ⟨bp, 0, none⟩)], .slice p n c, .int .u64 (30 + (m : Int))]) rfl (by kernel_rfl) (by kernel_rfl) (by kernel_rfl) (C6.mono ?_)
                rintro e w7 ⟨rfl, Q7, F7⟩
                have S7 := Q7.fr
                have b7 := b6.kept F7 (fun h => h (.inr ⟨Nat.le_refl _, by omega⟩))
                clear CT CF C6 C5
                generalize takeT G Lz fr (30 + (m : Int)) = X at *
                refine ⟨_, rfl, S7, ?_⟩
                refine held_take (i := 12) (v := .tuple #[.agg (vcells X.v), .bool true]) rfl (by kernel_rfl) (by kernel_rfl) (by kernel_rfl) (fun _ _ _ h => h) (by kernel_rfl) S7 (fun _ hu => by kernel_rfl) ?_
                refine held_take (i := 13) (v := .agg (vcells X.v)) rfl (by kernel_rfl) (by kernel_rfl) (by kernel_rfl) (fun _ _ _ h => h) (by kernel_rfl) S7 (fun _ hu => by kernel_rfl) ?_
                refine held_take (i := 14) (v := .bool true) rfl (by kernel_rfl) (by kernel_rfl) (by kernel_rfl) (fun _ _ _ h => h) (by kernel_rfl) S7 (fun _ hu => by kernel_rfl) ?_
                have SF := S7.setRow (g := D.heap.size) (fun h => by omega) (vcells X.v)
                refine held_st (i := 16) rfl (by kernel_rfl) (by kernel_rfl) (st_row 44 (.tmp 18) (.tmp 124) rfl (g := D.heap.size) (cells := vcells X.v) (by kernel_rfl) (by kernel_rfl) b7 (by kernel_rfl) rfl (by simp [vcells, Value.oneCell'])) SF ?_
                refine held_take (i := 17) (v := .bool true) rfl (by kernel_rfl) (by kernel_rfl) (by kernel_rfl) (fun _ _ _ h => h) (by kernel_rfl) SF (fun _ hu => by kernel_rfl) ?_
                refine held_done (by kernel_rfl) ?_
                have QF := ((Q7).set (b := D.heap.size) ⟨Nat.le_refl _, by omega⟩ (by omega) (vcells X.v)).bare
                go_wp2
                all_goals go_roundw
                case rel => exact ⟨m + 1, X.g, X.l, by omega, by go_num, hcb2, by omega, QF.at_ hAD, hFD.trans QF.fr fun _ _ h => h⟩
                case measure => simp only [intOf]; omega
            · have hlI : ¬ (m : Int) < (z3.length : Int) := by omega
              have hB := hLV.trans (hFW.toBelow' (B := wo.heap.size) hwV fun k hk h => (hc1 k h).1)
              have Qo := fun V (hV : Below wr.heap.size wr V) => Q.next (hB.trans (hV.mono hB.size))
              have CS1 := fun V hV => same_any (Qo V hV) hc (by omega)
              have CT := fun V hV => quar_two (Qo V hV) (by omega)
              have CS2 := fun V (hV : Below wr.heap.size wr V) => same_any (QW.next hV) hC (by omega)
              have BW := hBV.kept hFW (fun h => by have := (hc1 _ h).1; omega)
              have TW := hTV.kept hFW (fun h => by have := (hc1 _ h).1; omega)
              have c0 : wr.cell? ⟨gb, 0, none⟩ = some (.pointer (some gp)) := BW.cell 0
              have c1 : wr.cell? ⟨gb, 1, none⟩ = some (.pointer (some ⟨gr, 0, none⟩)) := BW.cell 1
              have kt0 := fun V (hV : Below wr.heap.size wr V) => show V.cell? ⟨tb, 0, none⟩ = some (.pointer (some a)) from (TW.below hV TW.lt).cell 0
              have kt1 := fun V (hV : Below wr.heap.size wr V) => show V.cell? ⟨tb, 1, none⟩ = some (.pointer (some ⟨b, 0, none⟩)) from (TW.below hV TW.lt).cell 1
              have ke0 := fun V (hV : Below wr.heap.size wr V) => show V.cell? ⟨d1, 0, none⟩ = some (.pointer (some ag)) from (B9.below hV B9.lt).cell 0
              have ke1 := fun V (hV : Below wr.heap.size wr V) => show V.cell? ⟨d1, 1, none⟩ = some (.pointer (some ⟨br, 0, none⟩)) from (B9.below hV B9.lt).cell 1
              have lb1 := BW.lt
              have lb2 := TW.lt
              have lb3 := B9.lt
              clear QW Q Qo
              go_wp2_with (first
                | (go_at_call 15; (with_reducible refine (CS1 _ (Below.refl _ _)).mono ?_); rintro e x1 ⟨rfl, N1⟩; have i0 := kt0 _ N1; have i1 := kt1 _ N1; have ls1 := N1.size)
                | (go_at_call 33; (with_reducible refine (CT _ N1).mono ?_); rintro e x2 ⟨rfl, N2⟩; have N12 := Base.next N1 N2; have j0 := ke0 _ N12; have j1 := ke1 _ N12; have ls2 := N12.size)
                | (go_at_call 15; (with_reducible refine (CS2 _ N12).mono ?_); rintro e x3 ⟨rfl, N3⟩; have N13 := Base.next N12 N3))
              all_goals go_ret
              all_goals exact ⟨rfl, Base.next hLW N13⟩

set_option maxRecDepth 100000 in
theorem lifted (os : Os) (started : os.Started) (H : Type) (enc : TypeId × Value → H) :
    ReturnsInHanded {} Tryz.checked os 8 .any (Rows.guardForksSpec.pre6 enc Tryz.prog Tryz.f8 Rows.guardForksRow.domain false) (Rows.guardForksSpec.post enc Tryz.prog Tryz.f8 false true false false) := by
  refine returnsInHanded_of_change (C := Tryz.checked) own started (by kernel_rfl) Tryz.func8
    (ChangeSpec.witness6 (enc := enc) (C := Tryz.checked) false ⟨#[], #[.int .u8 0, .slice none 0 0, .slice none 0 0, .slice none 0 0], []⟩ 8 (by kernel_rfl) (by kernel_rfl) (by kernel_rfl) (by kernel_rfl)) ?_
  intro W base args ds gs before hval0 hW hcnd _
  have hval : ∀ (j : Nat) t v, Tryz.f8.params[j]? = some t → args[j]? = some v → Value.okWide Tryz.prog W .any base t v := hval0
  have hW' := hW
  obtain ⟨p, q, hA0, hV, rfl, hfz, hnd⟩ := hW
  have hA : DataW.TrodAll enc Tryz.prog W 0 (fun _ => true) true Tryz.f8.params.toList args.toList ds p := hA0
  rw [Tryz.params8] at hA hval
  obtain ⟨v0, vs0, d0, ds0, p0, q0, hargs, rfl, rfl, h0, r0⟩ := trodAll_cons hA
  obtain ⟨v1, vs1, d1, ds1, p1, q1, rfl, rfl, rfl, h1, r1⟩ := trodAll_cons r0
  obtain ⟨v2, vs2, d2, ds2, p2, q2, rfl, rfl, rfl, h2, r2⟩ := trodAll_cons r1
  obtain ⟨v3, vs3, d3, ds3, p3, q3, rfl, rfl, rfl, h3, r3⟩ := trodAll_cons r2
  obtain ⟨rfl, rfl, rfl⟩ := trodAll_nil r3
  obtain rfl : args = #[v0, v1, v2, v3] := by cases args; simp_all
  obtain ⟨rfl, rfl⟩ := trodVars_none hV
  obtain ⟨a0, rfl, rfl, rfl, w0⟩ := open_int Tryz.underlying5 (hval 0 5 v0 rfl rfl) h0
  obtain ⟨a1, len1, cap1, rfl⟩ := okWide_slice Tryz.underlying22 (hval 1 22 v1 rfl rfl)
  have k1 := h1
  have lt1 : ∀ x ∈ p1, x.block < W.heap.size := by obtain ⟨m, hm⟩ := k1; exact DataW.trod_lt m _ _ _ hm
  obtain ⟨z1, w1, n1, m1, o1, f1⟩ : ∃ zs, Deeds W a1 zs ∧ zs.length = len1 ∧ len1 ≤ cap1 ∧ cap1 ≤ maxLen ∧ (∀ d ∈ zs, Fit d) := by
    obtain ⟨fuel, hf⟩ := h1
    rcases open_deeds Tryz.underlying22 Tryz.underlying90 (by kernel_rfl) (by kernel_rfl) Tryz.underlying3 Tryz.underlying23 Tryz.underlying23 hf with ⟨hcs, hx⟩ | ⟨x, l, c, zs, E, S, hcs, hl, hm, hz, hx, hE, hS, hsp, hwz⟩
    · simp [Value.cells] at hcs
      obtain ⟨rfl, rfl, rfl⟩ := hcs
      exact ⟨[], Deeds.nil _ _, rfl, Nat.le_refl _, Nat.zero_le _, fun _ h => by cases h⟩
    · simp [Value.cells] at hcs
      obtain ⟨rfl, rfl, rfl⟩ := hcs
      exact ⟨zs, hsp, hz, hl, hm, hwz⟩
  obtain ⟨a2, len2, cap2, rfl⟩ := okWide_slice Tryz.underlying24 (hval 2 24 v2 rfl rfl)
  have k2 := h2
  have lt2 : ∀ x ∈ p2, x.block < W.heap.size := by obtain ⟨m, hm⟩ := k2; exact DataW.trod_lt m _ _ _ hm
  obtain ⟨z2, w2, n2, m2, o2, f2⟩ : ∃ zs, Shots W a2 zs ∧ zs.length = len2 ∧ len2 ≤ cap2 ∧ cap2 ≤ maxLen ∧ (∀ d ∈ zs, ShFit W d) := by
    obtain ⟨fuel, hf⟩ := h2
    rcases open_shots Tryz.underlying24 Tryz.underlying42 (by kernel_rfl) (by kernel_rfl) Tryz.underlying3 Tryz.underlying38 Tryz.underlying5 (by kernel_rfl) Tryz.underlying40 Tryz.underlying39 (by kernel_rfl) Tryz.underlying23 Tryz.underlying4 Tryz.underlying39 hf with ⟨hcs, hx⟩ | ⟨x, l, c, zs, hcs, hl, hm, hz, hsp, hwz⟩
    · simp [Value.cells] at hcs
      obtain ⟨rfl, rfl, rfl⟩ := hcs
      exact ⟨[], Shots.nil _ _, rfl, Nat.le_refl _, Nat.zero_le _, fun _ h => by cases h⟩
    · simp [Value.cells] at hcs
      obtain ⟨rfl, rfl, rfl⟩ := hcs
      exact ⟨zs, hsp, hz, hl, hm, hwz⟩
  obtain ⟨a3, len3, cap3, rfl⟩ := okWide_slice Tryz.underlying24 (hval 3 24 v3 rfl rfl)
  have k3 := h3
  have lt3 : ∀ x ∈ p3, x.block < W.heap.size := by obtain ⟨m, hm⟩ := k3; exact DataW.trod_lt m _ _ _ hm
  obtain ⟨z3, w3, n3, m3, o3, f3⟩ : ∃ zs, Shots W a3 zs ∧ zs.length = len3 ∧ len3 ≤ cap3 ∧ cap3 ≤ maxLen ∧ (∀ d ∈ zs, ShFit W d) := by
    obtain ⟨fuel, hf⟩ := h3
    rcases open_shots Tryz.underlying24 Tryz.underlying42 (by kernel_rfl) (by kernel_rfl) Tryz.underlying3 Tryz.underlying38 Tryz.underlying5 (by kernel_rfl) Tryz.underlying40 Tryz.underlying39 (by kernel_rfl) Tryz.underlying23 Tryz.underlying4 Tryz.underlying39 hf with ⟨hcs, hx⟩ | ⟨x, l, c, zs, hcs, hl, hm, hz, hsp, hwz⟩
    · simp [Value.cells] at hcs
      obtain ⟨rfl, rfl, rfl⟩ := hcs
      exact ⟨[], Shots.nil _ _, rfl, Nat.le_refl _, Nat.zero_le _, fun _ h => by cases h⟩
    · simp [Value.cells] at hcs
      obtain ⟨rfl, rfl, rfl⟩ := hcs
      exact ⟨zs, hsp, hz, hl, hm, hwz⟩
  clear hA0 hval0
  refine (walk a0 a1 len1 cap1 z1 a2 len2 cap2 z2 a3 len3 cap3 z3 W w0 w1 n1 m1 o1 f1 w2 n2 m2 o2 f2 w3 n3 m3 o3 f3).mono fun e W' ⟨he, bel⟩ => ?_
  subst he
  exact ⟨_, rfl, _, _, _, [], _, [], hW', trodAll_mk1 (shut_bool Tryz.underlying4 _), (trodAll_cons_mk (shut_int Tryz.underlying5 w0) (trodAll_cons_mk (Below.trod laidOut (by kernel_rfl) (of_decide_eq_true (by kernel_rfl)) k1 bel lt1) (trodAll_cons_mk (Below.trod laidOut (by kernel_rfl) (of_decide_eq_true (by kernel_rfl)) k2 bel lt2) (trodAll_cons_mk (Below.trod laidOut (by kernel_rfl) (of_decide_eq_true (by kernel_rfl)) k3 bel lt3) trodAll_mk0)))), rfl, bel.frame _, fun h => by cases h⟩

theorem over : Rows.guardForksRow.holds Tryz.pinned (OpenSpec.ofChange Rows.guardForksSpec) :=
  OpenClaim.holds_of_wide 8 Tryz.f8 rfl rfl rfl rfl rfl rfl rfl ⟨rfl, rfl, rfl, rfl, rfl⟩ rfl rfl rfl rfl rfl (by kernel_rfl) Tryz.func8 (by kernel_rfl)
    (of_decide_eq_true (by kernel_rfl)) (by unfold Func.isWrapper; first | (rw [if_pos (by decide +kernel)]; kernel_rfl) | (rw [if_neg (by decide +kernel)]; exact ⟨rfl, rfl⟩))
    (fun os started H enc _ => lifted os started H enc)

/-- The given statement. -/
theorem proved : Rows.GuardForksSaid :=
  over
#print axioms proved
end Go.Proofs.YtkiloaebokkjbaaGreat.guardForks
