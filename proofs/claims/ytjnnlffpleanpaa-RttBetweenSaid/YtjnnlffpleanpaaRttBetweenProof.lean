/-
  The smoothed time lies from the least to the greatest measure, the variance is at most the greatest, the least is the least. No conditions.
-/
import Derived.Test.YtjnnlffpleanpaaRows
import Derived.Test.YtjnnlffpleanpaaRow
import Derived.WalkKit
import Derived.ProofKit
import Derived.OpenShut
import Derived.ShutString
import Derived.ChangeOld
import Derived.Below
import Derived.Test.YtjnnlffpleanpaaRttAlive
import Derived.Test.YtjnnlffpleanpaaRttRow
namespace Go.Proofs.Ytjnnlffpleanpaa.rttBetween
open Go.ChangeShapes Go.WideShapes Go.ChangeAt Go.RowKit
open Go.ChangeMaps (open_string shut_string)
open Go.Proofs.Ytjnnlffpleanpaa.Base
set_option linter.unusedVariables false
set_option linter.unusedSimpArgs false

theorem own : ownKnob Try.prog.godebug = none := by kernel_rfl
theorem laidOut : laidOutB Try.prog = true := by kernel_rfl

open Go.Proofs.Ytjnnlffpleanpaa.Rtt Go.Proofs.Ytjnnlffpleanpaa.RttPlain Go.Proofs.Ytjnnlffpleanpaa.Hop
set_option maxHeartbeats 4000000 in
set_option maxRecDepth 20000 in
theorem walk (a0 : Option Addr) (len0 cap0 : Nat) (z0 : List Int) (w : World) (w0 : Ints .u64 w a0 z0) (n0 : z0.length = len0) (m0 : len0 ≤ cap0) (o0 : cap0 ≤ maxLen) (f0 : ∀ x ∈ z0, (Lit.int .u64 x).wf = true) :
    Calls Try.prog 5 #[.slice a0 len0 cap0] w fun e w' => e = .returned (.bool true) ∧ Below w.heap.size w w' := by
  subst n0
  unfold maxLen at o0
  have CA := fun V => alive_rtt V
  have hz : ∀ k, 0 ≤ z0.getD k 0 ∧ z0.getD k 0 ≤ 18446744073709551615 := fun k => by
    rw [List.getD_eq_getElem?_getD]
    cases e : z0[k]? with
    | none => simp
    | some t => exact Base.u64_of (f0 t (List.mem_of_getElem? e))
  go_enter Try.func5, Try.ntmps5
  by_cases h0 : z0.length = 0
  · have h0I : (z0.length : Int) = 0 := by omega
    go_wp2_with (first
      | (go_at_call 8; (with_reducible refine (CA w).mono ?_); rintro e u1 ⟨rfl, L1⟩)
      | (go_at_call 8; (with_reducible refine (CA u1).mono ?_); rintro e u2 ⟨rfl, L2⟩))
    all_goals go_ret
    all_goals exact ⟨rfl, Base.next L1 L2⟩
  by_cases h5 : 500 < z0.length
  · have h5I : (500 : Int) < (z0.length : Int) := by omega
    have h0I : ((z0.length : Int) == 0) = false := beq_eq_false_iff_ne.2 (by omega)
    go_wp2_with (first
      | (go_at_call 8; (with_reducible refine (CA w).mono ?_); rintro e u1 ⟨rfl, L1⟩)
      | (go_at_call 8; (with_reducible refine (CA u1).mono ?_); rintro e u2 ⟨rfl, L2⟩))
    all_goals go_ret
    all_goals exact ⟨rfl, Base.next L1 L2⟩
  have h5I : decide ((500 : Int) < (z0.length : Int)) = false := decide_eq_false (by omega)
  have h0I : ((z0.length : Int) == 0) = false := beq_eq_false_iff_ne.2 (by omega)
  go_upto_region 4 with (go_at_call 8; refine (CA w).mono ?_; rintro e u1 ⟨rfl, L1⟩)
  refine at_any ?_
  intro V hV
  obtain ⟨rB, hL⟩ : Blk V u1.heap.size #[.bool rt0.has, .int .u64 rt0.latest, .int .u64 rt0.smooth, .int .u64 rt0.dev, .int .u64 rt0.least] 24 ∧ Below w.heap.size w V := by
    subst hV
    exact ⟨Blk.new _ _ _, L1.alloc L1.size _⟩
  have hb : w.heap.size ≤ u1.heap.size := L1.size
  clear hV CA L1
  generalize u1.heap.size = rb at *
  obtain ⟨bz, off, rfl, hbz, hc0⟩ := w0.at_ (i := 0) (by omega)
  have x0c : V.cell? ⟨bz, off, none⟩ = some (.int .u64 (z0.getD 0 0)) := (hL.cell (p := ⟨bz, off, none⟩) hbz).trans hc0
  have hlI : (0 : Int) < (z0.length : Int) := by omega
  have hrl := rB.lt
  have LS : Below V.heap.size V V.drew := Base.drew1 (Below.refl _ _)
  have hX := fun U (hU : Below V.heap.size V U) => keepCell hU x0c
  refine held_start (fun v => Below V.heap.size V v) (by kernel_rfl) ?_
  refine held_take (i := 0) (v := .slice (some ⟨bz, off, none⟩) z0.length cap0) rfl (by kernel_rfl) (by kernel_rfl) (by kernel_rfl) (fun _ _ _ h => h) (by kernel_rfl) LS (fun _ hu => by kernel_rfl) ?_
  refine held_take (i := 1) (v := .pointer (some ⟨bz, off + 0, none⟩)) rfl (by kernel_rfl) (by kernel_rfl) (by kernel_rfl) (fun _ _ _ h => h) (by kernel_rfl) LS (fun _ hu => by exact ix_u64 (.tmp 20) (.const (.int .i64 0)) (n := z0.length) (cap := cap0) (t := 0) rfl (by kernel_rfl) rfl (by omega)) ?_
  refine held_take (i := 2) (v := .int .u64 (z0.getD 0 0)) rfl (by kernel_rfl) (by kernel_rfl) (by kernel_rfl) (fun _ _ _ h => h) (by kernel_rfl) LS (fun _ hu => by exact lb_any 22 (.tmp 21) rfl (by kernel_rfl) (by kernel_rfl) (hX _ hu)) ?_
  refine held_take (i := 3) (v := .slice (some ⟨bz, off, none⟩) z0.length cap0) rfl (by kernel_rfl) (by kernel_rfl) (by kernel_rfl) (fun _ _ _ h => h) (by kernel_rfl) LS (fun _ hu => by kernel_rfl) ?_
  refine held_take (i := 4) (v := .pointer (some ⟨bz, off + 0, none⟩)) rfl (by kernel_rfl) (by kernel_rfl) (by kernel_rfl) (fun _ _ _ h => h) (by kernel_rfl) LS (fun _ hu => by exact ix_u64 (.tmp 23) (.const (.int .i64 0)) (n := z0.length) (cap := cap0) (t := 0) rfl (by kernel_rfl) rfl (by omega)) ?_
  refine held_take (i := 5) (v := .int .u64 (z0.getD 0 0)) rfl (by kernel_rfl) (by kernel_rfl) (by kernel_rfl) (fun _ _ _ h => h) (by kernel_rfl) LS (fun _ hu => by exact lb_any 22 (.tmp 24) rfl (by kernel_rfl) (by kernel_rfl) (hX _ hu)) ?_
  refine held_take (i := 6) (v := .int .u64 (z0.getD 0 0)) rfl (by kernel_rfl) (by kernel_rfl) (by kernel_rfl) (fun _ _ _ h => h) (by kernel_rfl) LS (fun _ hu => by kernel_rfl) ?_
  refine held_take (i := 7) (v := .int .u64 (z0.getD 0 0)) rfl (by kernel_rfl) (by kernel_rfl) (by kernel_rfl) (fun _ _ _ h => h) (by kernel_rfl) LS (fun _ hu => by kernel_rfl) ?_
  refine held_done (by kernel_rfl) ?_
  have rD := rB.below LS rB.lt
  have hLD := Base.next hL LS
  generalize V.drew = D at *
  clear rB hL LS hX x0c
  obtain ⟨y00, y01⟩ := hz 0
  go_wp2
  go_loopw [4, 5, 6, 28] (fun lo hi _ i wr => ∃ (k : Nat) (r : Rt) (l h : Int), k ≤ z0.length ∧ i = .int .i64 k ∧ lo = .int .u64 l ∧ hi = .int .u64 h ∧ Blk wr rb #[.bool r.has, .int .u64 r.latest, .int .u64 r.smooth, .int .u64 r.dev, .int .u64 r.least] 24 ∧ RFit r ∧ Below w.heap.size w wr ∧ 0 ≤ l ∧ ((k = 0 ∧ r = rt0 ∧ l = z0.getD 0 0 ∧ h = z0.getD 0 0) ∨ Among r l h)) (fun _ _ _ i _ => z0.length - (intOf i).toNat)
  case atStart => exact ⟨0, rt0, _, _, Nat.zero_le _, rfl, rfl, rfl, rD, fit0, hLD, y00, .inl ⟨rfl, rfl, rfl, rfl⟩⟩
  case round =>
    obtain ⟨k, r, l, h, hk, rfl, rfl, rfl, rB, hr, hM, hl0, hA⟩ := hrel
    clear rD hLD
    by_cases hlt : k < z0.length
    · have hkI : (k : Int) < (z0.length : Int) := by omega
      obtain ⟨b', off', e', _, hc⟩ := w0.at_ hlt
      cases e'
      obtain ⟨x0, x1⟩ := hz k
      have hlat : (sampleR r (z0.getD k 0)).latest = z0.getD k 0 := by unfold sampleR; split <;> rfl
      have hA2 : Among (sampleR r (z0.getD k 0)) (min l (z0.getD k 0)) (max h (z0.getD k 0)) := by
        rcases hA with ⟨rfl, rfl, rfl, rfl⟩ | hA
        · rw [Int.min_self, Int.max_self]
          exact among_first rfl x0
        · exact among_next hA hr.c0 hl0 x0
      have hr2 := fit_sample hr x0 x1
      have C1 := fun V => sample_any r hr (z0.getD k 0) x0 x1 V
      simp only [rcells] at C1
      have xc : wr.cell? ⟨bz, off + k, none⟩ = some (.int .u64 (z0.getD k 0)) := (hM.cell (p := ⟨bz, off + k, none⟩) hbz).trans hc
      have hm0 : 0 ≤ min l (z0.getD k 0) := by omega
      clear hA hc
      generalize z0.getD k 0 = x at *
      generalize sampleR r x = q at *
      obtain ⟨qh, ql, qs, qd, qm⟩ := q
      obtain ⟨g1, g2, g3, g4, g5⟩ := hA2
      simp only at g1 g2 g3 g4 g5 hlat C1
      replace hlat := hlat.symm
      subst g1 g5 hlat
      have hrl := rB.lt
      have hne : bz ≠ rb := by omega
      go_upto_region 8 with fail
      have hX := fun U (hU : Fr (fun k => k = rb) wr U) => (hU.cell (p := ⟨bz, off + k, none⟩) (Nat.lt_of_lt_of_le hbz hM.size) hne).trans xc
      have RR := fun U (hU : Below wr.heap.size wr U) => rB.below hU rB.lt
      have LB : Below wr.heap.size wr wr.drew := Base.drew1 (Below.refl _ _)
      have LS : Fr (fun k => k = rb) wr wr.drew := Fr.of_below LB
      have zR : wr.drew.rangeAt rb 0 [.bool r.has, .int .u64 r.latest, .int .u64 r.smooth, .int .u64 r.dev, .int .u64 r.least] := fun j v hj => by
        rw [(RR _ LB).cell, Nat.zero_add]
        rcases j with _ | _ | _ | _ | _ | j <;> first | exact hj | simp at hj
      refine held_start (fun v => Fr (fun k => k = rb) wr v) (by kernel_rfl) ?_
      refine held_take (i := 1) (v := .slice (some ⟨bz, off, none⟩) z0.length cap0) rfl (by kernel_rfl) (by kernel_rfl) (by kernel_rfl) (fun _ _ _ h => h) (by kernel_rfl) LS (fun _ hu => by kernel_rfl) ?_
      refine held_take (i := 2) (v := .int .i64 k) rfl (by kernel_rfl) (by kernel_rfl) (by kernel_rfl) (fun _ _ _ h => h) (by kernel_rfl) LS (fun _ hu => by kernel_rfl) ?_
      refine held_take (i := 3) (v := .pointer (some ⟨bz, off + k, none⟩)) rfl (by kernel_rfl) (by kernel_rfl) (by kernel_rfl) (fun _ _ _ h => h) (by kernel_rfl) LS (fun _ hu => by exact ix_u64 (.tmp 32) (.tmp 33) (n := z0.length) (cap := cap0) (t := k) rfl (by kernel_rfl) (by kernel_rfl) hlt) ?_
      refine held_take (i := 4) (v := .int .u64 x) rfl (by kernel_rfl) (by kernel_rfl) (by kernel_rfl) (fun _ _ _ h => h) (by kernel_rfl) LS (fun _ hu => by exact lb_any 22 (.tmp 34) rfl (by kernel_rfl) (by kernel_rfl) (hX _ hu)) ?_
      refine held_one (i := 0) (v := .agg #[.bool r.has, .int .u64 r.latest, .int .u64 r.smooth, .int .u64 r.dev, .int .u64 r.least]) rfl (by kernel_rfl) (by kernel_rfl) (lb_mid 24 (.tmp 3) rfl (by kernel_rfl) zR Try.underlying24 rfl (by kernel_rfl)) LS ?_
      refine held_call (i := 5) (f := 9) (args := #[.agg #[.bool r.has, .int .u64 r.latest, .int .u64 r.smooth, .int .u64 r.dev, .int .u64 r.least], .int .u64 x]) rfl (by kernel_rfl) (by kernel_rfl) (by kernel_rfl) ((C1 _).mono ?_)
      rintro e y1 ⟨rfl, LN⟩
      replace LB := LB.trans (LN.mono LB.size)
      have LS2 : Fr (fun k => k = rb) wr y1 := Fr.of_below LB
      have rY := RR _ LB
      have SF := LS2.setRow (g := rb) (fun _ => rfl) #[.bool true, .int .u64 x, .int .u64 qs, .int .u64 qd, .int .u64 (min l x)]
      refine ⟨_, rfl, LS2, ?_⟩
      refine held_st (i := 6) rfl (by kernel_rfl) (by kernel_rfl) (st_row 24 (.tmp 3) (.tmp 36) rfl (g := rb) (cells := #[.bool true, .int .u64 x, .int .u64 qs, .int .u64 qd, .int .u64 (min l x)]) (by kernel_rfl) (by kernel_rfl) rY (by kernel_rfl) rfl (by simp [Value.oneCell'])) SF ?_
      refine held_done (by kernel_rfl) ?_
      have rW := rY.setRow #[.bool true, .int .u64 x, .int .u64 qs, .int .u64 qd, .int .u64 (min l x)]
      have hMW : Below w.heap.size w (y1.setRow rb #[.bool true, .int .u64 x, .int .u64 qs, .int .u64 qd, .int .u64 (min l x)]) := below_setRow' (hM.trans (LB.mono hM.size)) hb
      have xW := hX _ SF
      generalize y1.setRow rb #[.bool true, .int .u64 x, .int .u64 qs, .int .u64 qd, .int .u64 (min l x)] = Z at *
      clear rY LB LS LS2 SF RR zR C1 rB hX xc
      go_upto_region 9 with fail
      have hX := fun U (hU : Below Z.heap.size Z U) => keepCell hU xW
      have LS : Below Z.heap.size Z Z.drew := Base.drew1 (Below.refl _ _)
      refine held_start (fun v => Below Z.heap.size Z v) (by kernel_rfl) ?_
      refine held_take (i := 0) (v := .int .u64 l) rfl (by kernel_rfl) (by kernel_rfl) (by kernel_rfl) (fun _ _ _ h => h) (by kernel_rfl) LS (fun _ hu => by kernel_rfl) ?_
      refine held_take (i := 1) (v := .slice (some ⟨bz, off, none⟩) z0.length cap0) rfl (by kernel_rfl) (by kernel_rfl) (by kernel_rfl) (fun _ _ _ h => h) (by kernel_rfl) LS (fun _ hu => by kernel_rfl) ?_
      refine held_take (i := 2) (v := .int .i64 k) rfl (by kernel_rfl) (by kernel_rfl) (by kernel_rfl) (fun _ _ _ h => h) (by kernel_rfl) LS (fun _ hu => by kernel_rfl) ?_
      refine held_take (i := 3) (v := .pointer (some ⟨bz, off + k, none⟩)) rfl (by kernel_rfl) (by kernel_rfl) (by kernel_rfl) (fun _ _ _ h => h) (by kernel_rfl) LS (fun _ hu => by exact ix_u64 (.tmp 38) (.tmp 39) (n := z0.length) (cap := cap0) (t := k) rfl (by kernel_rfl) (by kernel_rfl) hlt) ?_
      refine held_take (i := 4) (v := .int .u64 x) rfl (by kernel_rfl) (by kernel_rfl) (by kernel_rfl) (fun _ _ _ h => h) (by kernel_rfl) LS (fun _ hu => by exact lb_any 22 (.tmp 40) rfl (by kernel_rfl) (by kernel_rfl) (hX _ hu)) ?_
      refine held_take (i := 5) (v := .int .u64 (min l x)) rfl (by kernel_rfl) (by kernel_rfl) (by kernel_rfl) (fun _ _ _ h => h) (by kernel_rfl) LS (fun _ hu => by exact mn_u64 (.tmp 37) (.tmp 41) _ (n := l) (m := x) rfl (by kernel_rfl) (by kernel_rfl)) ?_
      refine held_take (i := 6) (v := .int .u64 h) rfl (by kernel_rfl) (by kernel_rfl) (by kernel_rfl) (fun _ _ _ h => h) (by kernel_rfl) LS (fun _ hu => by kernel_rfl) ?_
      refine held_take (i := 7) (v := .slice (some ⟨bz, off, none⟩) z0.length cap0) rfl (by kernel_rfl) (by kernel_rfl) (by kernel_rfl) (fun _ _ _ h => h) (by kernel_rfl) LS (fun _ hu => by kernel_rfl) ?_
      refine held_take (i := 8) (v := .int .i64 k) rfl (by kernel_rfl) (by kernel_rfl) (by kernel_rfl) (fun _ _ _ h => h) (by kernel_rfl) LS (fun _ hu => by kernel_rfl) ?_
      refine held_take (i := 9) (v := .pointer (some ⟨bz, off + k, none⟩)) rfl (by kernel_rfl) (by kernel_rfl) (by kernel_rfl) (fun _ _ _ h => h) (by kernel_rfl) LS (fun _ hu => by exact ix_u64 (.tmp 44) (.tmp 45) (n := z0.length) (cap := cap0) (t := k) rfl (by kernel_rfl) (by kernel_rfl) hlt) ?_
      refine held_take (i := 10) (v := .int .u64 x) rfl (by kernel_rfl) (by kernel_rfl) (by kernel_rfl) (fun _ _ _ h => h) (by kernel_rfl) LS (fun _ hu => by exact lb_any 22 (.tmp 46) rfl (by kernel_rfl) (by kernel_rfl) (hX _ hu)) ?_
      refine held_take (i := 11) (v := .int .u64 (max h x)) rfl (by kernel_rfl) (by kernel_rfl) (by kernel_rfl) (fun _ _ _ h => h) (by kernel_rfl) LS (fun _ hu => by exact mx_u64 (.tmp 43) (.tmp 47) _ (n := h) (m := x) rfl (by kernel_rfl) (by kernel_rfl)) ?_
      refine held_take (i := 12) (v := .int .u64 (min l x)) rfl (by kernel_rfl) (by kernel_rfl) (by kernel_rfl) (fun _ _ _ h => h) (by kernel_rfl) LS (fun _ hu => by kernel_rfl) ?_
      refine held_take (i := 13) (v := .int .u64 (max h x)) rfl (by kernel_rfl) (by kernel_rfl) (by kernel_rfl) (fun _ _ _ h => h) (by kernel_rfl) LS (fun _ hu => by kernel_rfl) ?_
      refine held_done (by kernel_rfl) ?_
      have rZ := rW.below LS rW.lt
      have hMZ := Base.next hMW LS
      have xZ := hX _ LS
      generalize Z.drew = Z2 at *
      clear hX rW LS xW hMW
      generalize hlo : min l x = lo at *
      generalize hhi : max h x = hi at *
      go_upto_region 10 with fail
      have c0 : Z2.cell? ⟨rb, 0, none⟩ = some (.bool true) := rZ.cell 0
      have c1 : Z2.cell? ⟨rb, 1, none⟩ = some (.int .u64 x) := rZ.cell 1
      have c2 : Z2.cell? ⟨rb, 2, none⟩ = some (.int .u64 qs) := rZ.cell 2
      have c3 : Z2.cell? ⟨rb, 3, none⟩ = some (.int .u64 qd) := rZ.cell 3
      have c4 : Z2.cell? ⟨rb, 4, none⟩ = some (.int .u64 lo) := rZ.cell 4
      have hrl2 := rZ.lt
      have hbz2 : bz < Z2.heap.size := Nat.lt_of_lt_of_le hbz hMZ.size
      have t1 : decide (qs < lo) = false := decide_eq_false (by omega)
      have t2 : decide (hi < qs) = false := decide_eq_false (by omega)
      have t3 : decide (hi < qd) = false := decide_eq_false (by omega)
      go_quiet (fail)
      go_wp2
      all_goals go_roundw
      case rel => exact ⟨k + 1, ⟨true, x, qs, qd, lo⟩, lo, hi, by omega, by go_num, rfl, rfl, rZ, hr2, Base.drawn hMZ _, hm0, .inr ⟨rfl, g2, g3, g4, rfl⟩⟩
      case measure => simp only [intOf]; omega
    · have hkI : ¬ (k : Int) < (z0.length : Int) := by omega
      go_wp2
      all_goals go_ret
      all_goals exact ⟨rfl, hM⟩

set_option maxRecDepth 100000 in
theorem lifted (os : Os) (started : os.Started) (H : Type) (enc : TypeId × Value → H) :
    ReturnsInHanded {} Try.checked os 5 .any (Rows.rttBetweenSpec.pre6 enc Try.prog Try.f5 Rows.rttBetweenRow.domain false) (Rows.rttBetweenSpec.post enc Try.prog Try.f5 false true false false) := by
  refine returnsInHanded_of_change (C := Try.checked) own started (by kernel_rfl) Try.func5
    (ChangeSpec.witness6 (enc := enc) (C := Try.checked) false ⟨#[], #[.slice none 0 0], []⟩ 8 (by kernel_rfl) (by kernel_rfl) (by kernel_rfl) (by kernel_rfl)) ?_
  intro W base args ds gs before hval0 hW hcnd _
  have hval : ∀ (j : Nat) t v, Try.f5.params[j]? = some t → args[j]? = some v → Value.okWide Try.prog W .any base t v := hval0
  have hW' := hW
  obtain ⟨p, q, hA0, hV, rfl, hfz, hnd⟩ := hW
  have hA : DataW.TrodAll enc Try.prog W 0 (fun _ => true) true Try.f5.params.toList args.toList ds p := hA0
  rw [Try.params5] at hA hval
  obtain ⟨v0, vs0, d0, ds0, p0, q0, hargs, rfl, rfl, h0, r0⟩ := trodAll_cons hA
  obtain ⟨rfl, rfl, rfl⟩ := trodAll_nil r0
  obtain rfl : args = #[v0] := by cases args; simp_all
  obtain ⟨rfl, rfl⟩ := trodVars_none hV
  obtain ⟨a0, len0, cap0, rfl⟩ := okWide_slice Try.underlying30 (hval 0 30 v0 rfl rfl)
  have k0 := h0
  have lt0 : ∀ x ∈ p0, x.block < W.heap.size := by obtain ⟨m, hm⟩ := k0; exact DataW.trod_lt m _ _ _ hm
  obtain ⟨z0, w0, n0, m0, o0, f0⟩ : ∃ zs, Ints .u64 W a0 zs ∧ zs.length = len0 ∧ len0 ≤ cap0 ∧ cap0 ≤ maxLen ∧ (∀ x ∈ zs, (Lit.int .u64 x).wf = true) := by
    obtain ⟨fuel, hf⟩ := h0
    rcases open_ints Try.underlying30 Try.underlying22 (by kernel_rfl) hf with ⟨hcs, hx⟩ | ⟨x, l, c, zs, hcs, _, hl, hm, hz, hx, hcell, hwz⟩
    · simp [Value.cells] at hcs
      obtain ⟨rfl, rfl, rfl⟩ := hcs
      exact ⟨[], Row.nil _ _, rfl, Nat.le_refl _, Nat.zero_le _, (fun _ h => by cases h)⟩
    · simp [Value.cells] at hcs
      obtain ⟨rfl, rfl, rfl⟩ := hcs
      exact ⟨zs.take len0, ints_of hl (by simpa using hz) hcell, take_len hl (by simpa using hz), hl, hm, (fun x hx => hwz x (List.mem_of_mem_take hx))⟩
  clear hA0 hval0
  refine (walk a0 len0 cap0 z0 W w0 n0 m0 o0 f0).mono fun e W' ⟨he, bel⟩ => ?_
  subst he
  exact ⟨_, rfl, _, _, _, [], _, [], hW', trodAll_mk1 (shut_bool Try.underlying4 _), (trodAll_cons_mk (Below.trod laidOut (by kernel_rfl) (of_decide_eq_true (by kernel_rfl)) k0 bel lt0) trodAll_mk0), rfl, bel.frame _, fun h => by cases h⟩

theorem over : Rows.rttBetweenRow.holds Try.pinned (OpenSpec.ofChange Rows.rttBetweenSpec) :=
  OpenClaim.holds_of_wide 5 Try.f5 rfl rfl rfl rfl rfl rfl rfl ⟨rfl, rfl, rfl, rfl, rfl⟩ rfl rfl rfl rfl rfl (by kernel_rfl) Try.func5 (by kernel_rfl)
    (of_decide_eq_true (by kernel_rfl)) (by unfold Func.isWrapper; first | (rw [if_pos (by decide +kernel)]; kernel_rfl) | (rw [if_neg (by decide +kernel)]; exact ⟨rfl, rfl⟩))
    (fun os started H enc _ => lifted os started H enc)

/-- The given statement. -/
theorem proved : Rows.RttBetweenSaid :=
  over
#print axioms proved
end Go.Proofs.Ytjnnlffpleanpaa.rttBetween
