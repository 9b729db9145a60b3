/-
  Beyond the threshold a window grows by one packet for each window that was acknowledged, piece by piece. No conditions.
-/
import Derived.Test.YtnnceeefilpgeaaRows
import Derived.Test.YtnnceeefilpgeaaRow
import Derived.WalkKit
import Derived.ProofKit
import Derived.OpenShut
import Derived.ShutString
import Derived.ChangeOld
import Derived.Below
import Derived.Test.YtnnceeefilpgeaaRenoAlive
import Derived.Test.YtnnceeefilpgeaaMin3
namespace Go.Proofs.Ytnnceeefilpgeaa.renoRounds
open Go.ChangeShapes Go.WideShapes Go.ChangeAt Go.RowKit
open Go.ChangeMaps (open_string shut_string)
open Go.Proofs.Ytnnceeefilpgeaa.Base
set_option linter.unusedVariables false
set_option linter.unusedSimpArgs false

theorem own : ownKnob Try.prog.godebug = none := by kernel_rfl
theorem laidOut : laidOutB Try.prog = true := by kernel_rfl

open Go.Proofs.Ytnnceeefilpgeaa.Reno Go.Proofs.Ytnnceeefilpgeaa.RenoPlain Go.Proofs.Ytnnceeefilpgeaa.Hop
theorem rounds {c m L n : Int} (m0 : 1 ≤ m) (m1 : m ≤ 256) (c0 : m ≤ c) (c1 : c ≤ 70000) (l0 : 0 < L) (l1 : L ≤ c) (n0 : 1 ≤ n) (n1 : n ≤ L) :
    growR ⟨c, 0, c - L, 0, 0, 0, 0⟩ n m = if n = L then ⟨c + m, 0, 0, 0, 0, 0, 0⟩ else ⟨c, 0, c - (L - n), 0, 0, 0, 0⟩ := by
  have h2 : Sat.add (c - L) n = c - (L - n) := by unfold Sat.add; rw [if_pos (by omega)]; omega
  have h3 : Sat.add c m = c + m := by unfold Sat.add; rw [if_pos (by omega)]
  unfold growR
  rw [if_neg (by show ¬ c < 0; omega)]
  dsimp only
  rw [h2, h3]
  by_cases h : n = L
  · rw [if_pos h, if_pos (by omega)]
    congr 1
    omega
  · rw [if_neg h, if_neg (by omega)]
set_option maxHeartbeats 4000000 in
set_option maxRecDepth 20000 in
theorem walk (a0 : Int) (a1 : Int) (a2 : Int) (w : World) (w0 : (Lit.int .u16 a0).wf = true) (w1 : (Lit.int .u8 a1).wf = true) (w2 : (Lit.int .u8 a2).wf = true) :
    Calls Try.prog 7 #[.int .u16 a0, .int .u8 a1, .int .u8 a2] w fun e w' => e = .returned (.bool true) ∧ Below w.heap.size w w' := by
  obtain ⟨b0, b1⟩ := Base.u16_of w0
  obtain ⟨t0, t1⟩ := Base.u8_of w1
  obtain ⟨s0, s1⟩ := Base.u8_of w2
  have CA := fun V => alive_reno V
  go_enter Try.func7, Try.ntmps7
  go_upto_region 3 with fail
  refine at_any ?_
  intro W0 hW
  obtain ⟨rB, hL⟩ : Blk W0 w.heap.size #[.int .u64 (a1 + 1 + a0), .int .u64 0, .int .u64 0, .int .u64 0, .int .u64 0, .int .u64 0, .int .u64 0] 24 ∧ Below w.heap.size w W0 := by
    subst hW
    exact ⟨Blk.new _ _ _, (Below.refl _ _).alloc (Nat.le_refl _) _⟩
  clear hW
  obtain ⟨m, em⟩ : ∃ m, a1 + 1 = m := ⟨_, rfl⟩
  obtain ⟨kk, ek⟩ : ∃ m, a2 + 1 = m := ⟨_, rfl⟩
  have hm : 1 ≤ m ∧ m ≤ 256 := by omega
  have hkk : 1 ≤ kk ∧ kk ≤ 256 := by omega
  rw [em] at rB ⊢
  rw [ek]
  clear em ek
  obtain ⟨c, ec⟩ : ∃ c, m + a0 = c := ⟨_, rfl⟩
  have hc : m ≤ c ∧ c ≤ 70000 := by omega
  rw [ec] at rB ⊢
  clear ec
  go_upto_region 5 with (go_at_call 9; refine (CA W0).mono ?_; rintro e X ⟨rfl, L1⟩)
  have rX := rB.below L1 rB.lt
  have hM := Base.next hL L1
  clear rB hL L1 CA
  obtain ⟨k0, k1, k2, k3, k4, k5, k6⟩ := blk7 rX
  have hlt := rX.lt
  go_upto_region 7 with fail
  refine at_any ?_
  intro Y hY
  obtain ⟨sB, rY, hN, hsw⟩ : Blk Y X.heap.size #[.int .u64 c, .int .u64 0, .int .u64 0, .int .u64 0, .int .u64 0, .int .u64 0, .int .u64 0] 24 ∧ Blk Y w.heap.size #[.int .u64 c, .int .u64 0, .int .u64 0, .int .u64 0, .int .u64 0, .int .u64 0, .int .u64 0] 24 ∧ Below w.heap.size w Y ∧ w.heap.size < X.heap.size := by
    subst hY
    exact ⟨Blk.new _ _ _, rX.alloc _, hM.alloc hM.size _, rX.lt⟩
  clear hY rX hM hlt k0 k1 k2 k3 k4 k5 k6
  generalize X.heap.size = sb at *
  clear X
  go_wp2
  go_loopw [10, 12, 13] (fun lf i _ wr => ∃ (Lf I : Int) (q0 q2 : Int), lf = .int .u64 Lf ∧ i = .int .u64 I ∧ 0 ≤ I ∧ I ≤ c - Lf ∧ 0 ≤ Lf ∧ Lf ≤ c ∧ ((0 < Lf ∧ q0 = c ∧ q2 = c - Lf) ∨ (Lf = 0 ∧ q0 = c + m ∧ q2 = 0)) ∧ Blk wr sb #[.int .u64 q0, .int .u64 0, .int .u64 q2, .int .u64 0, .int .u64 0, .int .u64 0, .int .u64 0] 24 ∧ Blk wr w.heap.size #[.int .u64 c, .int .u64 0, .int .u64 0, .int .u64 0, .int .u64 0, .int .u64 0, .int .u64 0] 24 ∧ Below w.heap.size w wr) (fun lf _ _ _ => (intOf lf).toNat)
  case atStart => exact ⟨c, 0, c, 0, rfl, rfl, by decide, by omega, by omega, by omega, .inl ⟨by omega, rfl, by omega⟩, sB, rY, hN⟩
  case round =>
    obtain ⟨Lf, I, q0, q2, rfl, rfl, hI0, hI1, hL0, hL1, hq, qB, wB, hL⟩ := hrel
    clear sB rY hN
    have hlt := wB.lt
    have hl2 := qB.lt
    have hqB := qB
    obtain ⟨k0, k1, k2, k3, k4, k5, k6⟩ := blk7 wB
    obtain ⟨j0, j1, j2, j3, j4, j5, j6⟩ := blk7 qB
    by_cases hp : 0 < Lf
    · obtain ⟨rfl, rfl⟩ : q0 = c ∧ q2 = c - Lf := by
        rcases hq with h | h
        · exact h.2
        · omega
      clear hq
      obtain ⟨n, hn, n0, n1, n2⟩ : ∃ n, min Lf kk = n ∧ 1 ≤ n ∧ n ≤ Lf ∧ n ≤ kk := ⟨_, rfl, by omega, by omega, by omega⟩
      have C1 := fun V => grow_any ⟨q0, 0, q0 - Lf, 0, 0, 0, 0⟩ ⟨⟨by show 0 ≤ q0; omega, by show q0 ≤ _; omega⟩, uS 0, ⟨by show 0 ≤ q0 - Lf; omega, by show q0 - Lf ≤ _; omega⟩, uS 0, uS 0, uS 0, uS 0⟩ n m ⟨by omega, by omega⟩ ⟨by omega, by omega⟩ V
      rw [rounds hm.1 hm.2 hc.1 hc.2 hp hL1 n0 n1] at C1
      obtain ⟨r0, r2, hr, e⟩ : ∃ r0 r2, ((0 < Lf - n ∧ r0 = q0 ∧ r2 = q0 - (Lf - n)) ∨ (Lf - n = 0 ∧ r0 = q0 + m ∧ r2 = 0)) ∧ (if n = Lf then (⟨q0 + m, 0, 0, 0, 0, 0, 0⟩ : Wn) else ⟨q0, 0, q0 - (Lf - n), 0, 0, 0, 0⟩) = ⟨r0, 0, r2, 0, 0, 0, 0⟩ := by
        by_cases h : n = Lf
        · exact ⟨q0 + m, 0, .inr ⟨by omega, rfl, rfl⟩, by rw [if_pos h]⟩
        · exact ⟨q0, q0 - (Lf - n), .inl ⟨by omega, rfl, rfl⟩, by rw [if_neg h]⟩
      rw [e] at C1
      clear e
      unfold WinPost wc at C1
      dsimp only at C1
      generalize hac : q0 - Lf = ac at *
      have hac0 : 0 ≤ ac := by omega
      have HAC := Lib.hid hac
      clear hac
      go_upto_region 11 with (refine wpl_value (v := .int .u64 (min Lf kk)) rfl (mn_u64 (.tmp 34) (.tmp 35) _ rfl rfl rfl) ?_)
      clear hn
      have hdf : 0 ≤ Lf - n := by omega
      go_upto_region 12 with fail
      generalize hLf : Lf - n = L2 at *
      go_upto_region 13 with (first
        | (go_at_call 10; refine (C1 _).mono ?_; rintro e y ⟨rfl, LC⟩; have qBy := qB.below LC hl2; have wBy := wB.below LC hlt; have hLy := Base.next hL LC)
        | (refine wpl_store_row rfl 24 (.tmp 11) (.tmp 43) rfl qBy #[.int .u64 r0, .int .u64 0, .int .u64 r2, .int .u64 0, .int .u64 0, .int .u64 0, .int .u64 0] rfl rfl (by kernel_rfl) rfl (by simp [Value.oneCell']) ?_))
      refine at_any ?_
      intro Z hZ
      obtain ⟨qZ, wZ, hLZ⟩ : Blk Z sb #[.int .u64 r0, .int .u64 0, .int .u64 r2, .int .u64 0, .int .u64 0, .int .u64 0, .int .u64 0] 24 ∧ Blk Z w.heap.size #[.int .u64 q0, .int .u64 0, .int .u64 0, .int .u64 0, .int .u64 0, .int .u64 0, .int .u64 0] 24 ∧ Below w.heap.size w Z := by
        subst hZ
        exact ⟨qBy.setRow _, wBy.kept ((Fr.refl (fun g => g = sb) y).setRow (g := sb) (fun _ => rfl) _) (show ¬ w.heap.size = sb by omega), below_setRow' hLy (by omega)⟩
      clear hZ qBy wBy hLy LC C1 qB wB hL k0 k1 k2 k3 k4 k5 k6 j0 j1 j2 j3 j4 j5 j6 hqB hlt hl2
      have hlt := wZ.lt
      have hl2 := qZ.lt
      have k0 : Z.cell? ⟨w.heap.size, 0, none⟩ = some (.int .u64 q0) := wZ.cell 0
      have j0 : Z.cell? ⟨sb, 0, none⟩ = some (.int .u64 r0) := qZ.cell 0
      have hac := HAC.out
      have hfin : ∃ (Lf' I' : Int) (q0' q2' : Int), Value.int .u64 L2 = .int .u64 Lf' ∧ Value.int .u64 (I + 1) = .int .u64 I' ∧ 0 ≤ I' ∧ I' ≤ q0 - Lf' ∧ 0 ≤ Lf' ∧ Lf' ≤ q0 ∧ ((0 < Lf' ∧ q0' = q0 ∧ q2' = q0 - Lf') ∨ (Lf' = 0 ∧ q0' = q0 + m ∧ q2' = 0)) ∧ Blk Z sb #[.int .u64 q0', .int .u64 0, .int .u64 q2', .int .u64 0, .int .u64 0, .int .u64 0, .int .u64 0] 24 ∧ Blk Z w.heap.size #[.int .u64 q0, .int .u64 0, .int .u64 0, .int .u64 0, .int .u64 0, .int .u64 0, .int .u64 0] 24 ∧ Below w.heap.size w Z := ⟨L2, I + 1, r0, r2, rfl, rfl, by omega, by omega, by omega, by omega, hr, qZ, wZ, hLZ⟩
      have hms : L2.toNat < Lf.toNat := by omega
      have hIb : I ≤ 70000 := by omega
      clear hac hLf
      rcases hr with ⟨h1, h2, h3⟩ | ⟨h1, h2, h3⟩
      · subst h2
        go_wp2
        all_goals go_roundw
        all_goals first
          | exact hfin
          | (simp [intOf]; omega)
      · have h1' : ¬ 0 < L2 := by omega
        clear h1
        go_wp2
        all_goals go_roundw
        all_goals first
          | exact hfin
          | (simp [intOf]; omega)
    · obtain ⟨rfl, rfl⟩ : q0 = c + m ∧ q2 = 0 := by
        rcases hq with h | h
        · omega
        · exact h.2
      clear hq
      have CS := fun V => Sat.ref_sub (c + m) m (by omega) (by omega) (by omega) (by omega) V
      rw [show Sat.sub (c + m) m = c by unfold Sat.sub; rw [if_neg (by omega)]; omega] at CS
      have ec : c + m ≤ 80000 := by omega
      go_upto_region 15 with fail
      have g0 := fun p : In (Lt wr) => inCell p k0
      have g2 := fun p : In (Lt wr) => inCell p j0
      have g3 := fun p : In (Lt wr) => inCell p j2
      clear k0 k1 k2 k3 k4 k5 k6 j0 j1 j2 j3 j4 j5 j6
      have ew : (c + m) % 18446744073709551616 = c + m := by omega
      refine wp_region_in (Lt wr) (Lt.drew wr) (by kernel_rfl) (by kernel_rfl) ?_
      repeat (go_big_quiet_step (first | (go_at_call 16; refine in_same (v := .int .u64 c) ?_; exact CS _)))
      refine wpQuiet_nil ?_
      rintro u2 ⟨⟨_, hw2⟩, rfl⟩
      have hw2 : Below wr.heap.size wr u2 := hw2
      go_wp2
      go_ret
      exact ⟨rfl, Base.next hL hw2⟩

set_option maxRecDepth 100000 in
theorem lifted (os : Os) (started : os.Started) (H : Type) (enc : TypeId × Value → H) :
    ReturnsInHanded {} Try.checked os 7 .any (Rows.renoRoundsSpec.pre6 enc Try.prog Try.f7 Rows.renoRoundsRow.domain false) (Rows.renoRoundsSpec.post enc Try.prog Try.f7 false true false false) := by
  refine returnsInHanded_of_change (C := Try.checked) own started (by kernel_rfl) Try.func7
    (ChangeSpec.witness6 (enc := enc) (C := Try.checked) false ⟨#[], #[.int .u16 0, .int .u8 0, .int .u8 0], []⟩ 8 (by kernel_rfl) (by kernel_rfl) (by kernel_rfl) (by kernel_rfl)) ?_
  intro W base args ds gs before hval0 hW hcnd _
  have hval : ∀ (j : Nat) t v, Try.f7.params[j]? = some t → args[j]? = some v → Value.okWide Try.prog W .any base t v := hval0
  have hW' := hW
  obtain ⟨p, q, hA0, hV, rfl, hfz, hnd⟩ := hW
  have hA : DataW.TrodAll enc Try.prog W 0 (fun _ => true) true Try.f7.params.toList args.toList ds p := hA0
  rw [Try.params7] at hA hval
  obtain ⟨v0, vs0, d0, ds0, p0, q0, hargs, rfl, rfl, h0, r0⟩ := trodAll_cons hA
  obtain ⟨v1, vs1, d1, ds1, p1, q1, rfl, rfl, rfl, h1, r1⟩ := trodAll_cons r0
  obtain ⟨v2, vs2, d2, ds2, p2, q2, rfl, rfl, rfl, h2, r2⟩ := trodAll_cons r1
  obtain ⟨rfl, rfl, rfl⟩ := trodAll_nil r2
  obtain rfl : args = #[v0, v1, v2] := by cases args; simp_all
  obtain ⟨rfl, rfl⟩ := trodVars_none hV
  obtain ⟨a0, rfl, rfl, rfl, w0⟩ := open_int Try.underlying29 (hval 0 29 v0 rfl rfl) h0
  obtain ⟨a1, rfl, rfl, rfl, w1⟩ := open_int Try.underlying5 (hval 1 5 v1 rfl rfl) h1
  obtain ⟨a2, rfl, rfl, rfl, w2⟩ := open_int Try.underlying5 (hval 2 5 v2 rfl rfl) h2
  clear hA0 hval0
  refine (walk a0 a1 a2 W w0 w1 w2).mono fun e W' ⟨he, bel⟩ => ?_
  subst he
  exact ⟨_, rfl, _, _, _, [], _, [], hW', trodAll_mk1 (shut_bool Try.underlying4 _), (trodAll_cons_mk (shut_int Try.underlying29 w0) (trodAll_cons_mk (shut_int Try.underlying5 w1) (trodAll_cons_mk (shut_int Try.underlying5 w2) trodAll_mk0))), rfl, bel.frame _, fun h => by cases h⟩

theorem over : Rows.renoRoundsRow.holds Try.pinned (OpenSpec.ofChange Rows.renoRoundsSpec) :=
  OpenClaim.holds_of_wide 7 Try.f7 rfl rfl rfl rfl rfl rfl rfl ⟨rfl, rfl, rfl, rfl, rfl⟩ rfl rfl rfl rfl rfl (by kernel_rfl) Try.func7 (by kernel_rfl)
    (of_decide_eq_true (by kernel_rfl)) (by unfold Func.isWrapper; first | (rw [if_pos (by decide +kernel)]; kernel_rfl) | (rw [if_neg (by decide +kernel)]; exact ⟨rfl, rfl⟩))
    (fun os started H enc _ => lifted os started H enc)

/-- The given statement. -/
theorem proved : Rows.RenoRoundsSaid :=
  over
#print axioms proved
end Go.Proofs.Ytnnceeefilpgeaa.renoRounds
