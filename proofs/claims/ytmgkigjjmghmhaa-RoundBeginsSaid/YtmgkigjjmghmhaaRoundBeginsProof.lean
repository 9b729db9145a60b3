/-
  Whether any packet begins a round, and which, is as the document says. No conditions.
-/
import Derived.Test.YtmgkigjjmghmhaaRoundRow
import Derived.Test.YtmgkigjjmghmhaaRows
import Derived.Test.YtmgkigjjmghmhaaRow
import Derived.WalkKit
import Derived.ProofKit
import Derived.OpenShut
import Derived.ShutString
import Derived.ChangeOld
import Derived.Below
import Derived.Test.YtmgkigjjmghmhaaRoundAlive
import Derived.Test.YtmgkigjjmghmhaaRoundRow
namespace Go.Proofs.Ytmgkigjjmghmhaa.roundBegins
open Go.ChangeShapes Go.WideShapes Go.ChangeAt Go.RowKit
open Go.ChangeMaps (open_string shut_string)
open Go.Proofs.Ytmgkigjjmghmhaa.Base Go.Proofs.Ytmgkigjjmghmhaa.Round Go.Proofs.Ytmgkigjjmghmhaa.RoundPlain
set_option linter.unusedVariables false
set_option linter.unusedSimpArgs false

theorem own : ownKnob Try.prog.godebug = none := by kernel_rfl
theorem laidOut : laidOutB Try.prog = true := by kernel_rfl

open Go.Proofs.Ytmgkigjjmghmhaa.Round Go.Proofs.Ytmgkigjjmghmhaa.RoundPlain Go.Proofs.Ytmgkigjjmghmhaa.Hop
set_option maxHeartbeats 4000000 in
set_option maxRecDepth 20000 in
theorem walk (x0 : Rd) (a1 : Int) (a2 : Int) (w : World) (f0 : DFit x0) (w1 : (Lit.int .u64 a1).wf = true) (w2 : (Lit.int .u64 a2).wf = true) :
    Calls Try.prog 3 #[.agg #[.int .u64 x0.end_, .int .u64 x0.cuts], .int .u64 a1, .int .u64 a2] w fun e w' => e = .returned (.bool true) ∧ Below w.heap.size w w' := by
  obtain ⟨b0, b1⟩ := Base.u64_of w1
  obtain ⟨d0, d1⟩ := Base.u64_of w2
  have C1 := fun V => begin_any x0 f0 a1 a2 b0 b1 d0 d1 V
  have C2 := fun V => ref_begin x0 f0 a1 a2 b0 b1 d0 d1 V
  have C3 := fun V => fresh_any x0 f0 a1 b0 b1 V
  generalize freshP x0 a1 = fr at *
  obtain ⟨qe, qc, hq⟩ : ∃ qe qc, beginP x0 a1 a2 = ⟨qe, qc⟩ := ⟨_, _, rfl⟩
  rw [hq] at C1 C2
  simp only at C1 C2
  clear hq
  have CA := fun V => alive_round V
  go_enter Try.func3, Try.ntmps3
  go_upto_region 1 with fail
  refine at_any ?_
  intro W0 hW
  obtain ⟨rB, hL⟩ : Blk W0 w.heap.size #[.int .u64 x0.end_, .int .u64 x0.cuts] 24 ∧ Below w.heap.size w W0 := by
    subst hW
    exact ⟨Blk.new _ _ _, (Below.refl _ _).alloc (Nat.le_refl _) _⟩
  clear hW
  go_upto_region 3 with (go_at_call 6; refine (CA W0).mono ?_; rintro e X ⟨rfl, L1⟩)
  have rxb := rB.below L1 rB.lt
  have hM := Base.next hL L1
  clear rB hL L1 CA
  have k0 : X.cell? ⟨w.heap.size, 0, none⟩ = some (.int .u64 x0.end_) := rxb.cell 0
  have k1 : X.cell? ⟨w.heap.size, 1, none⟩ = some (.int .u64 x0.cuts) := rxb.cell 1
  have lxb := rxb.lt
  go_upto_region 4 with (go_at_call 7; refine (C1 X).mono ?_; rintro e y ⟨rfl, L2⟩)
  refine at_any ?_
  intro Y hW
  obtain ⟨rsb, qxb, hN⟩ : Blk Y y.heap.size #[.int .u64 qe, .int .u64 qc] 24 ∧ Blk Y w.heap.size #[.int .u64 x0.end_, .int .u64 x0.cuts] 24 ∧ Below w.heap.size w Y := by
    subst hW
    exact ⟨Blk.new _ _ _, (rxb.below L2 rxb.lt).alloc _, (Base.next hM L2).alloc (Base.next hM L2).size _⟩
  clear hW L2 hM rxb lxb k0 k1
  generalize y.heap.size = sb at *
  have hM := hN
  clear hN
  have rxb := qxb
  clear qxb
  have k0 : Y.cell? ⟨w.heap.size, 0, none⟩ = some (.int .u64 x0.end_) := rxb.cell 0
  have k1 : Y.cell? ⟨w.heap.size, 1, none⟩ = some (.int .u64 x0.cuts) := rxb.cell 1
  have lxb := rxb.lt
  have k2 : Y.cell? ⟨sb, 0, none⟩ = some (.int .u64 qe) := rsb.cell 0
  have k3 : Y.cell? ⟨sb, 1, none⟩ = some (.int .u64 qc) := rsb.cell 1
  have lsb := rsb.lt
  go_upto_region 5 with (go_at_call 8; refine (C2 Y).mono ?_; rintro e y ⟨rfl, L2⟩)
  refine at_any ?_
  intro Z hW
  obtain ⟨rtb, qxb, qsb, hN⟩ : Blk Z y.heap.size #[.int .u64 qe, .int .u64 qc] 24 ∧ Blk Z w.heap.size #[.int .u64 x0.end_, .int .u64 x0.cuts] 24 ∧ Blk Z sb #[.int .u64 qe, .int .u64 qc] 24 ∧ Below w.heap.size w Z := by
    subst hW
    exact ⟨Blk.new _ _ _, (rxb.below L2 rxb.lt).alloc _, (rsb.below L2 rsb.lt).alloc _, (Base.next hM L2).alloc (Base.next hM L2).size _⟩
  clear hW L2 hM rxb lxb rsb lsb k0 k1 k2 k3
  generalize y.heap.size = tb at *
  have hM := hN
  clear hN
  have rxb := qxb
  clear qxb
  have rsb := qsb
  clear qsb
  have k0 : Z.cell? ⟨w.heap.size, 0, none⟩ = some (.int .u64 x0.end_) := rxb.cell 0
  have k1 : Z.cell? ⟨w.heap.size, 1, none⟩ = some (.int .u64 x0.cuts) := rxb.cell 1
  have lxb := rxb.lt
  have k2 : Z.cell? ⟨sb, 0, none⟩ = some (.int .u64 qe) := rsb.cell 0
  have k3 : Z.cell? ⟨sb, 1, none⟩ = some (.int .u64 qc) := rsb.cell 1
  have lsb := rsb.lt
  have k4 : Z.cell? ⟨tb, 0, none⟩ = some (.int .u64 qe) := rtb.cell 0
  have k5 : Z.cell? ⟨tb, 1, none⟩ = some (.int .u64 qc) := rtb.cell 1
  have ltb := rtb.lt
  go_wp2_with (first
    | (refine wpl_value (v := .bool true) rfl (eq_rd (.tmp 27) (.tmp 28) rfl (a := qe) (b := qc) rfl rfl) ?_)
    | (go_at_call 9; refine (C3 _).mono ?_; rintro e y3 ⟨rfl, L3⟩))
  all_goals go_ret
  all_goals exact ⟨by simp, Base.next hM L3⟩

set_option maxRecDepth 100000 in
theorem lifted (os : Os) (started : os.Started) (H : Type) (enc : TypeId × Value → H) :
    ReturnsInHanded {} Try.checked os 3 .any (Rows.roundBeginsSpec.pre6 enc Try.prog Try.f3 Rows.roundBeginsRow.domain false) (Rows.roundBeginsSpec.post enc Try.prog Try.f3 false true false false) := by
  refine returnsInHanded_of_change (C := Try.checked) own started (by kernel_rfl) Try.func3
    (ChangeSpec.witness6 (enc := enc) (C := Try.checked) false ⟨#[], #[.agg #[.int .u64 0, .int .u64 0], .int .u64 0, .int .u64 0], []⟩ 8 (by kernel_rfl) (by kernel_rfl) (by kernel_rfl) (by kernel_rfl)) ?_
  intro W base args ds gs before hval0 hW hcnd _
  have hval : ∀ (j : Nat) t v, Try.f3.params[j]? = some t → args[j]? = some v → Value.okWide Try.prog W .any base t v := hval0
  have hW' := hW
  obtain ⟨p, q, hA0, hV, rfl, hfz, hnd⟩ := hW
  have hA : DataW.TrodAll enc Try.prog W 0 (fun _ => true) true Try.f3.params.toList args.toList ds p := hA0
  rw [Try.params3] at hA hval
  obtain ⟨v0, vs0, d0, ds0, p0, q0, hargs, rfl, rfl, h0, r0⟩ := trodAll_cons hA
  obtain ⟨v1, vs1, d1, ds1, p1, q1, rfl, rfl, rfl, h1, r1⟩ := trodAll_cons r0
  obtain ⟨v2, vs2, d2, ds2, p2, q2, rfl, rfl, rfl, h2, r2⟩ := trodAll_cons r1
  obtain ⟨rfl, rfl, rfl⟩ := trodAll_nil r2
  obtain rfl : args = #[v0, v1, v2] := by cases args; simp_all
  obtain ⟨rfl, rfl⟩ := trodVars_none hV
  have k0 := h0
  have lt0 : ∀ x ∈ p0, x.block < W.heap.size := by obtain ⟨m, hm⟩ := k0; exact DataW.trod_lt m _ _ _ hm
  obtain ⟨x0, rfl, f0⟩ := open_round Try.underlying24 (by kernel_rfl) (by kernel_rfl) Try.underlying22 Try.underlying22 (hval 0 24 v0 rfl rfl) h0
  obtain ⟨a1, rfl, rfl, rfl, w1⟩ := open_int Try.underlying22 (hval 1 22 v1 rfl rfl) h1
  obtain ⟨a2, rfl, rfl, rfl, w2⟩ := open_int Try.underlying22 (hval 2 22 v2 rfl rfl) h2
  clear hA0 hval0
  refine (walk x0 a1 a2 W f0 w1 w2).mono fun e W' ⟨he, bel⟩ => ?_
  subst he
  exact ⟨_, rfl, _, _, _, [], _, [], hW', trodAll_mk1 (shut_bool Try.underlying4 _), (trodAll_cons_mk (Below.trod laidOut (by kernel_rfl) (of_decide_eq_true (by kernel_rfl)) k0 bel lt0) (trodAll_cons_mk (shut_int Try.underlying22 w1) (trodAll_cons_mk (shut_int Try.underlying22 w2) trodAll_mk0))), rfl, bel.frame _, fun h => by cases h⟩

theorem over : Rows.roundBeginsRow.holds Try.pinned (OpenSpec.ofChange Rows.roundBeginsSpec) :=
  OpenClaim.holds_of_wide 3 Try.f3 rfl rfl rfl rfl rfl rfl rfl ⟨rfl, rfl, rfl, rfl, rfl⟩ rfl rfl rfl rfl rfl (by kernel_rfl) Try.func3 (by kernel_rfl)
    (of_decide_eq_true (by kernel_rfl)) (by unfold Func.isWrapper; first | (rw [if_pos (by decide +kernel)]; kernel_rfl) | (rw [if_neg (by decide +kernel)]; exact ⟨rfl, rfl⟩))
    (fun os started H enc _ => lifted os started H enc)

/-- The given statement. -/
theorem proved : Rows.RoundBeginsSaid :=
  over
#print axioms proved
end Go.Proofs.Ytmgkigjjmghmhaa.roundBegins
