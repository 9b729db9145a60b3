/-
  The program's probe timer by contract.
-/
import Derived.Test.YtehmeopbenmeiaaProbeRef
import Derived.Test.YtehmeopbenmeiaaClock
import Derived.Test.YtehmeopbenmeiaaIn
set_option linter.unusedSimpArgs false
set_option linter.unusedVariables false
namespace Go.Proofs.Ytehmeopbenmeiaa.Probe
set_option linter.unusedVariables false
set_option maxRecDepth 20000
open Go.ChangeShapes Go.WideShapes Go.ChangeAt Go.RowKit
open Go.Proofs.Ytehmeopbenmeiaa.Base Go.Proofs.Ytehmeopbenmeiaa.ProbePlain Go.Proofs.Ytehmeopbenmeiaa.Hop

set_option maxHeartbeats 2000000 in
theorem deadline_any (p : Pb) (hp : PFit p) (fl : Bool) (t m : Int) (t0 : 0 ≤ t) (t1 : t ≤ 18446744073709551615) (m0 : 0 ≤ m) (m1 : m ≤ 18446744073709551615) (w : World) :
    Calls Try.prog 8 #[.agg #[.int .i64 p.count, .int .u64 p.from_], .bool fl, .int .u64 t, .int .u64 m] w fun e w' => e = .returned (.int .u64 (deadlineP p fl t m)) ∧ Below w.heap.size w w' := by
  obtain ⟨c0, c1, f0, f1⟩ := hp
  obtain ⟨n, f⟩ := p
  simp only at c0 c1 f0 f1
  go_enter Try.func8, Try.ntmps8
  go_upto_region 1 with fail
  refine at_any ?_
  intro W hW
  obtain ⟨rB, hL⟩ : Blk W w.heap.size #[.int .i64 n, .int .u64 f] 24 ∧ Below w.heap.size w W := by
    subst hW
    exact ⟨Blk.new _ _ _, (Below.refl _ _).alloc (Nat.le_refl _) _⟩
  clear hW
  have k0 := rB.cell 0
  have k1 := rB.cell 1
  cases fl with
  | false =>
    go_wp2
    all_goals go_ret
    all_goals exact ⟨rfl, hL⟩
  | true =>
    obtain ⟨h1, h2, h3⟩ := backoff_bd (n := n) t0 t1 m0
    have CB : ∀ V : World, Calls Try.prog 17 #[.int .u64 t, .int .i64 n, .int .u64 m] V fun e w' => e = .returned (.int .u64 (backoff t n m)) ∧ V = w' := fun V => Clock.backoff_any t n m t0 t1 c0 c1 V
    have CA := fun V => Clock.after_any f (backoff t n m) f0 f1 h3 (by omega) V
    go_upto_region 3 with fail
    refine at_any ?_
    intro X hX
    obtain ⟨k0, k1, hL⟩ : X.cell? ⟨w.heap.size, 0, none⟩ = some (.int .i64 n) ∧ X.cell? ⟨w.heap.size, 1, none⟩ = some (.int .u64 f) ∧ Below w.heap.size w X := by subst hX; exact ⟨k0, k1, hL⟩
    clear hX
    have f0 := fun p : In (Lt X) => inCell p k0
    have f1 := fun p : In (Lt X) => inCell p k1
    refine wp_region_in (Lt X) (Lt.drew X) (by kernel_rfl) (by kernel_rfl) ?_
    repeat (go_big_quiet_step (first | (go_at_call 17; refine in_same (v := .int .u64 (backoff t n m)) ?_; exact CB _) | (go_at_call 16; refine in_same (v := .int .u64 (Sat.add f (backoff t n m))) ?_; exact CA _)))
    refine wpQuiet_nil ?_
    rintro w2 ⟨⟨_, hw2⟩, rfl⟩
    have hw2 : Below X.heap.size X w2 := hw2
    go_wp2
    go_ret
    exact ⟨rfl, Base.next hL hw2⟩
set_option maxHeartbeats 2000000 in
theorem fired_any (p : Pb) (hp : PFit p) (now : Int) (n0 : 0 ≤ now) (n1 : now ≤ 18446744073709551615) (w : World) :
    Calls Try.prog 10 #[.agg #[.int .i64 p.count, .int .u64 p.from_], .int .u64 now] w fun e w' => e = .returned (.agg #[.int .i64 (firedP p now).count, .int .u64 (firedP p now).from_]) ∧ Below w.heap.size w w' := by
  obtain ⟨c0, c1, f0, f1⟩ := hp
  obtain ⟨n, f⟩ := p
  simp only at c0 c1 f0 f1
  unfold firedP
  simp only
  go_enter Try.func10, Try.ntmps10
  go_upto_region 1 with fail
  refine at_any ?_
  intro W hW
  obtain ⟨rB, oB, hL⟩ : Blk W w.heap.size #[.int .i64 n, .int .u64 f] 24 ∧ Blk W (w.heap.size + 1) #[.int .i64 0, .int .u64 0] 24 ∧ Below w.heap.size w W := by
    have h1 := Blk.new w #[.int .i64 n, .int .u64 f] 24
    have h2 := Blk.new (w.alloc (.cells #[.int .i64 n, .int .u64 f] 24)) #[.int .i64 0, .int .u64 0] 24
    rw [World.size_alloc] at h2
    subst hW
    exact ⟨h1.alloc _, h2, ((Below.refl _ _).alloc (Nat.le_refl _) _).alloc (by simp) _⟩
  clear hW
  have k0 : W.cell? ⟨w.heap.size, 0, none⟩ = some (.int .i64 n) := rB.cell 0
  have k1 : W.cell? ⟨w.heap.size, 1, none⟩ = some (.int .u64 f) := rB.cell 1
  have z0 := rB.free 0
  have z1 := rB.free 1
  have k2 : W.cell? ⟨w.heap.size + 1, 0, none⟩ = some (.int .i64 0) := oB.cell 0
  have k3 : W.cell? ⟨w.heap.size + 1, 1, none⟩ = some (.int .u64 0) := oB.cell 1
  have z2 := oB.free 0
  have z3 := oB.free 1
  have hlt := rB.lt
  have hw : IntKind.i64.wrap (min (max n 0) 59 + 1) = min (max n 0) 59 + 1 := by rw [IntKind.wrap_i64]; omega
  go_wp2_with (first
    | (refine wpl_value (v := .int .i64 (max n 0)) rfl (mx_i64 (.tmp 6) (.const (.int .i64 0)) _ (n := n) (m := 0) rfl rfl rfl) ?_)
    | (refine wpl_value (v := .int .i64 (min (max n 0) 59)) rfl (mn_i64 (.tmp 7) (.const (.int .i64 59)) _ (n := max n 0) (m := 59) rfl rfl rfl) ?_))
  refine bodyPost_ret (results_cell_row rfl _ _ (w.heap.size + 1) 24 #[.int .i64 (min (max n 0) 59 + 1), .int .u64 now] (0, 0) _ rfl (((((oB.other (by simp) _).other (by simp) _).set 0 _).set 1 _)) Try.underlying24 rfl (by kernel_rfl)) rfl ?_
  exact ⟨rfl, (((hL.setCell (by simp) _).setCell (by simp) _).setCell (by simp) _).setCell (by simp) _⟩
set_option maxHeartbeats 2000000 in
theorem calm_any (p : Pb) (hp : PFit p) (now : Int) (n0 : 0 ≤ now) (n1 : now ≤ 18446744073709551615) (w : World) :
    Calls Try.prog 12 #[.agg #[.int .i64 p.count, .int .u64 p.from_], .int .u64 now] w fun e w' => e = .returned (.agg #[.int .i64 (calmP now).count, .int .u64 (calmP now).from_]) ∧ Below w.heap.size w w' := by
  obtain ⟨c0, c1, f0, f1⟩ := hp
  obtain ⟨n, f⟩ := p
  simp only at c0 c1 f0 f1
  unfold calmP
  simp only
  go_enter Try.func12, Try.ntmps12
  go_upto_region 1 with fail
  refine at_any ?_
  intro W hW
  obtain ⟨rB, oB, hL⟩ : Blk W w.heap.size #[.int .i64 n, .int .u64 f] 24 ∧ Blk W (w.heap.size + 1) #[.int .i64 0, .int .u64 0] 24 ∧ Below w.heap.size w W := by
    have h1 := Blk.new w #[.int .i64 n, .int .u64 f] 24
    have h2 := Blk.new (w.alloc (.cells #[.int .i64 n, .int .u64 f] 24)) #[.int .i64 0, .int .u64 0] 24
    rw [World.size_alloc] at h2
    subst hW
    exact ⟨h1.alloc _, h2, ((Below.refl _ _).alloc (Nat.le_refl _) _).alloc (by simp) _⟩
  clear hW
  have k0 : W.cell? ⟨w.heap.size, 0, none⟩ = some (.int .i64 n) := rB.cell 0
  have k1 : W.cell? ⟨w.heap.size, 1, none⟩ = some (.int .u64 f) := rB.cell 1
  have z0 := rB.free 0
  have z1 := rB.free 1
  have k2 : W.cell? ⟨w.heap.size + 1, 0, none⟩ = some (.int .i64 0) := oB.cell 0
  have k3 : W.cell? ⟨w.heap.size + 1, 1, none⟩ = some (.int .u64 0) := oB.cell 1
  have z2 := oB.free 0
  have z3 := oB.free 1
  have hlt := rB.lt
  go_wp2
  refine bodyPost_ret (results_cell_row rfl _ _ (w.heap.size + 1) 24 #[.int .i64 (0), .int .u64 now] (0, 0) _ rfl (((((oB.other (by simp) _).other (by simp) _).set 0 _).set 1 _)) Try.underlying24 rfl (by kernel_rfl)) rfl ?_
  exact ⟨rfl, (((hL.setCell (by simp) _).setCell (by simp) _).setCell (by simp) _).setCell (by simp) _⟩
set_option maxHeartbeats 2000000 in
theorem sent_any (p : Pb) (hp : PFit p) (now : Int) (n0 : 0 ≤ now) (n1 : now ≤ 18446744073709551615) (w : World) :
    Calls Try.prog 13 #[.agg #[.int .i64 p.count, .int .u64 p.from_], .int .u64 now] w fun e w' => e = .returned (.agg #[.int .i64 (sentP p now).count, .int .u64 (sentP p now).from_]) ∧ Below w.heap.size w w' := by
  obtain ⟨c0, c1, f0, f1⟩ := hp
  obtain ⟨n, f⟩ := p
  simp only at c0 c1 f0 f1
  unfold sentP
  simp only
  go_enter Try.func13, Try.ntmps13
  go_upto_region 1 with fail
  refine at_any ?_
  intro W hW
  obtain ⟨rB, oB, hL⟩ : Blk W w.heap.size #[.int .i64 n, .int .u64 f] 24 ∧ Blk W (w.heap.size + 1) #[.int .i64 0, .int .u64 0] 24 ∧ Below w.heap.size w W := by
    have h1 := Blk.new w #[.int .i64 n, .int .u64 f] 24
    have h2 := Blk.new (w.alloc (.cells #[.int .i64 n, .int .u64 f] 24)) #[.int .i64 0, .int .u64 0] 24
    rw [World.size_alloc] at h2
    subst hW
    exact ⟨h1.alloc _, h2, ((Below.refl _ _).alloc (Nat.le_refl _) _).alloc (by simp) _⟩
  clear hW
  have k0 : W.cell? ⟨w.heap.size, 0, none⟩ = some (.int .i64 n) := rB.cell 0
  have k1 : W.cell? ⟨w.heap.size, 1, none⟩ = some (.int .u64 f) := rB.cell 1
  have z0 := rB.free 0
  have z1 := rB.free 1
  have k2 : W.cell? ⟨w.heap.size + 1, 0, none⟩ = some (.int .i64 0) := oB.cell 0
  have k3 : W.cell? ⟨w.heap.size + 1, 1, none⟩ = some (.int .u64 0) := oB.cell 1
  have z2 := oB.free 0
  have z3 := oB.free 1
  have hlt := rB.lt
  go_wp2
  refine bodyPost_ret (results_cell_row rfl _ _ (w.heap.size + 1) 24 #[.int .i64 (n), .int .u64 now] (0, 0) _ rfl ((((oB.other (by simp) _).set 0 _).set 1 _)) Try.underlying24 rfl (by kernel_rfl)) rfl ?_
  exact ⟨rfl, ((hL.setCell (by simp) _).setCell (by simp) _).setCell (by simp) _⟩
end Go.Proofs.Ytehmeopbenmeiaa.Probe
