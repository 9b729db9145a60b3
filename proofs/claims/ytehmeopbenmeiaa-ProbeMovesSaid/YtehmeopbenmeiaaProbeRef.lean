/-
  The reference's probe timer by contract.
-/
import Derived.Test.YtehmeopbenmeiaaProbePlain
import Derived.Test.YtehmeopbenmeiaaSatShl
import Derived.Test.YtehmeopbenmeiaaHop
import Derived.Test.YtehmeopbenmeiaaPlus
import Derived.Test.YtehmeopbenmeiaaMin3
import Derived.Lib.Hide
import Derived.BigQuiet
import Derived.Deep.QuietTactic
import Derived.Outline
import Derived.Deep.CutBlock
import Derived.Deep.DeepCutAuto
set_option linter.unusedSimpArgs false
set_option linter.unusedVariables false
namespace Go.Proofs.Ytehmeopbenmeiaa.Probe
set_option linter.unusedVariables false
set_option maxRecDepth 20000
open Go.ChangeShapes Go.WideShapes Go.ChangeAt Go.RowKit
open Go.Proofs.Ytehmeopbenmeiaa.Base Go.Proofs.Ytehmeopbenmeiaa.ProbePlain Go.Proofs.Ytehmeopbenmeiaa.Hop

theorem ref_backoff (a n m : Int) (a0 : 0 ≤ a) (a1 : a ≤ 18446744073709551615) (n0 : -9223372036854775808 ≤ n) (n1 : n ≤ 9223372036854775807) (w : World) :
    Calls Try.prog 18 #[.int .u64 a, .int .i64 n, .int .u64 m] w fun e w' => e = .returned (.int .u64 (backoff a n m)) ∧ w = w' := by
  have CS := Sat.ref_shl a n a0 a1 n0 n1 w
  go_enter Try.func18, Try.ntmps18
  go_wp2_with (first
    | (go_at_call 21; refine CS.mono ?_; rintro e u1 ⟨rfl, rfl⟩)
    | (refine wpl_value (v := .int .u64 (min (Sat.shl a n) m)) rfl (mn_u64 (.tmp 9) (.tmp 10) _ (n := Sat.shl a n) (m := m) rfl rfl rfl) ?_))
  all_goals go_ret
  all_goals exact ⟨rfl, rfl⟩
set_option maxHeartbeats 2000000 in
theorem ref_deadline (p : Pb) (hp : PFit p) (fl : Bool) (t m : Int) (t0 : 0 ≤ t) (t1 : t ≤ 18446744073709551615) (m0 : 0 ≤ m) (m1 : m ≤ 18446744073709551615) (w : World) :
    Calls Try.prog 9 #[.agg #[.int .i64 p.count, .int .u64 p.from_], .bool fl, .int .u64 t, .int .u64 m] w fun e w' => e = .returned (.int .u64 (deadlineP p fl t m)) ∧ Below w.heap.size w w' := by
  obtain ⟨c0, c1, f0, f1⟩ := hp
  obtain ⟨n, f⟩ := p
  simp only at c0 c1 f0 f1
  go_enter Try.func9, Try.ntmps9
  go_upto_region 1 with fail
  refine at_any ?_
  intro W hW
  obtain ⟨rB, hL⟩ : Blk W w.heap.size #[.int .i64 n, .int .u64 f] 24 ∧ Below w.heap.size w W := by
    subst hW
    exact ⟨Blk.new _ _ _, (Below.refl _ _).alloc (Nat.le_refl _) _⟩
  clear hW
  cases fl with
  | false =>
    go_wp2
    all_goals go_ret
    all_goals exact ⟨rfl, hL⟩
  | true =>
    obtain ⟨h1, h2, h3⟩ := backoff_bd (n := n) t0 t1 m0
    have CB := fun V => ref_backoff t n m t0 t1 c0 c1 V
    have CA := fun V => Sat.ref_add f (backoff t n m) f0 f1 h3 (by omega) V
    go_upto_region 3 with fail
    have KB := fun V (hV : Below W.heap.size W V) => rB.below hV rB.lt
    have LS : Below W.heap.size W W.drew := Base.drew1 (Below.refl _ _)
    refine held_start (fun v => Below W.heap.size W v) (by kernel_rfl) ?_
    refine held_take (i := 0) (v := .pointer (some ⟨w.heap.size, 1, none⟩)) rfl (by kernel_rfl) (by kernel_rfl) (by kernel_rfl) (fun _ _ _ h => h) (by kernel_rfl) LS (fun _ hu => by kernel_rfl) ?_
    refine held_take (i := 1) (v := .int .u64 f) rfl (by kernel_rfl) (by kernel_rfl) (by kernel_rfl) (fun _ _ _ h => h) (by kernel_rfl) LS (fun _ hu => by exact lb_any 22 (.tmp 11) rfl (by kernel_rfl) (by kernel_rfl) ((KB _ hu).cell 1)) ?_
    refine held_take (i := 2) (v := .int .u64 t) rfl (by kernel_rfl) (by kernel_rfl) (by kernel_rfl) (fun _ _ _ h => h) (by kernel_rfl) LS (fun _ hu => by kernel_rfl) ?_
    refine held_take (i := 3) (v := .pointer (some ⟨w.heap.size, 0, none⟩)) rfl (by kernel_rfl) (by kernel_rfl) (by kernel_rfl) (fun _ _ _ h => h) (by kernel_rfl) LS (fun _ hu => by kernel_rfl) ?_
    refine held_take (i := 4) (v := .int .i64 n) rfl (by kernel_rfl) (by kernel_rfl) (by kernel_rfl) (fun _ _ _ h => h) (by kernel_rfl) LS (fun _ hu => by exact lb_any 3 (.tmp 14) rfl (by kernel_rfl) (by kernel_rfl) ((KB _ hu).cell 0)) ?_
    refine held_take (i := 5) (v := .int .u64 m) rfl (by kernel_rfl) (by kernel_rfl) (by kernel_rfl) (fun _ _ _ h => h) (by kernel_rfl) LS (fun _ hu => by kernel_rfl) ?_
    refine held_call (i := 6) (f := 18) (args := #[.int .u64 t, .int .i64 n, .int .u64 m]) rfl (by kernel_rfl) (by kernel_rfl) (by kernel_rfl) ((CB _).mono ?_)
    rintro e y1 ⟨rfl, rfl⟩
    refine ⟨_, rfl, LS, ?_⟩
    refine held_call (i := 7) (f := 14) (args := #[.int .u64 f, .int .u64 (backoff t n m)]) rfl (by kernel_rfl) (by kernel_rfl) (by kernel_rfl) ((CA _).mono ?_)
    rintro e y2 ⟨rfl, rfl⟩
    refine ⟨_, rfl, LS, ?_⟩
    refine held_take (i := 8) (v := .int .u64 (Sat.add f (backoff t n m))) rfl (by kernel_rfl) (by kernel_rfl) (by kernel_rfl) (fun _ _ _ h => h) (by kernel_rfl) LS (fun _ hu => by kernel_rfl) ?_
    refine held_end 8 (.int .u64 (Sat.add f (backoff t n m))) (by kernel_rfl) (by kernel_rfl) (by kernel_rfl) fun a' hd hv => ?_
    go_wp2
    refine bodyPost_ret (results_tmp rfl _ _ _) hd ?_
    rw [hv]
    exact ⟨rfl, hL.trans (LS.mono hL.size)⟩
set_option maxHeartbeats 2000000 in
theorem ref_fired (p : Pb) (hp : PFit p) (now : Int) (n0 : 0 ≤ now) (n1 : now ≤ 18446744073709551615) (w : World) :
    Calls Try.prog 11 #[.agg #[.int .i64 p.count, .int .u64 p.from_], .int .u64 now] w fun e w' => e = .returned (.agg #[.int .i64 (firedP p now).count, .int .u64 (firedP p now).from_]) ∧ Below w.heap.size w w' := by
  obtain ⟨c0, c1, f0, f1⟩ := hp
  obtain ⟨n, f⟩ := p
  simp only at c0 c1 f0 f1
  unfold firedP
  simp only
  go_enter Try.func11, Try.ntmps11
  go_upto_region 1 with fail
  refine at_any ?_
  intro W hW
  obtain ⟨rB, oB, hL⟩ : Blk W w.heap.size #[.int .i64 n, .int .u64 f] 24 ∧ Blk W (w.heap.size + 1) #[.int .i64 0, .int .u64 0] 24 ∧ Below w.heap.size w W := by
    have h1 := Blk.new w #[.int .i64 n, .int .u64 f] 24
    have h2 := Blk.new (w.alloc (.cells #[.int .i64 n, .int .u64 f] 24)) #[.int .i64 0, .int .u64 0] 24
    rw [World.size_alloc] at h2
    subst hW
    exact ⟨h1.alloc _, h2, ((Below.refl _ _).alloc (Nat.le_refl _) _).alloc (by simp) _⟩
  clear hW
  have k0 : W.cell? ⟨w.heap.size, 0, none⟩ = some (.int .i64 n) := rB.cell 0
  have hlt := rB.lt
  have hw : IntKind.i64.wrap (min (max n 0) 59 + 1) = min (max n 0) 59 + 1 := by rw [IntKind.wrap_i64]; omega
  go_wp2_with (first
    | (refine wpl_value (v := .int .i64 (max n 0)) rfl (mx_i64 (.tmp 6) (.const (.int .i64 0)) _ (n := n) (m := 0) rfl rfl rfl) ?_)
    | (refine wpl_value (v := .int .i64 (min (max n 0) 59)) rfl (mn_i64 (.tmp 7) (.const (.int .i64 59)) _ (n := max n 0) (m := 59) rfl rfl rfl) ?_)
    | (refine wpl_store_row rfl 24 (.tmp 4) (.tmp 11) rfl oB #[.int .i64 (min (max n 0) 59 + 1), .int .u64 now] rfl rfl (by kernel_rfl) rfl (by simp [Value.oneCell']) ?_))
  refine bodyPost_ret (results_cell_row rfl _ _ (w.heap.size + 1) 24 #[.int .i64 (min (max n 0) 59 + 1), .int .u64 now] (0, 0) _ rfl (oB.setRow _) Try.underlying24 rfl (by kernel_rfl)) rfl ?_
  exact ⟨rfl, below_setRow' hL (by omega)⟩
end Go.Proofs.Ytehmeopbenmeiaa.Probe
