/-
  Several texts in one: Once, OnceDo.
-/
import Derived.Test.YtkiloaebokkjbaaGreatRows
import Derived.Test.YtkiloaebokkjbaaGreatM2
import Derived.Test.YtkiloaebokkjbaaGreatPlus
import Derived.Tactics
import Derived.Tactics2
import Derived.Defers
import Derived.Laws.Pointers
import Derived.Laws.LoneSync
import Derived.RegionTactic
import Derived.RegionCalls
import Derived.ChangeAlike
import Derived.Laws.Bits64
/-
  Contracts of sync/atomic's numbers and of sync.Once, in a run of one goroutine.
-/
set_option linter.unusedSimpArgs false
set_option linter.unusedVariables false
namespace Go.Proofs.YtkiloaebokkjbaaGreat.Once
set_option linter.unusedVariables false
set_option maxRecDepth 20000
open Go.ChangeShapes Go.WideShapes Go.ChangeAt Go.RowKit
open Go.Proofs.YtkiloaebokkjbaaGreat.Base

theorem disable (w : World) : (callFunc 152 #[]).run Tryz.prog w = .ok (.value (.tuple #[])) w := run_call_mark0 Tryz.func152 (by kernel_rfl) (by kernel_rfl) (by kernel_rfl) .disable (by kernel_rfl) w
theorem enable (w : World) : (callFunc 154 #[]).run Tryz.prog w = .ok (.value (.tuple #[])) w := run_call_mark0 Tryz.func154 (by kernel_rfl) (by kernel_rfl) (by kernel_rfl) .enable (by kernel_rfl) w
theorem acquire (a : Addr) (w : World) : (callFunc 155 #[.pointer (some a)]).run Tryz.prog w = .ok (.value (.tuple #[])) w := run_call_marked Tryz.func155 (by kernel_rfl) (by kernel_rfl) (by kernel_rfl) .acquire (by kernel_rfl) a w
theorem releaseMerge (a : Addr) (w : World) : (callFunc 157 #[.pointer (some a)]).run Tryz.prog w = .ok (.value (.tuple #[])) w := run_call_marked Tryz.func157 (by kernel_rfl) (by kernel_rfl) (by kernel_rfl) .releaseMerge (by kernel_rfl) a w
/-- '(*sync/atomic.Uint64).Load'. -/
theorem load64 (a : Addr) (x : Int) (w : World) (hc : w.cell? a = some (.int .u64 x)) :
    Calls Tryz.prog 44 #[.pointer (some a)] w fun e w' => e = .returned (.int .u64 x) ∧ w' = w := by
  have hl := run_call_load (P := Tryz.prog) Tryz.func86 (by kernel_rfl) (by kernel_rfl) (by kernel_rfl) .u64 (by kernel_rfl) hc
  go_enter Tryz.func44, Tryz.ntmps44
  go_wp2
  go_ret
  exact ⟨rfl, rfl⟩
/-- '(*sync/atomic.Uint64).Store'. -/
theorem store64 (a : Addr) (x y : Int) (w : World) (hc : w.cell? a = some (.int .u64 x)) (hz : w.frozen? a = false) :
    Calls Tryz.prog 101 #[.pointer (some a), .int .u64 y] w fun e w' => e = .returned (.tuple #[]) ∧ w' = w.setCell a (.int .u64 y) := by
  have hst := run_call_store (P := Tryz.prog) Tryz.func121 (by kernel_rfl) (by kernel_rfl) (by kernel_rfl) (by kernel_rfl) (k := .u64) (y := y) hc hz
  go_enter Tryz.func101, Tryz.ntmps101
  go_wp2
  go_end0
  exact ⟨rfl, rfl⟩
/-- '(*sync/atomic.Uint64).Add', where nothing wraps. -/
theorem add64 (a : Addr) (x y : Int) (w : World) (hc : w.cell? a = some (.int .u64 x)) (hz : w.frozen? a = false) (h0 : 0 ≤ x + y) (h1 : x + y ≤ 18446744073709551615) :
    Calls Tryz.prog 46 #[.pointer (some a), .int .u64 y] w fun e w' => e = .returned (.int .u64 (x + y)) ∧ w' = w.setCell a (.int .u64 (x + y)) := by
  have hadd := run_call_add (P := Tryz.prog) Tryz.func87 (by kernel_rfl) (by kernel_rfl) (by kernel_rfl) .u64 (by kernel_rfl) (y := y) (s := x + y) hc hz (by simp [go_sem]; exact (IntKind.wrap_u64 _).trans (by omega))
  go_enter Tryz.func46, Tryz.ntmps46
  go_wp2
  go_ret
  exact ⟨rfl, rfl⟩
/-- '(*sync/atomic.Bool).Store(true)', entered as a deferred call: the cell holds 1. -/
theorem store_deferred (a : Addr) (x : Value) (u : FrameMode) (w : World) (hc : w.cell? a = some x) (hz : w.frozen? a = false) :
    CallsD Tryz.prog 144 #[.pointer (some a), .bool true] u w fun e u' w' => u' = u ∧ (e = .returned (.tuple #[]) ∧ w' = w.drew.setCell a (.int .u32 1)) := by
  have hc' : w.drew.cell? a = some x := by go_simp
  have hz' : w.drew.frozen? a = false := by go_simp
  have hst := run_call_store (P := Tryz.prog) Tryz.func149 (by kernel_rfl) (by kernel_rfl) (by kernel_rfl) (by kernel_rfl) (k := .u32) (y := 1) hc' hz'
  go_enter_d Tryz.func144, Tryz.ntmps144
  go_wp2
  go_region_calls
  all_goals (go_end0; exact ⟨rfl, rfl⟩)
/-- '(*sync.Mutex).Unlock', entered as a deferred call, the lock held and nobody waiting. -/
theorem unlock_deferred (a : Addr) (u : FrameMode) (w : World) (hc : w.cell? a = some (.int .i32 1)) (hz : w.frozen? a = false) :
    CallsD Tryz.prog 143 #[.pointer (some a)] u w fun e u' w' => u' = u ∧ (e = .returned (.tuple #[]) ∧ w' = w.setCell a (.int .i32 0)) := by
  have hd := disable
  have he := enable
  have hr := releaseMerge
  have hadd := run_call_add (P := Tryz.prog) Tryz.func158 (by kernel_rfl) (by kernel_rfl) (by kernel_rfl) .i32 (by kernel_rfl) (y := -1) (s := 0) hc hz (by simp [go_sem]; rfl)
  have hcv := run_convert_to_unsafe (P := Tryz.prog) (src := 226) (dst := 230) Tryz.underlying226 Tryz.underlying230 (by kernel_rfl) hc
  go_enter_d Tryz.func143, Tryz.ntmps143
  go_wp2
  go_end0
  go_wp2
  go_end0
  exact ⟨rfl, rfl⟩
/-- '(*sync.Mutex).Lock', the lock free. -/
theorem lock_free (a : Addr) (w : World) (hc : w.cell? a = some (.int .i32 0)) (hz : w.frozen? a = false) :
    Calls Tryz.prog 142 #[.pointer (some a)] w fun e w' => e = .returned (.tuple #[]) ∧ w' = w.setCell a (.int .i32 1) := by
  have hd := disable
  have he := enable
  have ha := acquire
  have hcas := run_call_cas_hit (P := Tryz.prog) Tryz.func153 (by kernel_rfl) (by kernel_rfl) (by kernel_rfl) .i32 (by kernel_rfl) (y := 1) hc hz
  have hc' : (w.setCell a (.int .i32 1)).cell? a = some (.int .i32 1) := World.cell?_setCell_same w a _ hc
  have hcv := run_convert_to_unsafe (P := Tryz.prog) (src := 226) (dst := 230) Tryz.underlying226 Tryz.underlying230 (by kernel_rfl) hc'
  go_enter Tryz.func142, Tryz.ntmps142
  go_wp2
  first | go_end0 | (simp only [Exit.inBlock, Exit.then]; refine bodyPost_ret (results_none rfl _ _ _) rfl ?_) | refine bodyPost_ret (results_none rfl _ _ _) rfl ?_
  go_wp2
  go_end0
  exact ⟨rfl, rfl⟩
end Go.Proofs.YtkiloaebokkjbaaGreat.Once

/-
  Contract of sync.Once's Do, handed the guard's own function that stores the evidence: the first time.
-/
set_option linter.unusedSimpArgs false
set_option linter.unusedVariables false
namespace Go.Proofs.YtkiloaebokkjbaaGreat.Once
set_option linter.unusedVariables false
set_option maxRecDepth 100000
open Go.ChangeShapes Go.WideShapes Go.ChangeAt Go.RowKit
open Go.Proofs.YtkiloaebokkjbaaGreat.Base

set_option maxHeartbeats 1600000 in
/-- '(*sync.Once).doSlow', not yet done and the lock free, of the guard in block b: where its evidence lies is stored. -/
theorem slow_any (b pb : Nat) (pe : Addr) (hpb : ¬ b = pb) (x9 : Value) (w : World) (hp : w.cell? ⟨pb, 0, none⟩ = some (.pointer (some ⟨b, 0, none⟩)))
    (h0 : w.cell? ⟨b, 6, none⟩ = some (.int .u32 0)) (h1 : w.cell? ⟨b, 7, none⟩ = some (.int .i32 0)) (h9 : w.cell? ⟨b, 9, none⟩ = some x9)
    (f0 : w.frozen? ⟨b, 6, none⟩ = false) (f1 : w.frozen? ⟨b, 7, none⟩ = false) (f9 : w.frozen? ⟨b, 9, none⟩ = false) :
    Calls Tryz.prog 123 #[.pointer (some ⟨b, 6, none⟩), .func (.func 103) #[] #[.pointer (some pe), .pointer (some ⟨pb, 0, none⟩)]] w fun e w' => e = .returned (.tuple #[]) ∧
      w' = (((w.setCell ⟨b, 7, none⟩ (.int .i32 1)).setCell ⟨b, 9, none⟩ (.pointer (some pe))).drew.setCell ⟨b, 6, none⟩ (.int .u32 1)).setCell ⟨b, 7, none⟩ (.int .i32 0) := by
  have hl := run_call_load (P := Tryz.prog) Tryz.func141 (by kernel_rfl) (by kernel_rfl) (by kernel_rfl) .u32 (by kernel_rfl) (w := w.setCell ⟨b, 7, none⟩ (.int .i32 1)) (a := ⟨b, 6, none⟩) (x := 0) ((World.cell?_setCell_other _ ⟨b, 7, none⟩ ⟨b, 6, none⟩ _ (by simp)).trans h0)
  have hp1 : (w.setCell ⟨b, 7, none⟩ (.int .i32 1)).cell? ⟨pb, 0, none⟩ = some (.pointer (some ⟨b, 0, none⟩)) := (World.cell?_setCell_other _ ⟨b, 7, none⟩ ⟨pb, 0, none⟩ _ (fun h => hpb (by injection h))).trans hp
  have h91 : (w.setCell ⟨b, 7, none⟩ (.int .i32 1)).cell? ⟨b, 9, none⟩ = some x9 := (World.cell?_setCell_other _ ⟨b, 7, none⟩ ⟨b, 9, none⟩ _ (by simp)).trans h9
  have hnot : ∀ (x : Bool) (w : World), (Op.unary .not (.bool x)).run Tryz.prog w = .ok (.bool (!x)) w := fun _ _ => rfl
  go_enter_defers Tryz.func123, Tryz.ntmps123
  go_wp2_with (go_at_call 142; refine (lock_free ⟨b, 7, none⟩ _ (by go_simp) (by go_simp)).mono ?_; rintro e w' ⟨rfl, rfl⟩)
  go_wp2
  go_end0
  go_wp2
  refine leaves_cons (f := 144) (args := #[.pointer (some ⟨b, 6, none⟩), .bool true]) (by simp) (by simp [go_sem]) ?_
  refine (store_deferred ⟨b, 6, none⟩ (.int .u32 0) .returning _ ?_ (by simp [f0])).mono ?_
  · exact (World.cell?_setCell_other _ ⟨b, 9, none⟩ ⟨b, 6, none⟩ _ (by simp)).trans ((World.cell?_setCell_other _ ⟨b, 7, none⟩ ⟨b, 6, none⟩ _ (by simp)).trans h0)
  rintro e u' w'' ⟨rfl, rfl, rfl⟩
  refine leaves_cons (f := 143) (args := #[.pointer (some ⟨b, 7, none⟩)]) (by simp [settle]) (by simp [go_sem]) ?_
  refine (unlock_deferred ⟨b, 7, none⟩ _ _ ?_ (by simp [f1])).mono ?_
  · refine (World.cell?_setCell_other _ ⟨b, 6, none⟩ ⟨b, 7, none⟩ _ (by simp)).trans ?_
    rw [World.cell?_drew]
    exact (World.cell?_setCell_other _ ⟨b, 9, none⟩ ⟨b, 7, none⟩ _ (by simp)).trans (World.cell?_setCell_same w _ _ h1)
  rintro e u' w'' ⟨rfl, rfl, rfl⟩
  simp [Leaves, settle, results, Tryz.results123]
set_option maxHeartbeats 1600000 in
/-- '(*sync.Once).Do', not yet done, the lock free. -/
theorem do_first (b pb : Nat) (pe : Addr) (hpb : ¬ b = pb) (x9 : Value) (w : World) (hp : w.cell? ⟨pb, 0, none⟩ = some (.pointer (some ⟨b, 0, none⟩)))
    (h0 : w.cell? ⟨b, 6, none⟩ = some (.int .u32 0)) (h1 : w.cell? ⟨b, 7, none⟩ = some (.int .i32 0)) (h9 : w.cell? ⟨b, 9, none⟩ = some x9)
    (f0 : w.frozen? ⟨b, 6, none⟩ = false) (f1 : w.frozen? ⟨b, 7, none⟩ = false) (f9 : w.frozen? ⟨b, 9, none⟩ = false) :
    Calls Tryz.prog 102 #[.pointer (some ⟨b, 6, none⟩), .func (.func 103) #[] #[.pointer (some pe), .pointer (some ⟨pb, 0, none⟩)]] w fun e w' => e = .returned (.tuple #[]) ∧
      w' = (((w.setCell ⟨b, 7, none⟩ (.int .i32 1)).setCell ⟨b, 9, none⟩ (.pointer (some pe))).drew.setCell ⟨b, 6, none⟩ (.int .u32 1)).setCell ⟨b, 7, none⟩ (.int .i32 0) := by
  have hl := run_call_load (P := Tryz.prog) Tryz.func141 (by kernel_rfl) (by kernel_rfl) (by kernel_rfl) .u32 (by kernel_rfl) h0
  have hnot : ∀ (x : Bool) (w : World), (Op.unary .not (.bool x)).run Tryz.prog w = .ok (.bool (!x)) w := fun _ _ => rfl
  go_enter Tryz.func102, Tryz.ntmps102
  go_wp2_with (first | (go_at_call 123; refine (slow_any b pb pe hpb x9 _ hp h0 h1 h9 f0 f1 f9).mono ?_; rintro e w' ⟨rfl, rfl⟩) | (go_at_call 122; go_in))
  go_end0
  exact ⟨rfl, rfl⟩
end Go.Proofs.YtkiloaebokkjbaaGreat.Once
