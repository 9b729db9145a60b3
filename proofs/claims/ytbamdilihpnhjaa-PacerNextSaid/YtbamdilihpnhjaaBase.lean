/-
  What the laws' last step wants where of the new world only 'Below' is known; small words on worlds and on what a call returns.
-/
import Derived.Below
import Derived.ChangeSame
import Derived.Deep.Draws
import Derived.RowKit3
set_option linter.unusedSimpArgs false
set_option linter.unusedVariables false
namespace Go.Proofs.Ytbamdilihpnhjaa.Base
set_option linter.unusedVariables false
open Go.ChangeShapes Go.WideShapes Go.RowKit

theorem drawn {B : Nat} {a w : World} (h : Below B a w) (n : Nat) : Below B a (w.drewN n) := ⟨h.os, h.tape, h.output, h.size, h.block⟩
theorem drew1 {B : Nat} {a w : World} (h : Below B a w) : Below B a w.drew := ⟨h.os, h.tape, h.output, h.size, h.block⟩
theorem undrew {w v : World} (h : Below w.drew.heap.size w.drew v) : Below w.heap.size w v := ⟨h.os, h.tape, h.output, h.size, h.block⟩
/-- One call behind another: what lay below the first world's size lies there yet. -/
theorem next {a b c : World} (h : Below a.heap.size a b) (k : Below b.heap.size b c) : Below a.heap.size a c := h.trans (k.mono h.size)
/-- .. where the first bound is another. -/
theorem next0 {B : Nat} {a b c : World} (h : Below B a b) (hB : B ≤ b.heap.size) (k : Below b.heap.size b c) : Below B a c := h.trans (k.mono hB)
/-- Behind a call that turned nothing below, a block that lay there last: its place and its cells. -/
theorem kept_lt {w v : World} {o : Obj} (h : Below (w.alloc o).heap.size (w.alloc o) v) : w.heap.size < v.heap.size := by
  have := h.size
  simp at this
  omega
theorem kept_cell {w v : World} {cs : Array Value} {T : TypeId} (h : Below (w.alloc (.cells cs T)).heap.size (w.alloc (.cells cs T)) v) (i : Nat) {x : Value} (hx : cs[i]? = some x) : v.cell? ⟨w.heap.size, i, none⟩ = some x := by
  rw [h.cell (by simp), World.cell?_alloc_new, hx]
theorem kept_old {w v : World} {o : Obj} (h : Below (w.alloc o).heap.size (w.alloc o) v) {n : Nat} (hn : n < w.heap.size) (i : Nat) : v.cell? ⟨n, i, none⟩ = w.cell? ⟨n, i, none⟩ := by
  rw [h.cell (by simp; omega), World.cell?_alloc_lt w o ⟨n, i, none⟩ hn]
theorem below_step {w v u : World} {o : Obj} (h : Below w.heap.size w v) (k : Below (v.alloc o).heap.size (v.alloc o) u) : Below w.heap.size w u :=
  (h.alloc h.size o).trans (k.mono (by have := h.size; simp; omega))
theorem ret_u64 {a b : Int} (h : a = b) : Ending.returned (.int .u64 a) = .returned (.int .u64 b) := by rw [h]
theorem ret_i64 {a b : Int} (h : a = b) : Ending.returned (.int .i64 a) = .returned (.int .i64 b) := by rw [h]
theorem ret_bool {a b : Bool} (h : a = b) : Ending.returned (.bool a) = .returned (.bool b) := by rw [h]
theorem u64_of {a : Int} (h : (Lit.int .u64 a).wf = true) : 0 ≤ a ∧ a ≤ 18446744073709551615 := by
  simp [Lit.wf, IntKind.min, IntKind.max, IntKind.bits, IntKind.signed] at h
  omega
theorem i64_of {a : Int} (h : (Lit.int .i64 a).wf = true) : -9223372036854775808 ≤ a ∧ a ≤ 9223372036854775807 := by
  simp [Lit.wf, IntKind.min, IntKind.max, IntKind.bits, IntKind.signed] at h
  omega
theorem u32_of {a : Int} (h : (Lit.int .u32 a).wf = true) : 0 ≤ a ∧ a ≤ 4294967295 := by
  simp [Lit.wf, IntKind.min, IntKind.max, IntKind.bits, IntKind.signed] at h
  omega
theorem u16_of {a : Int} (h : (Lit.int .u16 a).wf = true) : 0 ≤ a ∧ a ≤ 65535 := by
  simp [Lit.wf, IntKind.min, IntKind.max, IntKind.bits, IntKind.signed] at h
  omega
theorem u8_of {a : Int} (h : (Lit.int .u8 a).wf = true) : 0 ≤ a ∧ a ≤ 255 := by
  simp [Lit.wf, IntKind.min, IntKind.max, IntKind.bits, IntKind.signed] at h
  omega
theorem i8_of {a : Int} (h : (Lit.int .i8 a).wf = true) : -128 ≤ a ∧ a ≤ 127 := by
  simp [Lit.wf, IntKind.min, IntKind.max, IntKind.bits, IntKind.signed] at h
  omega

section
variable {H : Type} {enc : TypeId × Value → H} {P : Program}
/-- The row's end for a call that made blocks of its own and turned none that was there. -/
theorem post_below {f : Func} {s : ChangeSpec} {apart fresh handsOn again : Bool} {W W' : World} {args : Array Value} {v : Value} {ds gs : List (DataW H)} {before pa pv : List MemPlace}
    (hW : DataW.Whole enc P f.params.toList s.vars apart W args.toList ds gs before)
    (hres : ∀ (b : Nat) (sp : Nat → Bool) (hd : Bool), DataW.TrodAll enc P W' b sp hd f.resultTypes.toList (v.resultList f.resultTypes.size) (s.fn H (ds ++ gs)).results [])
    (hargs : ∀ sp : Nat → Bool, (∀ p ∈ before, sp p.block = true) → DataW.TrodAll enc P W' 0 sp true f.params.toList args.toList (s.fn H (ds ++ gs)).args pa)
    (hvars : ∀ sp : Nat → Bool, (∀ p ∈ before, sp p.block = true) → DataW.TrodVars enc P W' sp s.vars (s.fn H (ds ++ gs)).vars pv)
    (hps : before = pa ++ pv) (hg : Below W.heap.size W W')
    (hok : ∀ (j : Nat) (t : TypeId) (r : Value), f.resultTypes[j]? = some t → (v.resultList f.resultTypes.size)[j]? = some r → Value.okWide P W' .any 0 t r) :
    s.post enc P f apart fresh handsOn again W args v W' := by
  have old : ∀ p ∈ before, (fun b => decide (b < W.heap.size)) p.block = true := by
    intro p hp
    simpa using hW.lt p hp
  have mem : ∀ p : MemPlace, p ∈ ([] ++ pa) ++ pv ↔ p ∈ before := by intro p; rw [hps, List.nil_append]
  have kept := hg.frame (· ∈ before)
  have all := trodAll_append (hargs _ (fun _ _ => rfl)) (hres 0 (fun _ => true) true)
  obtain ⟨w1, w2, w3, w4, w5, frz, nodup⟩ := id hW
  refine ⟨ds, gs, before, [], pa, pv, hW, hres _ _ _, hargs _ old, hvars _ old, World.keptBut_mono (fun p hp => ⟨hp, ?_⟩) kept, fun _ => ?_⟩
  · exact .inr (by simpa using (mem p).2 hp)
  · refine ⟨hok, _, _, ([] ++ pa) ++ pv, ⟨[] ++ pa, pv, all, hvars _ (fun _ _ => rfl), rfl, ?_, ?_⟩, fun p hp _ => (mem p).1 hp⟩
    · intro b off hp
      have hb := (mem _).1 hp
      rw [hg.frozen (hW.lt _ hb)]
      exact frz b off hb
    · intro ha
      have hn := nodup ha
      rw [hps] at hn
      exact hn
end
end Go.Proofs.Ytbamdilihpnhjaa.Base
