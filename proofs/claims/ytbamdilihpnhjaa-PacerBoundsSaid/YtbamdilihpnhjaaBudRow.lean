/-
  Rows of words that a call makes by append.
-/
import Derived.Test.YtbamdilihpnhjaaRows
import Derived.Test.YtbamdilihpnhjaaPlus
import Derived.Test.YtbamdilihpnhjaaRow
import Derived.OwnWalk
import Derived.KernelRfl
import Derived.Deep.OwnRows
set_option linter.unusedSimpArgs false
set_option linter.unusedVariables false
namespace Go.Proofs.Ytbamdilihpnhjaa.Base
set_option linter.unusedVariables false
open Go.ChangeShapes Go.WideShapes Go.ChangeAt Go.RowKit

theorem infoU : (Try.prog.info? 22).map (fun i => (i.zero, i.size, i.bytes)) = some (some (.int .u64 0), 1, 8) := by kernel_rfl
def words (l : List Int) : List Value := l.map (.int .u64)
/-- A row of words of somebody's own. -/
def OwnU (w : World) (v : Value) (l : List Int) : Prop := w.ownsRow 0 22 1 v l.length (words l)
theorem OwnU.nil (w : World) : OwnU w (.slice none 0 0) [] := World.ownsRow_nil _ _ _ _
theorem OwnU.drew {w : World} {v : Value} {l : List Int} (h : OwnU w v l) : OwnU w.drew v l := h
theorem OwnU.lt {w : World} {v : Value} {l : List Int} (h : OwnU w v l) {g : Nat} (hg : v.ownBlock = some g) : g < w.heap.size := (World.ownsRow.lt h g hg).2
theorem OwnU.alloc {w : World} {v : Value} {l : List Int} (h : OwnU w v l) (o : Obj) : OwnU (w.alloc o) v l := World.ownsRow.alloc h o
theorem OwnU.kept {T : Nat → Prop} {w w' : World} {v : Value} {l : List Int} (h : OwnU w v l) (hf : Fr T w w') (hn : ∀ g, v.ownBlock = some g → ¬ T g) : OwnU w' v l := by
  obtain ⟨h1, h2⟩ := h
  refine ⟨h1, ?_⟩
  rcases h2 with h2 | ⟨g, cap, cur, hv, hg, hh, r⟩
  · exact Or.inl h2
  · exact Or.inr ⟨g, cap, cur, hv, hg, (hf.block g (lt_of_block hh) (hn g (by rw [hv]; rfl))).trans hh, r⟩
theorem OwnU.read {w : World} {v : Value} {l : List Int} (h : OwnU w v l) : ∃ a cap, v = .slice a l.length cap ∧ l.length ≤ cap ∧ cap ≤ maxLen ∧ Ints .u64 w a l := by
  obtain ⟨a, cap, e, h1, h2, _, h3⟩ := rowIn_of_own Nat.one_pos h
  exact ⟨a, cap, e, h1, h2, h3.row⟩
/-- What an append of one leaves. -/
structure AddedU (W : World) (v : Value) (l : List Int) (v' : Value) (w' : World) : Prop where
  own : OwnU w' v' l
  fr : Fr (fun k => v.ownBlock = some k) W w'
  at_ : ∀ k, v'.ownBlock = some k → v.ownBlock = some k ∨ (W.heap.size ≤ k ∧ k < w'.heap.size)
  size : W.heap.size ≤ w'.heap.size
theorem AddedU.undrew {W : World} {v : Value} {l : List Int} {v' : Value} {w' : World} (h : AddedU W.drew v l v' w') : AddedU W v l v' w' := ⟨h.own, h.fr.undrew, h.at_, h.size⟩
theorem wp_addU {o : Oper} {a : Act} {K : Act → World → Prop} {Q : Exit → Act → World → Prop} {W : World} (s : Int) (x z : Operand)
    (ho : o.op = .call { callee := .builtin .append, args := #[x, z], argTypes := #[36, 36] })
    {v : Value} {l : List Int} (hs : a.eval x = v) (hown : OwnU W v l) {g : Nat} (hz : a.eval z = .slice (some ⟨g, 0, none⟩) 1 1) (hgz : W.heap.size = g) (hl : l.length + 1 ≤ 1000000000000)
    (h : ∀ v' w', AddedU W v (l ++ [s]) v' w' → K (a.put o.dst v') w') : o.wp Try.prog a (W.alloc (.cells #[.int .u64 s] 22)) K Q := by
  subst hgz
  obtain ⟨i0, hi0, hz0, hz1, hz2⟩ := info_parts infoU
  refine wp_append_row _ x z _ ho 0 22 i0 _ 1 8 Try.underlying36 hi0 hz0 hz1 hz2 rfl (by omega) v l.length (words l) hs (hown.alloc _) (some ⟨W.heap.size, 0, none⟩) 1 1 [.int .u64 s] hz rfl (Row.lit W 22 [.int .u64 s]) (by simp [Value.oneCell']) (by unfold maxLen; omega) (by omega) (Nat.zero_le _) ?_
  intro v' w' hown' hg hat
  have hown2 : OwnU w' v' (l ++ [s]) := by
    unfold OwnU
    rw [List.length_append, show words (l ++ [s]) = words l ++ [.int .u64 s] by simp [words]]
    exact hown'
  refine h v' w' ⟨hown2, ?_, ?_, ?_⟩
  · refine ((Fr.of_below (S := fun k => v.ownBlock = some k) ((Below.refl W.heap.size W).alloc (Nat.le_refl _) (.cells [Value.int .u64 s].toArray 22)))).trans (T := fun k => v.ownBlock = some k) (Fr.of_grown hg fun k hk => hk) fun _ _ h => h
  · intro k hk
    rcases hat with h1 | h1
    · exact .inl (by rw [← h1]; exact hk)
    · refine .inr ⟨?_, hown2.lt hk⟩
      rw [h1] at hk
      injection hk with hk
      simp at hk
      omega
  · have := hg.size
    simp at this
    omega
/-- .. at a step of a region that draws its order. -/
theorem step_addU {ops : Array Oper} {o : Oper} {a : Act} {K : Act → World → Prop} {Q : Exit → Act → World → Prop} {E : Prop} {W U : World} {s : Int} (hU : U = W.alloc (.cells #[.int .u64 s] 22)) (hgd : o.guard = none) (x z : Operand)
    (ho : o.op = .call { callee := .builtin .append, args := #[x, z], argTypes := #[36, 36] })
    {v : Value} {l : List Int} (hs : a.eval x = v) (hown : OwnU W v l) {g : Nat} (hz : a.eval z = .slice (some ⟨g, 0, none⟩) 1 1) (hgz : W.heap.size = g) (hl : l.length + 1 ≤ 1000000000000)
    (h : ∀ v' w', AddedU W v (l ++ [s]) v' w' → K (a.put o.dst v') w') :
    if Region.wanted o (yielded ops a.tmps) = true then o.wp Try.prog a U K Q else E := by
  subst hU
  rw [if_pos (by simp [Region.wanted, hgd])]
  exact wp_addU s x z ho hs hown hz hgz hl h
/-- A copy: an append of what lies somewhere onto nothing. -/
theorem wp_copyU {o : Oper} {a : Act} {K : Act → World → Prop} {Q : Exit → Act → World → Prop} {W : World} (x z : Operand)
    (ho : o.op = .call { callee := .builtin .append, args := #[x, z], argTypes := #[36, 36] })
    (hs : a.eval x = .slice none 0 0) {b : Option Addr} {m c : Nat} {l : List Int} (hz : a.eval z = .slice b m c) (hm : l.length = m) (hr : Ints .u64 W b l) (hl : m ≤ 1000000000000)
    (h : ∀ v' w', OwnU w' v' l → Below W.heap.size W w' → (∀ k, v'.ownBlock = some k → W.heap.size ≤ k) → K (a.put o.dst v') w') : o.wp Try.prog a W K Q := by
  subst hm
  obtain ⟨i0, hi0, hz0, hz1, hz2⟩ := info_parts infoU
  refine wp_append_row _ x z _ ho 0 22 i0 _ 1 8 Try.underlying36 hi0 hz0 hz1 hz2 rfl (by omega) _ 0 [] hs (World.ownsRow_nil _ _ _ _) b l.length c (words l) hz (by simp [words]) hr (ints_oneCell _ _) (by unfold maxLen; omega) (by omega) (Nat.zero_le _) ?_
  intro v' w' hown' hg hat
  have hown2 : OwnU w' v' l := by
    unfold OwnU
    rw [Nat.zero_add, List.nil_append] at hown'
    exact hown'
  refine h v' w' hown2 ⟨hg.os, hg.tape, hg.output, hg.size, fun k hk => hg.block k hk (by simp [Value.ownBlock])⟩ fun k hk => ?_
  rcases hat with h1 | h1
  · rw [h1] at hk
    simp [Value.ownBlock] at hk
  · rw [h1] at hk
    injection hk with hk
    omega
theorem step_copyU {ops : Array Oper} {o : Oper} {a : Act} {K : Act → World → Prop} {Q : Exit → Act → World → Prop} {E : Prop} {W : World} (hgd : o.guard = none) (x z : Operand)
    (ho : o.op = .call { callee := .builtin .append, args := #[x, z], argTypes := #[36, 36] })
    (hs : a.eval x = .slice none 0 0) {b : Option Addr} {m c : Nat} {l : List Int} (hz : a.eval z = .slice b m c) (hm : l.length = m) (hr : Ints .u64 W b l) (hl : m ≤ 1000000000000)
    (h : ∀ v' w', OwnU w' v' l → Below W.heap.size W w' → (∀ k, v'.ownBlock = some k → W.heap.size ≤ k) → K (a.put o.dst v') w') :
    if Region.wanted o (yielded ops a.tmps) = true then o.wp Try.prog a W K Q else E := by
  rw [if_pos (by simp [Region.wanted, hgd])]
  exact wp_copyU x z ho hs hz hm hr hl h
end Go.Proofs.Ytbamdilihpnhjaa.Base
