/-
  Several texts in one: BudRow, BudVw.
-/
import Derived.Test.YtkiloaebokkjbaaGreatRows
import Derived.Test.YtkiloaebokkjbaaGreatPlus
import Derived.Test.YtkiloaebokkjbaaGreatRow
import Derived.OwnWalk
import Derived.KernelRfl
import Derived.Deep.OwnRows
import Derived.Laws.IdiomCopy
import Derived.ArgAppend
/-
  Rows of words that a call makes by append.
-/
set_option linter.unusedSimpArgs false
set_option linter.unusedVariables false
namespace Go.Proofs.YtkiloaebokkjbaaGreat.Base
set_option linter.unusedVariables false
open Go.ChangeShapes Go.WideShapes Go.ChangeAt Go.RowKit

theorem infoU : (Tryz.prog.info? 23).map (fun i => (i.zero, i.size, i.bytes)) = some (some (.int .u64 0), 1, 8) := by kernel_rfl
def words (l : List Int) : List Value := l.map (.int .u64)
/-- A row of words of somebody's own. -/
def OwnU (w : World) (v : Value) (l : List Int) : Prop := w.ownsRow 0 23 1 v l.length (words l)
theorem OwnU.nil (w : World) : OwnU w (.slice none 0 0) [] := World.ownsRow_nil _ _ _ _
theorem OwnU.drew {w : World} {v : Value} {l : List Int} (h : OwnU w v l) : OwnU w.drew v l := h
theorem OwnU.lt {w : World} {v : Value} {l : List Int} (h : OwnU w v l) {g : Nat} (hg : v.ownBlock = some g) : g < w.heap.size := (World.ownsRow.lt h g hg).2
theorem OwnU.alloc {w : World} {v : Value} {l : List Int} (h : OwnU w v l) (o : Obj) : OwnU (w.alloc o) v l := World.ownsRow.alloc h o
theorem OwnU.kept {T : Nat → Prop} {w w' : World} {v : Value} {l : List Int} (h : OwnU w v l) (hf : Fr T w w') (hn : ∀ g, v.ownBlock = some g → ¬ T g) : OwnU w' v l := by
  obtain ⟨h1, h2⟩ := h
  refine ⟨h1, ?_⟩
  rcases h2 with h2 | ⟨g, cap, cur, hv, hg, hh, r⟩
  · exact Or.inl h2
  · exact Or.inr ⟨g, cap, cur, hv, hg, (hf.block g (lt_of_block hh) (hn g (by rw [hv]; rfl))).trans hh, r⟩
theorem OwnU.read {w : World} {v : Value} {l : List Int} (h : OwnU w v l) : ∃ a cap, v = .slice a l.length cap ∧ l.length ≤ cap ∧ cap ≤ maxLen ∧ Ints .u64 w a l := by
  obtain ⟨a, cap, e, h1, h2, _, h3⟩ := rowIn_of_own Nat.one_pos h
  exact ⟨a, cap, e, h1, h2, h3.row⟩
/-- What an append of one leaves. -/
structure AddedU (W : World) (v : Value) (l : List Int) (v' : Value) (w' : World) : Prop where
  own : OwnU w' v' l
  fr : Fr (fun k => v.ownBlock = some k) W w'
  at_ : ∀ k, v'.ownBlock = some k → v.ownBlock = some k ∨ (W.heap.size ≤ k ∧ k < w'.heap.size)
  size : W.heap.size ≤ w'.heap.size
theorem AddedU.undrew {W : World} {v : Value} {l : List Int} {v' : Value} {w' : World} (h : AddedU W.drew v l v' w') : AddedU W v l v' w' := ⟨h.own, h.fr.undrew, h.at_, h.size⟩
theorem wp_addU {o : Oper} {a : Act} {K : Act → World → Prop} {Q : Exit → Act → World → Prop} {W : World} (s : Int) (x z : Operand)
    (ho : o.op = .call { callee := .builtin .append, args := #[x, z], argTypes := #[153, 153] })
    {v : Value} {l : List Int} (hs : a.eval x = v) (hown : OwnU W v l) {g : Nat} (hz : a.eval z = .slice (some ⟨g, 0, none⟩) 1 1) (hgz : W.heap.size = g) (hl : l.length + 1 ≤ 1000000000000)
    (h : ∀ v' w', AddedU W v (l ++ [s]) v' w' → K (a.put o.dst v') w') : o.wp Tryz.prog a (W.alloc (.cells #[.int .u64 s] 23)) K Q := by
  subst hgz
  obtain ⟨i0, hi0, hz0, hz1, hz2⟩ := info_parts infoU
  refine wp_append_row _ x z _ ho 0 23 i0 _ 1 8 Tryz.underlying153 hi0 hz0 hz1 hz2 rfl (by omega) v l.length (words l) hs (hown.alloc _) (some ⟨W.heap.size, 0, none⟩) 1 1 [.int .u64 s] hz rfl (Row.lit W 23 [.int .u64 s]) (by simp [Value.oneCell']) (by unfold maxLen; omega) (by omega) (Nat.zero_le _) ?_
  intro v' w' hown' hg hat
  have hown2 : OwnU w' v' (l ++ [s]) := by
    unfold OwnU
    rw [List.length_append, show words (l ++ [s]) = words l ++ [.int .u64 s] by simp [words]]
    exact hown'
  refine h v' w' ⟨hown2, ?_, ?_, ?_⟩
  · refine ((Fr.of_below (S := fun k => v.ownBlock = some k) ((Below.refl W.heap.size W).alloc (Nat.le_refl _) (.cells [Value.int .u64 s].toArray 23)))).trans (T := fun k => v.ownBlock = some k) (Fr.of_grown hg fun k hk => hk) fun _ _ h => h
  · intro k hk
    rcases hat with h1 | h1
    · exact .inl (by rw [← h1]; exact hk)
    · refine .inr ⟨?_, hown2.lt hk⟩
      rw [h1] at hk
      injection hk with hk
      simp at hk
      omega
  · have := hg.size
    simp at this
    omega
/-- .. at a step of a region that draws its order. -/
theorem step_addU {ops : Array Oper} {o : Oper} {a : Act} {K : Act → World → Prop} {Q : Exit → Act → World → Prop} {E : Prop} {W U : World} {s : Int} (hU : U = W.alloc (.cells #[.int .u64 s] 23)) (hgd : o.guard = none) (x z : Operand)
    (ho : o.op = .call { callee := .builtin .append, args := #[x, z], argTypes := #[153, 153] })
    {v : Value} {l : List Int} (hs : a.eval x = v) (hown : OwnU W v l) {g : Nat} (hz : a.eval z = .slice (some ⟨g, 0, none⟩) 1 1) (hgz : W.heap.size = g) (hl : l.length + 1 ≤ 1000000000000)
    (h : ∀ v' w', AddedU W v (l ++ [s]) v' w' → K (a.put o.dst v') w') :
    if Region.wanted o (yielded ops a.tmps) = true then o.wp Tryz.prog a U K Q else E := by
  subst hU
  rw [if_pos (by simp [Region.wanted, hgd])]
  exact wp_addU s x z ho hs hown hz hgz hl h
/-- A copy: an append of what lies somewhere onto nothing. -/
theorem wp_copyU {o : Oper} {a : Act} {K : Act → World → Prop} {Q : Exit → Act → World → Prop} {W : World} (x z : Operand)
    (ho : o.op = .call { callee := .builtin .append, args := #[x, z], argTypes := #[153, 153] })
    (hs : a.eval x = .slice none 0 0) {b : Option Addr} {m c : Nat} {l : List Int} (hz : a.eval z = .slice b m c) (hm : l.length = m) (hr : Ints .u64 W b l) (hl : m ≤ 1000000000000)
    (h : ∀ v' w', OwnU w' v' l → Below W.heap.size W w' → (∀ k, v'.ownBlock = some k → W.heap.size ≤ k) → K (a.put o.dst v') w') : o.wp Tryz.prog a W K Q := by
  subst hm
  obtain ⟨i0, hi0, hz0, hz1, hz2⟩ := info_parts infoU
  refine wp_append_row _ x z _ ho 0 23 i0 _ 1 8 Tryz.underlying153 hi0 hz0 hz1 hz2 rfl (by omega) _ 0 [] hs (World.ownsRow_nil _ _ _ _) b l.length c (words l) hz (by simp [words]) hr (ints_oneCell _ _) (by unfold maxLen; omega) (by omega) (Nat.zero_le _) ?_
  intro v' w' hown' hg hat
  have hown2 : OwnU w' v' l := by
    unfold OwnU
    rw [Nat.zero_add, List.nil_append] at hown'
    exact hown'
  refine h v' w' hown2 ⟨hg.os, hg.tape, hg.output, hg.size, fun k hk => hg.block k hk (by simp [Value.ownBlock])⟩ fun k hk => ?_
  rcases hat with h1 | h1
  · rw [h1] at hk
    simp [Value.ownBlock] at hk
  · rw [h1] at hk
    injection hk with hk
    omega
end Go.Proofs.YtkiloaebokkjbaaGreat.Base

/-
  Rows of words that lie from some place of a block of their own on: what is left of a row whose first elements were cut off. One more by append, the rest behind the first.
-/
set_option linter.unusedSimpArgs false
set_option linter.unusedVariables false
namespace Go.Proofs.YtkiloaebokkjbaaGreat.Base
set_option linter.unusedVariables false
set_option maxRecDepth 20000
open Go.ChangeShapes Go.WideShapes Go.ChangeAt Go.RowKit

/-- The value v is a row of the words l, from some place of a block on, whose cells up to the capacity may be written. -/
def Vw (w : World) (v : Value) (l : List Int) : Prop :=
  (v = .slice none 0 0 ∧ l = []) ∨ ∃ g off cap cur, v = .slice (some ⟨g, off, none⟩) l.length cap ∧ w.heap[g]? = some (.cells cur 23 (0, 0)) ∧ l.length ≤ cap ∧ cap ≤ maxLen ∧ off + cap ≤ cur.size ∧ ∀ j u, (words l)[j]? = some u → cur[off + j]? = some u
theorem Vw.nil (w : World) : Vw w (.slice none 0 0) [] := .inl ⟨rfl, rfl⟩
theorem Vw.of_own {w : World} {v : Value} {l : List Int} (h : OwnU w v l) : Vw w v l := by
  rcases h.2 with ⟨h1, h2⟩ | ⟨g, cap, cur, h1, _, h3, h4, h5, h6, h7⟩
  · exact .inl ⟨h1, List.eq_nil_of_length_eq_zero h2⟩
  · refine .inr ⟨g, 0, cap, cur, h1, h3, h4, h5, by omega, fun j u hj => ?_⟩
    rw [← h7, List.getElem?_take] at hj
    split at hj
    · rw [Nat.zero_add, ← Array.getElem?_toList]
      exact hj
    · cases hj
theorem Vw.drew {w : World} {v : Value} {l : List Int} (h : Vw w v l) : Vw w.drew v l := h
theorem Vw.lt {w : World} {v : Value} {l : List Int} (h : Vw w v l) {k : Nat} (hk : v.ownBlock = some k) : k < w.heap.size := by
  rcases h with ⟨rfl, _⟩ | ⟨g, off, cap, cur, rfl, hh, _⟩
  · cases hk
  · cases hk
    exact lt_of_block hh
theorem Vw.kept {T : Nat → Prop} {w w' : World} {v : Value} {l : List Int} (h : Vw w v l) (hf : Fr T w w') (hn : ∀ g, v.ownBlock = some g → ¬ T g) : Vw w' v l := by
  rcases h with h | ⟨g, off, cap, cur, hv, hh, r⟩
  · exact .inl h
  · exact .inr ⟨g, off, cap, cur, hv, (hf.block g (lt_of_block hh) (hn g (by rw [hv]; rfl))).trans hh, r⟩
theorem Vw.alloc {w : World} {v : Value} {l : List Int} (h : Vw w v l) (o : Obj) : Vw (w.alloc o) v l :=
  h.kept (T := fun _ => False) ((Fr.refl _ w).alloc o) fun _ _ h => h
theorem Vw.read {w : World} {v : Value} {l : List Int} (h : Vw w v l) : ∃ a cap, v = .slice a l.length cap ∧ l.length ≤ cap ∧ cap ≤ maxLen ∧ Ints .u64 w a l := by
  rcases h with ⟨rfl, rfl⟩ | ⟨g, off, cap, cur, rfl, hh, h1, h2, _, h3⟩
  · exact ⟨none, 0, rfl, Nat.le_refl _, by unfold maxLen; omega, .nil _ _ _⟩
  · refine ⟨_, cap, rfl, h1, h2, fun j u hj => ⟨g, off, rfl, lt_of_block hh, ?_⟩⟩
    simp only [World.cell?, hh]
    exact h3 j u hj
/-- What is left behind the first. -/
theorem Vw.tail {w : World} {g off cap : Nat} {x : Int} {l : List Int} (h : Vw w (.slice (some ⟨g, off, none⟩) (l.length + 1) cap) (x :: l)) : Vw w (.slice (if cap = 1 then some ⟨g, off, none⟩ else some ⟨g, off + 1, none⟩) l.length (cap - 1)) l := by
  rcases h with ⟨e, _⟩ | ⟨g', off', cap', cur, e, hh, h1, h2, h4, h3⟩
  · cases e
  · injection e with e1 e2 e3
    injection e1 with e1
    injection e1 with e4 e5
    subst e3 e4 e5
    simp only [List.length_cons] at h1
    by_cases hc : cap = 1
    · rw [if_pos hc]
      have hl : l = [] := List.eq_nil_of_length_eq_zero (by omega)
      subst hl
      exact .inr ⟨g, off, cap - 1, cur, rfl, hh, by simp, by omega, by omega, fun j u hj => by simp [words] at hj⟩
    · rw [if_neg hc]
      refine .inr ⟨g, off + 1, cap - 1, cur, rfl, hh, by omega, by omega, by omega, fun j u hj => ?_⟩
      rw [show off + 1 + j = off + (j + 1) by omega]
      exact h3 (j + 1) u (by simpa [words] using hj)
/-- What an append of one leaves. -/
structure AddedV (W : World) (v : Value) (l : List Int) (v' : Value) (w' : World) : Prop where
  own : Vw w' v' l
  fr : Fr (fun k => v.ownBlock = some k) W w'
  at_ : ∀ k, v'.ownBlock = some k → v.ownBlock = some k ∨ (W.heap.size ≤ k ∧ k < w'.heap.size)
  size : W.heap.size ≤ w'.heap.size
theorem AddedV.undrew {W : World} {v : Value} {l : List Int} {v' : Value} {w' : World} (h : AddedV W.drew v l v' w') : AddedV W v l v' w' := ⟨h.own, h.fr.undrew, h.at_, h.size⟩
theorem added_own {W w' : World} {v v' : Value} {l : List Int} {B : Nat} (hB : W.heap.size ≤ B) (hown : w'.ownsRow B 23 1 v' l.length (words l)) (hf : Fr (fun k => v.ownBlock = some k) W w') : AddedV W v l v' w' := by
  have ho : OwnU w' v' l := by
    refine ⟨hown.1, hown.2.imp id fun ⟨g, cap, cur, h1, h2, h3⟩ => ⟨g, cap, cur, h1, Nat.zero_le _, h3⟩⟩
  exact ⟨.of_own ho, hf, fun k hk => .inr ⟨by have := (hown.lt k hk).1; omega, (hown.lt k hk).2⟩, hf.size⟩
theorem words_snoc (l : List Int) (s : Int) : words (l ++ [s]) = words l ++ [.int .u64 s] := by simp [words]
theorem wp_addV {o : Oper} {a : Act} {K : Act → World → Prop} {Q : Exit → Act → World → Prop} {W : World} (s : Int) (x z : Operand)
    (ho : o.op = .call { callee := .builtin .append, args := #[x, z], argTypes := #[153, 153] })
    {v : Value} {l : List Int} (hs : a.eval x = v) (hown : Vw W v l) {g : Nat} (hz : a.eval z = .slice (some ⟨g, 0, none⟩) 1 1) (hgz : W.heap.size = g) (hl : l.length + 1 ≤ 1000000000000)
    (h : ∀ v' w', AddedV W v (l ++ [s]) v' w' → K (a.put o.dst v') w') : o.wp Tryz.prog a (W.alloc (.cells #[.int .u64 s] 23)) K Q := by
  subst hgz
  obtain ⟨i0, hi0, hz0, hz1, hz2⟩ := info_parts infoU
  have hF0 : Fr (fun k => v.ownBlock = some k) W (W.alloc (.cells #[.int .u64 s] 23)) := (Fr.refl _ W).alloc _
  have hV1 := hown.alloc (.cells #[.int .u64 s] 23)
  have hsz : (W.alloc (.cells #[.int .u64 s] 23)).heap.size = W.heap.size + 1 := by simp
  have hnew : ∀ j u, ([Value.int .u64 s] : List Value)[j]? = some u → (W.alloc (.cells #[.int .u64 s] 23)).cell? ((⟨W.heap.size, 0, none⟩ : Addr).add j) = some u := fun j u hj => by
    obtain ⟨b, off, e, _, hc⟩ := (Row.lit W 23 [.int .u64 s]) j u hj
    cases e
    rw [Go.WideShapes.add_plain]
    exact hc
  rcases hV1 with ⟨hv, hl0⟩ | ⟨g, off, cap, cur, hv, hh, h1, h2, h4, h3⟩
  · subst hv hl0
    refine wp_append_row _ x z _ ho 0 23 i0 _ 1 8 Tryz.underlying153 hi0 hz0 hz1 hz2 rfl (by omega) _ 0 [] hs (World.ownsRow_nil _ _ _ _) (some ⟨W.heap.size, 0, none⟩) 1 1 [.int .u64 s] hz rfl (Row.lit W 23 [.int .u64 s]) (by simp [Value.oneCell']) (by unfold maxLen; omega) (by omega) (Nat.zero_le _) ?_
    intro v' w' hown' hg hat
    have hf := hF0.trans (T := fun k => (Value.slice none 0 0).ownBlock = some k) (Fr.of_grown hg fun k hk => hk) fun _ _ h => h
    have hsz2 := hg.size
    have hlt := hown'.lt
    refine h v' w' ⟨.of_own (l := [s]) ⟨hown'.1, hown'.2⟩, hf, fun k hk => .inr ⟨?_, (hlt k hk).2⟩, hf.size⟩
    rcases hat with h1 | h1
    · rw [h1] at hk
      cases hk
    · rw [h1] at hk
      injection hk with hk
      omega
  · subst hv
    generalize hU : W.alloc (.cells #[.int .u64 s] 23) = U at *
    have hUl : (U.alloc (.cells #[] 0)).heap.size = W.heap.size + 1 + 1 := by simp; omega
    have hgU : g < U.heap.size := lt_of_block hh
    unfold Oper.wp execOp
    simp only [ho, resolve, invoke, builtin, Sem.run_bind, Sem.run_pure, Result.andThen_ok, List.map_toArray, List.map_cons, List.map_nil, hs, hz]
    by_cases hr : l.length + 1 ≤ cap
    · have hc : ∀ j, j < ([Value.int .u64 s] : List Value).length → (U.cell? ⟨g, off + l.length * i0.size + j, none⟩).isSome = true := fun j hj => by
        have : j = 0 := by simpa using hj
        subst this
        simp only [World.cell?, hh, hz1]
        rw [Array.getElem?_eq_getElem (by omega)]
        rfl
      have hf : ∀ j, j < ([Value.int .u64 s] : List Value).length → U.frozen? ⟨g, off + l.length * i0.size + j, none⟩ = false := fun j hj => by simp [World.frozen?, hh]
      have hrun := run_append_room_cells (P := Tryz.prog) U 153 o.type 23 i0 Tryz.underlying153 hi0 g off l.length cap ⟨W.heap.size, 0, none⟩ 1 1 [.int .u64 s] (by rw [hz1]; rfl) hnew (by simp [Value.oneCell']) hr hc hf
      rw [hrun]
      refine h _ _ ?_
      simp only [World.setCells, hz1, Nat.mul_one]
      have hF1 : Fr (fun k => (Value.slice (some ⟨g, off, none⟩) l.length cap).ownBlock = some k) W (U.setCell ⟨g, off + l.length, none⟩ (.int .u64 s)) := hF0.setCell (p := ⟨g, off + l.length, none⟩) (fun _ => rfl) _
      refine ⟨.inr ⟨g, off, cap, cur.setIfInBounds (off + l.length) (.int .u64 s), by simp, ?_, by simpa using hr, h2, by simpa using h4, fun j u hj => ?_⟩, hF1, fun k hk => .inl hk, hF1.size⟩
      · exact Blk.set (T := 23) hh (off + l.length) (.int .u64 s)
      · rw [words_snoc] at hj
        by_cases hlt : j < l.length
        · rw [List.getElem?_append_left (by simpa [words] using hlt)] at hj
          rw [Array.getElem?_setIfInBounds_ne (by omega)]
          exact h3 j u hj
        · have hj' : j = l.length := by
            have := (List.getElem?_eq_some_iff.1 hj).1
            simp [words] at this
            omega
          subst hj'
          rw [List.getElem?_append_right (by simp [words])] at hj
          simp [words] at hj
          subst hj
          rw [Array.getElem?_setIfInBounds_self_of_lt (by omega)]
    · obtain ⟨v', w', hrun, r1, r2⟩ := run_append_arg_grows (P := Tryz.prog) U 153 o.type 23 i0 _ 1 8 Tryz.underlying153 hi0 hz0 hz1 hz2 rfl (by omega) ⟨g, off, none⟩ l.length cap (words l) (by simp [words]) (fun j u hj => by rw [Go.WideShapes.add_plain]; simp only [World.cell?, hh]; exact h3 j u hj) ⟨W.heap.size, 0, none⟩ 1 1 [.int .u64 s] rfl hnew (by omega) (by unfold maxLen; omega) (by omega)
      rw [hrun]
      refine h _ _ (added_own (B := U.heap.size) (by omega) ?_ (hF0.trans (T := fun _ => False) (Fr.of_grown r2 fun k hk => by cases hk) fun _ _ h => h.elim))
      rw [List.length_append, words_snoc]
      exact r1
/-- .. at a step of a region that draws its order. -/
theorem step_addV {ops : Array Oper} {o : Oper} {a : Act} {K : Act → World → Prop} {Q : Exit → Act → World → Prop} {E : Prop} {W U : World} {s : Int} (hU : U = W.alloc (.cells #[.int .u64 s] 23)) (hgd : o.guard = none) (x z : Operand)
    (ho : o.op = .call { callee := .builtin .append, args := #[x, z], argTypes := #[153, 153] })
    {v : Value} {l : List Int} (hs : a.eval x = v) (hown : Vw W v l) {g : Nat} (hz : a.eval z = .slice (some ⟨g, 0, none⟩) 1 1) (hgz : W.heap.size = g) (hl : l.length + 1 ≤ 1000000000000)
    (h : ∀ v' w', AddedV W v (l ++ [s]) v' w' → K (a.put o.dst v') w') :
    if Region.wanted o (yielded ops a.tmps) = true then o.wp Tryz.prog a U K Q else E := by
  subst hU
  rw [if_pos (by simp [Region.wanted, hgd])]
  exact wp_addV s x z ho hs hown hz hgz hl h
end Go.Proofs.YtkiloaebokkjbaaGreat.Base
