/-
  Rows of what is kept of numbers that a call makes by append.
-/
import Derived.Test.YtoncominjgkjoaaLedRow
set_option linter.unusedSimpArgs false
set_option linter.unusedVariables false
namespace Go.Proofs.Ytoncominjgkjoaa.Base
set_option linter.unusedVariables false
open Go.ChangeShapes Go.WideShapes Go.ChangeAt Go.RowKit
open Go.Proofs.Ytoncominjgkjoaa.LedPlain

/-- What an append of one leaves. -/
structure Added8 (W : World) (v : Value) (l : List Sn) (v' : Value) (w' : World) : Prop where
  own : Owns w' v' l
  fr : Fr (fun k => v.ownBlock = some k) W w'
  at_ : ∀ k, v'.ownBlock = some k → v.ownBlock = some k ∨ (W.heap.size ≤ k ∧ k < w'.heap.size)
  size : W.heap.size ≤ w'.heap.size
theorem Added8.undrew {W : World} {v : Value} {l : List Sn} {v' : Value} {w' : World} (h : Added8 W.drew v l v' w') : Added8 W v l v' w' := ⟨h.own, h.fr.undrew, h.at_, h.size⟩
theorem wp_add8 {o : Oper} {a : Act} {K : Act → World → Prop} {Q : Exit → Act → World → Prop} {W : World} (s : Sn) (x z : Operand)
    (ho : o.op = .call { callee := .builtin .append, args := #[x, z], argTypes := #[46, 46] })
    {v : Value} {l : List Sn} (hs : a.eval x = v) (hown : Owns W v l) {g : Nat} (hz : a.eval z = .slice (some ⟨g, 0, none⟩) 1 1) (hgz : W.heap.size = g) (hl : l.length + 1 ≤ 1000000000000)
    (h : ∀ v' w', Added8 W v (l ++ [s]) v' w' → K (a.put o.dst v') w') : o.wp Try.prog a (W.alloc (.cells #[.int .u64 s.pn, .int .u64 s.off, .int .u64 s.len, .int .u64 s.nonce, .int .u64 s.time, .bool s.coin, .bool s.used, .int .i64 s.state] 42)) K Q := by
  subst hgz
  obtain ⟨i0, hi0, hz0, hz1, hz2⟩ := info_parts info8
  refine wp_append_row _ x z _ ho 0 42 i0 _ 8 56 Try.underlying46 hi0 hz0 hz1 hz2 rfl (by omega) v l.length (sents l) hs (hown.alloc _) (some ⟨W.heap.size, 0, none⟩) 1 1 (sv s) hz rfl (Row.lit W 42 (sv s)) (fun u hu => sents_one [s] u (by simpa [sents] using hu)) (by unfold maxLen; omega) (by omega) (Nat.zero_le _) ?_
  intro v' w' hown' hg hat
  have hown2 : Owns w' v' (l ++ [s]) := by
    unfold Owns
    rw [sents_append, List.length_append, show sents [s] = sv s from by simp [sents]]
    exact hown'
  refine h v' w' ⟨hown2, ?_, ?_, ?_⟩
  · refine ((Fr.of_below (S := fun k => v.ownBlock = some k) ((Below.refl W.heap.size W).alloc (Nat.le_refl _) (.cells (sv s).toArray 42)))).trans (T := fun k => v.ownBlock = some k) (Fr.of_grown hg fun k hk => hk) fun _ _ h => h
  · intro k hk
    rcases hat with h1 | h1
    · exact .inl (by rw [← h1]; exact hk)
    · refine .inr ⟨?_, hown2.lt hk⟩
      rw [h1] at hk
      injection hk with hk
      simp at hk
      omega
  · have := hg.size
    simp at this
    omega
/-- .. at a step of a region that draws its order. -/
theorem step_add8 {ops : Array Oper} {o : Oper} {a : Act} {K : Act → World → Prop} {Q : Exit → Act → World → Prop} {E : Prop} {W U : World} {s : Sn} (hU : U = W.alloc (.cells #[.int .u64 s.pn, .int .u64 s.off, .int .u64 s.len, .int .u64 s.nonce, .int .u64 s.time, .bool s.coin, .bool s.used, .int .i64 s.state] 42)) (hgd : o.guard = none) (x z : Operand)
    (ho : o.op = .call { callee := .builtin .append, args := #[x, z], argTypes := #[46, 46] })
    {v : Value} {l : List Sn} (hs : a.eval x = v) (hown : Owns W v l) {g : Nat} (hz : a.eval z = .slice (some ⟨g, 0, none⟩) 1 1) (hgz : W.heap.size = g) (hl : l.length + 1 ≤ 1000000000000)
    (h : ∀ v' w', Added8 W v (l ++ [s]) v' w' → K (a.put o.dst v') w') :
    if Region.wanted o (yielded ops a.tmps) = true then o.wp Try.prog a U K Q else E := by
  subst hU
  rw [if_pos (by simp [Region.wanted, hgd])]
  exact wp_add8 s x z ho hs hown hz hgz hl h
/-- A copy: an append of what lies somewhere onto nothing. -/
theorem wp_copy8 {o : Oper} {a : Act} {K : Act → World → Prop} {Q : Exit → Act → World → Prop} {W : World} (x z : Operand)
    (ho : o.op = .call { callee := .builtin .append, args := #[x, z], argTypes := #[46, 46] })
    (hs : a.eval x = .slice none 0 0) {b : Option Addr} {m c : Nat} {l : List Sn} (hz : a.eval z = .slice b m c) (hm : l.length = m) (hr : Sents W b l) (hl : m ≤ 1000000000000)
    (h : ∀ v' w', Owns w' v' l → Below W.heap.size W w' → (∀ k, v'.ownBlock = some k → W.heap.size ≤ k) → K (a.put o.dst v') w') : o.wp Try.prog a W K Q := by
  subst hm
  obtain ⟨i0, hi0, hz0, hz1, hz2⟩ := info_parts info8
  refine wp_append_row _ x z _ ho 0 42 i0 _ 8 56 Try.underlying46 hi0 hz0 hz1 hz2 rfl (by omega) _ 0 [] hs (World.ownsRow_nil _ _ _ _) b l.length c (sents l) hz (sents_len l) hr (sents_one l) (by unfold maxLen; omega) (by omega) (Nat.zero_le _) ?_
  intro v' w' hown' hg hat
  have hown2 : Owns w' v' l := by
    unfold Owns
    rw [Nat.zero_add, List.nil_append] at hown'
    exact hown'
  refine h v' w' hown2 ⟨hg.os, hg.tape, hg.output, hg.size, fun k hk => hg.block k hk (by simp [Value.ownBlock])⟩ fun k hk => ?_
  rcases hat with h1 | h1
  · rw [h1] at hk
    simp [Value.ownBlock] at hk
  · rw [h1] at hk
    injection hk with hk
    omega
theorem step_copy8 {ops : Array Oper} {o : Oper} {a : Act} {K : Act → World → Prop} {Q : Exit → Act → World → Prop} {E : Prop} {W : World} (hgd : o.guard = none) (x z : Operand)
    (ho : o.op = .call { callee := .builtin .append, args := #[x, z], argTypes := #[46, 46] })
    (hs : a.eval x = .slice none 0 0) {b : Option Addr} {m c : Nat} {l : List Sn} (hz : a.eval z = .slice b m c) (hm : l.length = m) (hr : Sents W b l) (hl : m ≤ 1000000000000)
    (h : ∀ v' w', Owns w' v' l → Below W.heap.size W w' → (∀ k, v'.ownBlock = some k → W.heap.size ≤ k) → K (a.put o.dst v') w') :
    if Region.wanted o (yielded ops a.tmps) = true then o.wp Try.prog a W K Q else E := by
  rw [if_pos (by simp [Region.wanted, hgd])]
  exact wp_copy8 x z ho hs hz hm hr hl h
end Go.Proofs.Ytoncominjgkjoaa.Base
