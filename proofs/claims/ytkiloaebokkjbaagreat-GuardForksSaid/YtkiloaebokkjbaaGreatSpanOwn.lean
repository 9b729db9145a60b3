/-
  Rows of spans that a call makes by append.
-/
import Derived.Test.YtkiloaebokkjbaaGreatRows
import Derived.Test.YtkiloaebokkjbaaGreatM12
import Derived.WalkKit
import Derived.ProofKit
import Derived.OpenShut
import Derived.OwnWalk
import Derived.Deep.OwnRows
set_option linter.unusedSimpArgs false
set_option linter.unusedVariables false
namespace Go.Proofs.YtkiloaebokkjbaaGreat.Base
set_option linter.unusedVariables false
open Go.ChangeShapes Go.WideShapes Go.ChangeAt Go.RowKit
open Go.Proofs.YtkiloaebokkjbaaGreat.SpanPlain

theorem info : (Tryz.prog.info? 119).map (fun i => (i.zero, i.size, i.bytes)) = some (some (.agg #[.int .u64 0, .int .u64 0]), 2, 16) := by kernel_rfl
/-- A row of the call's own of these spans. -/
def Own (base : Nat) (w : World) (v : Value) (l : List Sp) : Prop := w.ownsRow base 119 2 v l.length (flat l)
theorem Own.nil (base : Nat) (w : World) : Own base w (.slice none 0 0) [] := World.ownsRow_nil _ _ _ _
theorem Own.drew {base : Nat} {w : World} {v : Value} {l : List Sp} (h : Own base w v l) : Own base w.drew v l := h
theorem Own.drewN {base : Nat} {w : World} {v : Value} {l : List Sp} (h : Own base w v l) (n : Nat) : Own base (w.drewN n) v l := h
theorem Own.alloc {base : Nat} {w : World} {v : Value} {l : List Sp} (h : Own base w v l) (o : Obj) : Own base (w.alloc o) v l := World.ownsRow.alloc h o
theorem Own.read {base : Nat} {w : World} {v : Value} {l : List Sp} (h : Own base w v l) : ∃ a cap, v = .slice a l.length cap ∧ l.length ≤ cap ∧ cap ≤ maxLen ∧ (a = none → l.length = 0 ∧ cap = 0) ∧ RowIn (fun k => base ≤ k) w a (flat l) := rowIn_of_own (by omega) h
theorem Own.row {base n cap : Nat} {w : World} {a : Option Addr} {l : List Sp} (h : Own base w (.slice a n cap) l) : Spans w a l := by
  obtain ⟨a', cap', e, _, _, _, R⟩ := h.read
  cases e
  exact R.row
theorem Own.mono {base base' : Nat} {w : World} {v : Value} {l : List Sp} (h : Own base w v l) (hb : base' ≤ base) : Own base' w v l := by
  obtain ⟨h1, h2⟩ := h
  refine ⟨h1, ?_⟩
  rcases h2 with h2 | ⟨g, cap, cur, hv, hg, hh, r⟩
  · exact Or.inl h2
  · exact Or.inr ⟨g, cap, cur, hv, Nat.le_trans hb hg, hh, r⟩
theorem Own.below {base : Nat} {w w' : World} {v : Value} {l : List Sp} (h : Own base w v l) (hb : Below w.heap.size w w') : Own base w' v l := by
  obtain ⟨h1, h2⟩ := h
  refine ⟨h1, ?_⟩
  rcases h2 with h2 | ⟨g, cap, cur, hv, hg, hh, r⟩
  · exact Or.inl h2
  · exact Or.inr ⟨g, cap, cur, hv, hg, (hb.block g (lt_of_block hh)).trans hh, r⟩
theorem Own.setCell {base : Nat} {w : World} {v : Value} {l : List Sp} (h : Own base w v l) {p : Addr} (hp : p.block < base) (u : Value) : Own base (w.setCell p u) v l := by
  obtain ⟨h1, h2⟩ := h
  refine ⟨h1, ?_⟩
  rcases h2 with h2 | ⟨g, cap, cur, hv, hg, hh, r⟩
  · exact Or.inl h2
  · exact Or.inr ⟨g, cap, cur, hv, hg, (Below.heap_setCell _ _ _ _ (by omega)).trans hh, r⟩
/-- The row does not lie in a block that was not there, nor below its base. -/
theorem Own.ne {base : Nat} {w : World} {v : Value} {l : List Sp} (h : Own base w v l) {g : Nat} (hg : w.heap.size ≤ g ∨ g < base) : v.ownBlock ≠ some g := fun e => by
  have := World.ownsRow.lt h g e
  omega
theorem lit_row (w : World) (x y : Int) (T : TypeId) : Row (w.alloc (.cells #[.int .u64 x, .int .u64 y] T)) (some ⟨w.heap.size, 0, none⟩) [.int .u64 x, .int .u64 y] := Row.lit w T [.int .u64 x, .int .u64 y]
/-- What an append of one span leaves. -/
structure Added (base : Nat) (W : World) (v : Value) (l : List Sp) (v' : Value) (w' : World) : Prop where
  own : Own base w' v' l
  keep : ∀ {b o : Nat} {u : Value}, W.cell? ⟨b, o, none⟩ = some u → v.ownBlock ≠ some b → w'.cell? ⟨b, o, none⟩ = some u
  blk : ∀ {b : Nat} {cs : Array Value} {T : TypeId}, Blk W b cs T → v.ownBlock ≠ some b → Blk w' b cs T
  other : ∀ {b2 : Nat} {v2 : Value} {l2 : List Sp}, Own b2 W v2 l2 → (∀ g, v.ownBlock = some g → v2.ownBlock ≠ some g) → Own b2 w' v2 l2
  below : ∀ {A : World} {B : Nat}, Below B A W → B ≤ base → Below B A w'
  size : W.heap.size ≤ w'.heap.size
  out : ∀ {g : Nat}, g < W.heap.size → v.ownBlock ≠ some g → v'.ownBlock ≠ some g
theorem wp_add {o : Oper} {a : Act} {K : Act → World → Prop} {Q : Exit → Act → World → Prop} {W : World} {x y : Int} (s z : Operand)
    (ho : o.op = .call { callee := .builtin .append, args := #[s, z], argTypes := #[54, 54] })
    {base : Nat} {v : Value} {l : List Sp} (hs : a.eval s = v) (hown : Own base W v l) {g : Nat} (hz : a.eval z = .slice (some ⟨g, 0, none⟩) 1 1) (hgz : W.heap.size = g) (hl : l.length + 1 ≤ 8796093022208) (hbase : base ≤ W.heap.size)
    (h : ∀ v' w', Added base W v (l ++ [(x, y)]) v' w' → K (a.put o.dst v') w') : o.wp Tryz.prog a (W.alloc (.cells #[.int .u64 x, .int .u64 y] 119)) K Q := by
  subst hgz
  obtain ⟨i0, hi0, hz0, hz1, hz2⟩ := info_parts info
  refine wp_append_row _ s z _ ho base 119 i0 _ 2 16 Tryz.underlying54 hi0 hz0 hz1 hz2 rfl (by omega) v l.length (flat l) hs (hown.alloc _) (some ⟨W.heap.size, 0, none⟩) 1 1 [.int .u64 x, .int .u64 y] hz rfl (lit_row W x y _) (by simp [Value.oneCell']) (by unfold maxLen; omega) (by omega) (by simp; omega) ?_
  intro v' w' hown' hg hat
  refine h v' w' ⟨?_, ?_, ?_, ?_, ?_, ?_, ?_⟩
  · unfold Own
    rw [flat_append, List.length_append]
    exact hown'
  · intro b o u hu hne
    have hlt := World.block_lt_of_cell? W _ hu
    exact hg.cell (by rw [World.cell?_alloc_lt W _ ⟨b, o, none⟩ hlt]; exact hu) (fun e => hne e.symm)
  · intro b cs T hB hne
    exact (hg.block b (by have := hB.lt; simp; omega) (fun e => hne e.symm)).trans (hB.alloc _)
  · intro b2 v2 l2 h2 hne
    refine World.ownsRow.kept (h2.alloc _) hg ?_
    cases hv : v2.ownBlock with
    | none => exact .inl rfl
    | some g => exact .inr fun e => hne g e.symm hv
  · intro A B hB hb
    exact (hB.alloc (by omega) _).grown hg (by simp; omega) fun k hk => by have := World.ownsRow.lt hown k hk; omega
  · have := hg.size
    simp at this
    omega
  · intro g hgl hne e
    rcases hat with h1 | h1
    · exact hne (by rw [← h1, e])
    · rw [h1] at e
      simp at e
      omega
theorem wpl_add {ops : Array Oper} {rest : List Oper} {o : Oper} {a : Act} {Q : Exit → Act → World → Prop} {W : World} {x y : Int} (hgd : o.guard = none) (s z : Operand)
    (ho : o.op = .call { callee := .builtin .append, args := #[s, z], argTypes := #[54, 54] })
    {base : Nat} {v : Value} {l : List Sp} (hs : a.eval s = v) (hown : Own base W v l) {g : Nat} (hz : a.eval z = .slice (some ⟨g, 0, none⟩) 1 1) (hgz : W.heap.size = g) (hl : l.length + 1 ≤ 8796093022208) (hbase : base ≤ W.heap.size)
    (h : ∀ v' w', Added base W v (l ++ [(x, y)]) v' w' → wpList Tryz.prog ops Q rest (a.put o.dst v') w') : wpList Tryz.prog ops Q (o :: rest) a (W.alloc (.cells #[.int .u64 x, .int .u64 y] 119)) :=
  wpList_plain hgd fun _ hK => wp_add s z ho hs hown hz hgz hl hbase fun v' w' hA => hK _ _ (h v' w' hA)
theorem own_all {base : Nat} {w' : World} {v' : Value} {l m : List Sp} {k : Nat} (hk : m.length = k) (h : w'.ownsRow base 119 2 v' (l.length + k) (flat l ++ flat m)) : Own base w' v' (l ++ m) := by
  unfold Own
  rw [flat_append, List.length_append, hk]
  exact h
end Go.Proofs.YtkiloaebokkjbaaGreat.Base
