/-
  Some of a block's cells stored at once: what is known behind it. Nothing here names a program.
-/
import Derived.Test.YtbamdilihpnhjaaRowSt
import Derived.Deep.MidRow
set_option linter.unusedSimpArgs false
set_option linter.unusedVariables false
namespace Go.Proofs.Ytbamdilihpnhjaa.Base
set_option linter.unusedVariables false
open Go.ChangeShapes Go.WideShapes Go.RowKit

/-- An array's cells from o on put anew. -/
def putAll : Array Value → Nat → List Value → Array Value
  | cs, _, [] => cs
  | cs, o, v :: r => putAll (cs.setIfInBounds o v) (o + 1) r
theorem Blk.mid {b : Nat} {T : TypeId} : ∀ {w : World} {cs : Array Value} (h : Blk w b cs T) (o : Nat) (vs : List Value), Blk (w.setCells b o vs) b (putAll cs o vs) T
  | _, _, h, _, [] => h
  | _, _, h, o, v :: r => Blk.mid (h.set o v) (o + 1) r
theorem Blk.otherMid {b g : Nat} {T : TypeId} (hne : b ≠ g) : ∀ {w : World} {cs : Array Value} (h : Blk w b cs T) (o : Nat) (vs : List Value), Blk (w.setCells g o vs) b cs T
  | _, _, h, _, [] => h
  | _, _, h, o, v :: r => Blk.otherMid hne (h.other hne v) (o + 1) r
theorem below_setCells {B g : Nat} {A : World} (hg : B ≤ g) : ∀ {w : World} (h : Below B A w) (o : Nat) (vs : List Value), Below B A (w.setCells g o vs)
  | _, h, _, [] => h
  | _, h, o, v :: r => below_setCells hg (h.setCell hg v) (o + 1) r
theorem Blk.there {w : World} {b : Nat} {cs : Array Value} {T : TypeId} (h : Blk w b cs T) (o n : Nat) (hn : o + n ≤ cs.size) : w.there b o n := fun j hj =>
  ⟨by rw [h.cell (o + j), Array.getElem?_eq_getElem (by omega)]; rfl, h.free (o + j)⟩
theorem Blk.range {w : World} {b : Nat} {cs : Array Value} {T : TypeId} (h : Blk w b cs T) (o : Nat) (vs : List Value) (hv : ∀ j u, vs[j]? = some u → cs[o + j]? = some u) : w.rangeAt b o vs := fun j u hj => by
  rw [h.cell (o + j)]
  exact hv j u hj
/-- The first seven of nine put anew. -/
theorem Blk.mid79 {w : World} {b : Nat} {T : TypeId} {a0 a1 a2 a3 a4 a5 a6 a7 a8 v0 v1 v2 v3 v4 v5 v6 : Value} (h : Blk w b #[a0, a1, a2, a3, a4, a5, a6, a7, a8] T) : Blk (w.setCells b 0 #[v0, v1, v2, v3, v4, v5, v6].toList) b #[v0, v1, v2, v3, v4, v5, v6, a7, a8] T := by
  have h0 : Blk _ b #[v0, a1, a2, a3, a4, a5, a6, a7, a8] T := h.set 0 v0
  have h1 : Blk _ b #[v0, v1, a2, a3, a4, a5, a6, a7, a8] T := h0.set 1 v1
  have h2 : Blk _ b #[v0, v1, v2, a3, a4, a5, a6, a7, a8] T := h1.set 2 v2
  have h3 : Blk _ b #[v0, v1, v2, v3, a4, a5, a6, a7, a8] T := h2.set 3 v3
  have h4 : Blk _ b #[v0, v1, v2, v3, v4, a5, a6, a7, a8] T := h3.set 4 v4
  have h5 : Blk _ b #[v0, v1, v2, v3, v4, v5, a6, a7, a8] T := h4.set 5 v5
  have h6 : Blk _ b #[v0, v1, v2, v3, v4, v5, v6, a7, a8] T := h5.set 6 v6
  exact h6
section
variable {P : Program}
/-- The store of some cells of a block. -/
theorem wpl_store_mid {ops : Array Oper} {rest : List Oper} {o : Oper} {a : Act} {Q : Exit → Act → World → Prop} {w : World} (hgd : o.guard = none) (ty : TypeId) (x y : Operand) (ho : o.op = .store ty x y) {g : Nat} {old : Array Value} {t : TypeId} (hB : Blk w g old t) (i : Nat)
    (cells : Array Value) (hx : a.eval x = .pointer (some ⟨g, i, none⟩)) (hy : a.eval y = .agg cells) (hi : (P.info? ty).map (·.size) = some cells.size) (hold : i + cells.size ≤ old.size) (h1 : cells.all (·.oneCell') = true)
    (h : wpList P ops Q rest (a.put o.dst undef) (w.setCells g i cells.toList)) : wpList P ops Q (o :: rest) a w :=
  wpList_store_mid hgd ty x y ho g i cells hx hy (hB.there i cells.size hold) hi h1 h
end
end Go.Proofs.Ytbamdilihpnhjaa.Base
