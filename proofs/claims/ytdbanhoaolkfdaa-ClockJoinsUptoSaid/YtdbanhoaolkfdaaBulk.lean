/-
  What the bound on all that comes in says of a part of it: how many values it holds.
-/
import Derived.Test.YtdbanhoaolkfdaaRows
import Derived.ChangeSlices
namespace Go.Proofs.Ytdbanhoaolkfdaa.Bulk
open Go.ChangeShapes
set_option linter.unusedVariables false
theorem pos {H : Type} (d : DataW H) : 1 ≤ Rows.uptoBulk d := by
  cases d with
  | lit l => cases l <;> simp [Rows.uptoBulk]
  | _ => simp [Rows.uptoBulk]
theorem mem {H : Type} {d : DataW H} {l : List (DataW H)} (h : d ∈ l) : Rows.uptoBulk d ≤ Rows.uptoBulkAll l := by
  induction l with
  | nil => cases h
  | cons x r ih =>
    rw [Rows.uptoBulkAll]
    rcases List.mem_cons.1 h with rfl | h
    · omega
    · have := ih h; omega
theorem count {H : Type} (l : List (DataW H)) : l.length ≤ Rows.uptoBulkAll l := by
  induction l with
  | nil => simp
  | cons x r ih => have := pos x; rw [Rows.uptoBulkAll, List.length_cons]; omega
theorem elems {H : Type} (l r : List (DataW H)) : Rows.uptoBulkAll l + Rows.uptoBulkAll r + 1 = Rows.uptoBulk (.slice l r) := by rw [Rows.uptoBulk]
theorem slice {H : Type} (l r : List (DataW H)) : l.length + r.length + 1 ≤ Rows.uptoBulk (.slice l r) := by
  have := count l
  have := count r
  have := elems l r
  omega
theorem parts {H : Type} (l : List (DataW H)) : Rows.uptoBulkAll l + 1 = Rows.uptoBulk (.agg l) := by rw [Rows.uptoBulk]
theorem ints {H : Type} (k : IntKind) (zs : List Int) (len : Nat) : zs.length + 1 ≤ Rows.uptoBulk (DataW.slice (H := H) (lits k (zs.take len)) (lits k (zs.drop len))) := by
  have := slice (H := H) (lits k (zs.take len)) (lits k (zs.drop len))
  have e : (lits (H := H) k (zs.take len)).length + (lits (H := H) k (zs.drop len)).length = zs.length := by
    simp only [lits, List.length_map, List.length_take, List.length_drop]
    omega
  omega
theorem bound {H : Type} {l : List (DataW H)} (h : Rows.uptoSmall H (l ++ []) = true) : Rows.uptoBulkAll l ≤ 1048576 := by
  rw [List.append_nil] at h
  exact of_decide_eq_true h
end Go.Proofs.Ytdbanhoaolkfdaa.Bulk
