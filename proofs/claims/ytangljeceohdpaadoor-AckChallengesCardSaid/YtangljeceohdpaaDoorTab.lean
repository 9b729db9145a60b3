/-
  The library's table behind bits.TrailingZeros, as the row lists it: what a call reads of it, and that it stays.
-/
import Derived.Test.YtangljeceohdpaaDoorRows
import Derived.Test.YtangljeceohdpaaDoorFr
import Derived.Lib.LaidTab
import Derived.LaidMore
import Derived.LaidHandle
import Derived.MakeChecks
import Derived.Stop.LaidErr
namespace Go.Proofs.YtangljeceohdpaaDoor.Tab
set_option linter.unusedVariables false
open Go.ChangeShapes Go.WideShapes Go.RowKit
open Go.Proofs.YtangljeceohdpaaDoor.Base

/-- The four places of the table that a number's length comes to. -/
structure Tab (w : World) : Prop where
  c0 : w.cell? ⟨1, 0, none⟩ = some (.int .u8 0)
  c1 : w.cell? ⟨1, 1, none⟩ = some (.int .u8 1)
  c3 : w.cell? ⟨1, 3, none⟩ = some (.int .u8 2)
  c7 : w.cell? ⟨1, 7, none⟩ = some (.int .u8 3)
theorem Tab.lt {w : World} (h : Tab w) : 1 < w.heap.size := World.block_lt_of_cell? w _ h.c0
theorem Tab.below {w w' : World} (h : Tab w) (hb : Below w.heap.size w w') : Tab w' :=
  ⟨(hb.cell (p := ⟨_, 0, none⟩) h.lt).trans h.c0, (hb.cell (p := ⟨_, 1, none⟩) h.lt).trans h.c1, (hb.cell (p := ⟨_, 3, none⟩) h.lt).trans h.c3, (hb.cell (p := ⟨_, 7, none⟩) h.lt).trans h.c7⟩
theorem Tab.kept {S : Nat → Prop} {w w' : World} (h : Tab w) (hf : Fr S w w') (hn : ¬ S 1) : Tab w' :=
  ⟨(hf.cell (p := ⟨_, 0, none⟩) h.lt hn).trans h.c0, (hf.cell (p := ⟨_, 1, none⟩) h.lt hn).trans h.c1, (hf.cell (p := ⟨_, 3, none⟩) h.lt hn).trans h.c3, (hf.cell (p := ⟨_, 7, none⟩) h.lt hn).trans h.c7⟩
theorem Tab.drew {w : World} (h : Tab w) : Tab w.drew := ⟨h.c0, h.c1, h.c3, h.c7⟩
theorem Tab.alloc {w : World} (h : Tab w) (o : Obj) : Tab (w.alloc o) := h.below ((Below.refl _ _).alloc (Nat.le_refl _) o)

def nums : List Int := [0, 1, 56, 2, 57, 49, 28, 3, 61, 58, 42, 50, 38, 29, 17, 4, 62, 47, 59, 36, 45, 43, 51, 22, 53, 39, 33, 30, 24, 18, 12, 5, 63, 55, 48, 27, 60, 41, 37, 16, 46, 35, 44, 21, 52, 32, 23, 11, 54, 26, 40, 15, 34, 20, 31, 10, 25, 14, 19, 9, 13, 8, 7, 6]
theorem gNo : Tryd.prog.globalNamed "math/bits.deBruijn64tab" = some 1 := by kernel_rfl
theorem gType : (Tryd.prog.globals[1]?).map (·.type) = some 101 := by kernel_rfl
theorem of_met {l : List (String × DataW Unit)} {W : World} (h : laidMet Tryd.prog (("math/bits.deBruijn64tab", Lib.tabData .u8 nums) :: l) W) : Tab W := by
  have hT := Lib.tabIs_of_head gNo gType Tryd.underlying101 Tryd.underlying5 (by kernel_rfl) (by kernel_rfl) h
  exact ⟨hT.cell gNo 0 (by decide), hT.cell gNo 1 (by decide), hT.cell gNo 3 (by decide), hT.cell gNo 7 (by decide)⟩
theorem of_laid_2 {W : World} (h : laidMetH Tryd.prog [("math/bits.deBruijn32tab", Rows.laid_math_bits_deBruijn32tab), ("math/bits.deBruijn64tab", Rows.laid_math_bits_deBruijn64tab)] W) : Tab W := by
  rw [MakeChecks.laidMetH_plain _ _ _ (by kernel_rfl)] at h
  exact of_met (show laidMet Tryd.prog (("math/bits.deBruijn64tab", Lib.tabData .u8 nums) :: []) W from h.tail)
end Go.Proofs.YtangljeceohdpaaDoor.Tab
