/-
  Contracts of the reference's sums and of its comparison of lists of words.
-/
import Derived.Test.YtakdacjdjhlnkaaRows
import Derived.Test.YtakdacjdjhlnkaaFr
import Derived.Test.YtakdacjdjhlnkaaBools
import Derived.Test.YtakdacjdjhlnkaaFoldPlain
import Derived.WalkKit
import Derived.ProofKit
import Derived.OpenShut
import Derived.WalkSpells
import Derived.Deep.RegionWith
import Derived.LoopTactic
import Derived.Lib.Hide
import Derived.OwnWalk
import Derived.Deep.OwnRows
import Derived.BigQuiet
namespace Go.Proofs.Ytakdacjdjhlnkaa.Fold
set_option linter.unusedVariables false
set_option maxRecDepth 20000
open Go.ChangeShapes Go.WideShapes Go.ChangeAt Go.RowKit
open Go.Proofs.Ytakdacjdjhlnkaa.Base Go.Proofs.Ytakdacjdjhlnkaa.FoldPlain

theorem info64 : (Try.prog.info? 29).map (fun i => (i.zero, i.size, i.bytes)) = some (some (.int .u64 0), 1, 8) := by kernel_rfl
theorem infob : (Try.prog.info? 4).map (fun i => (i.zero, i.size, i.bytes)) = some (some (.bool false), 1, 1) := by kernel_rfl
/-- What the making of sums comes to. -/
def SumPost (w : World) (k : Nat) (vs : List Value) : Ending → World → Prop := fun e w' => ∃ a c, e = .returned (.slice a k c) ∧ k ≤ c ∧ c ≤ maxLen ∧ (a = none → k = 0 ∧ c = 0) ∧ RowIn (fun i => w.heap.size ≤ i) w' a vs ∧ Below w.heap.size w w'
theorem ref_xors (a : Option Addr) (n cap : Nat) (l : List Int) (w : World) (hn : l.length = n) (hm : n ≤ 17592186043904) (hw : W64 l) (hz : Ints .u64 w a l) :
    Calls Try.prog 12 #[.slice a n cap] w (SumPost w (n + 1) ((sums l).map (.int .u64))) := by
  obtain ⟨i0, hi0, hz0, hz1, hz2⟩ := info_parts info64
  have O1 : (w.alloc (.cells #[.int .u64 0] 29)).ownsRow w.heap.size 29 1 (.slice (some ⟨w.heap.size, 0, none⟩) 1 1) 1 [.int .u64 0] := World.ownsRow_lit w #[.int .u64 0] 1 (Nat.le_refl _) (by decide) rfl
  subst hn
  go_enter Try.func12, Try.ntmps12
  go_wp2
  go_loopw [3, 4, 5] (fun v x i wr => ∃ k : Nat, k ≤ l.length ∧ i = .int .i64 k ∧ x = .int .u64 (xs l k) ∧ wr.ownsRow w.heap.size 29 1 v (k + 1) ((pre l k).map (.int .u64)) ∧ Below w.heap.size w wr) (fun _ _ i _ => l.length - (intOf i).toNat)
  case atStart => exact ⟨0, Nat.zero_le _, rfl, rfl, O1, (Below.refl _ _).alloc (Nat.le_refl _) _⟩
  case round =>
    obtain ⟨k, hk, rfl, rfl, hown, hL⟩ := hrel
    clear O1
    by_cases hlt : k < l.length
    · have HS := Lib.hid (xs_succ hlt)
      have HP := Lib.hid (pre_succ l k)
      obtain ⟨x0, x1⟩ := xs_bd hw k
      obtain ⟨y0, y1⟩ := hw.get k
      have hkI : (k : Int) < (l.length : Int) := by omega
      obtain ⟨b, off, rfl, hb, hcell⟩ := (hz.below hL).at_ hlt
      generalize l.getD k 0 = y at *
      generalize hE : xs l (k + 1) = x' at *
      have HE := Lib.hid hE
      clear hE
      generalize xs l k = x at *
      have hs := hL.size
      have HX' : bits .xor .u64 x y = x' := HS.out.symm
      clear HS
      go_wp2_with (at_builtin; refine wpl_append_row _ rfl (.tmp 19) (.tmp 21) _ rfl w.heap.size 29 i0 _ 1 8 Try.underlying22 hi0 hz0 hz1 hz2 rfl (by omega) _ _ _ rfl (hown.alloc _) (some ⟨wr.heap.size, 0, none⟩) 1 1 [.int .u64 x'] rfl rfl (Row.lit wr _ [.int .u64 x']) (by simp [Value.oneCell']) (by unfold maxLen; omega) (by omega) (by simp; omega) ?_; intro v1 w1 hown1 hg1 hat1; have L1 : Below w.heap.size w w1 := (hL.alloc hs _).grown hg1 (by simp; omega) (fun j hj => (hown.lt j hj).1))
      all_goals go_roundw
      case rel => exact ⟨k + 1, by omega, by go_num, by rw [HE.out], by rw [HP.out, List.map_append]; exact hown1, L1⟩
      case measure => simp [intOf]; omega
    · obtain rfl : k = l.length := by omega
      obtain ⟨aQ, cQ, rfl, q1, q2, q3, q4⟩ := rowIn_of_own Nat.one_pos hown
      go_wp2
      go_ret
      exact ⟨aQ, cQ, rfl, q1, q2, q3, q4, hL⟩
theorem ref_odds (a : Option Addr) (n cap : Nat) (l : List Bool) (w : World) (hn : l.length = n) (hm : n ≤ 140737488351232) (hz : Bools w a l) :
    Calls Try.prog 9 #[.slice a n cap] w (SumPost w (n + 1) ((odds l).map .bool)) := by
  obtain ⟨i0, hi0, hz0, hz1, hz2⟩ := info_parts infob
  have O1 : (w.alloc (.cells #[.bool false] 4)).ownsRow w.heap.size 4 1 (.slice (some ⟨w.heap.size, 0, none⟩) 1 1) 1 [.bool false] := World.ownsRow_lit w #[.bool false] 1 (Nat.le_refl _) (by decide) rfl
  subst hn
  go_enter Try.func9, Try.ntmps9
  go_wp2
  go_loopw [3, 4, 5] (fun v x i wr => ∃ k : Nat, k ≤ l.length ∧ i = .int .i64 k ∧ x = .bool (os l k) ∧ wr.ownsRow w.heap.size 4 1 v (k + 1) ((opre l k).map .bool) ∧ Below w.heap.size w wr) (fun _ _ i _ => l.length - (intOf i).toNat)
  case atStart => exact ⟨0, Nat.zero_le _, rfl, rfl, O1, (Below.refl _ _).alloc (Nat.le_refl _) _⟩
  case round =>
    obtain ⟨k, hk, rfl, rfl, hown, hL⟩ := hrel
    clear O1
    by_cases hlt : k < l.length
    · have HS := Lib.hid (os_succ hlt)
      have HP := Lib.hid (opre_succ l k)
      have hkI : (k : Int) < (l.length : Int) := by omega
      obtain ⟨b, off, rfl, hb, hcell⟩ := (hz.below hL).at_ hlt
      generalize l.getD k false = y at *
      generalize hE : os l (k + 1) = x' at *
      have HE := Lib.hid hE
      clear hE
      generalize os l k = x at *
      have hs := hL.size
      obtain rfl : x' = (x != y) := HS.out
      clear HS
      go_wp2_with (at_builtin; refine wpl_append_row _ rfl (.tmp 19) (.tmp 21) _ rfl w.heap.size 4 i0 _ 1 1 Try.underlying23 hi0 hz0 hz1 hz2 rfl (by omega) _ _ _ rfl (hown.alloc _) (some ⟨wr.heap.size, 0, none⟩) 1 1 [.bool (x != y)] rfl rfl (Row.lit wr _ [.bool (x != y)]) (by simp [Value.oneCell']) (by unfold maxLen; omega) (by omega) (by simp; omega) ?_; intro v1 w1 hown1 hg1 hat1; have L1 : Below w.heap.size w w1 := (hL.alloc hs _).grown hg1 (by simp; omega) (fun j hj => (hown.lt j hj).1))
      all_goals go_roundw
      case rel => exact ⟨k + 1, by omega, by go_num, by rw [HE.out]; rfl, by rw [HP.out, List.map_append]; exact hown1, L1⟩
      case measure => simp [intOf]; omega
    · obtain rfl : k = l.length := by omega
      obtain ⟨aQ, cQ, rfl, q1, q2, q3, q4⟩ := rowIn_of_own Nat.one_pos hown
      go_wp2
      go_ret
      exact ⟨aQ, cQ, rfl, q1, q2, q3, q4, hL⟩
theorem ref_same (a b : Option Addr) (n c d : Nat) (l : List Int) (w : World) (hn : l.length = n) (hm : n ≤ 140737488355328) (hz : Ints .u64 w a l) (hy : Ints .u64 w b l) :
    Calls Try.prog 10 #[.slice a n c, .slice b n d] w fun e w' => e = .returned (.bool true) ∧ Below w.heap.size w w' := by
  subst hn
  go_enter Try.func10, Try.ntmps10
  go_wp2
  go_loopw [5] (fun i wr => ∃ k : Nat, k ≤ l.length ∧ i = .int .i64 k ∧ Below w.heap.size w wr) (fun i _ => l.length - (intOf i).toNat)
  case atStart => exact ⟨0, Nat.zero_le _, rfl, Below.refl _ _⟩
  case round =>
    obtain ⟨k, hk, rfl, hL⟩ := hrel
    by_cases hlt : k < l.length
    · obtain ⟨b1, off1, rfl, hb1, c0⟩ := (hz.below hL).at_ hlt
      obtain ⟨b2, off2, rfl, hb2, c1⟩ := (hy.below hL).at_ hlt
      have hkI : (k : Int) < (l.length : Int) := by omega
      generalize l.getD k 0 = y at *
      go_wp2
      go_quiet (fail)
      go_wp2
      go_roundw
      case rel => exact ⟨k + 1, by omega, by go_num, Base.drawn hL _⟩
      case measure => simp [intOf]; omega
    · obtain rfl : k = l.length := by omega
      go_wp2
      go_ret
      exact ⟨rfl, hL⟩
end Go.Proofs.Ytakdacjdjhlnkaa.Fold
