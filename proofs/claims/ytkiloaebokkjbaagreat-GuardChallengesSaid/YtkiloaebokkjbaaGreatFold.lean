/-
  Contracts of fold's functions.
-/
import Derived.Test.YtkiloaebokkjbaaGreatFoldRef
import Derived.Deep.CutRange
set_option linter.unusedSimpArgs false
set_option linter.unusedVariables false
namespace Go.Proofs.YtkiloaebokkjbaaGreat.Fold
set_option linter.unusedVariables false
set_option maxRecDepth 20000
open Go.ChangeShapes Go.WideShapes Go.ChangeAt Go.RowKit
open Go.Proofs.YtkiloaebokkjbaaGreat.Base Go.Proofs.YtkiloaebokkjbaaGreat.FoldPlain

/-- Of a block's cells the first are told; there are n in all. -/
def Told (cs : Array Value) (n : Nat) (vs : List Value) : Prop := cs.size = n ∧ ∀ (j : Nat) (u : Value), vs[j]? = some u → cs[j]? = some u
theorem Told.made (z : Value) (n : Nat) (hn : 0 < n) : Told (madeCells #[z] n) n [z] := by
  refine ⟨size_madeCells _ _, fun j u h => ?_⟩
  have hj : j < [z].length := (List.getElem?_eq_some_iff.1 h).1
  obtain rfl : j = 0 := by simpa using hj
  obtain rfl : z = u := by simpa using h
  rw [← Array.getElem?_toList, toList_madeCells_one]
  simp [hn]
theorem Told.step {cs : Array Value} {n k : Nat} {vs : List Value} (h : Told cs n vs) (hk : vs.length = k) (hn : k < n) (u : Value) : Told (cs.setIfInBounds k u) n (vs ++ [u]) := by
  refine ⟨by rw [Array.size_setIfInBounds]; exact h.1, fun j v hj => ?_⟩
  rw [Array.getElem?_setIfInBounds]
  split
  · rename_i e
    subst e
    subst hk
    rw [List.getElem?_append_right (Nat.le_refl _), Nat.sub_self] at hj
    rw [if_pos (by rw [h.1]; exact hn)]
    exact hj
  · rename_i e
    refine h.2 j v ?_
    have hl : j < (vs ++ [u]).length := (List.getElem?_eq_some_iff.1 hj).1
    rw [List.length_append] at hl
    simp at hl
    rwa [List.getElem?_append_left (by omega)] at hj
theorem Told.row {cs : Array Value} {n : Nat} {vs : List Value} {w : World} {g B : Nat} {T : TypeId} (h : Told cs n vs) (hB : Blk w g cs T) (hg : B ≤ g) : RowIn (fun i => B ≤ i) w (some ⟨g, 0, none⟩) vs := fun j u hj =>
  ⟨g, 0, rfl, hg, hB.lt, by rw [Nat.zero_add, hB.cell]; exact h.2 j u hj⟩
theorem Told.any {cs : Array Value} {n : Nat} {vs : List Value} (h : Told cs n vs) {j : Nat} (hj : j < n) : ∃ u, cs[j]? = some u := ⟨cs[j]'(h.1.symm ▸ hj), Array.getElem?_eq_getElem _⟩

theorem xors_any (a : Option Addr) (n cap : Nat) (l : List Int) (w : World) (hn : l.length = n) (hc : n ≤ cap) (hm : n ≤ 17592186043904) (hw : W64 l) (hz : Ints .u64 w a l) :
    Calls Tryz.prog 135 #[.slice a n cap] w (SumPost w (n + 1) ((sums l).map (.int .u64))) := by
  have hmk := run_make_row' (P := Tryz.prog) 153 23 (.int .u64 0) 8 Tryz.underlying153 info64 rfl .i64 .i64 (n + 1) (by omega) (by omega)
  have ec : ((n + 1 : Nat) : Int) = (n : Int) + 1 := by omega
  rw [ec] at hmk
  subst hn
  go_enter Tryz.func135, Tryz.ntmps135
  go_wp2
  go_loopw [4, 5, 12] (fun _ _ i wr => ∃ (k : Nat) (cs : Array Value), k ≤ l.length ∧ i = .int .i64 k ∧ Blk wr w.heap.size cs 23 ∧ Told cs (l.length + 1) ((pre l k).map (.int .u64)) ∧ Below w.heap.size w wr) (fun _ _ i _ => l.length - (intOf i).toNat)
  case atStart => exact ⟨0, _, Nat.zero_le _, rfl, Blk.new _ _ _, Told.made _ _ (by omega), (Below.refl _ _).alloc (Nat.le_refl _) _⟩
  case round =>
    obtain ⟨k, cs, hk, rfl, hB, hT, hL⟩ := hrel
    clear hmk ec
    by_cases hlt : k < l.length
    · have HS := Lib.hid (xs_succ hlt)
      have HP := Lib.hid (pre_succ l k)
      have HT := fun u => hT.step (k := k + 1) (by rw [List.length_map, pre_len]) (by omega) u
      have hcx : wr.cell? ⟨w.heap.size, k, none⟩ = some (.int .u64 (xs l k)) := by
        rw [hB.cell]
        refine hT.2 k _ ?_
        rw [List.getElem?_map, pre, List.getElem?_map, List.getElem?_range (by omega)]
        rfl
      obtain ⟨u1, hu1⟩ := hT.any (j := k + 1) (by omega)
      have hcy : wr.cell? ⟨w.heap.size, k + 1, none⟩ = some u1 := by rw [hB.cell]; exact hu1
      have hfy := hB.free (k + 1)
      obtain ⟨x0, x1⟩ := xs_bd hw k
      obtain ⟨y0, y1⟩ := hw.get k
      have hkI : (k : Int) < (l.length : Int) := by omega
      obtain ⟨b, off, rfl, hb, hcell⟩ := (hz.below hL).at_ hlt
      generalize l.getD k 0 = y at *
      generalize hE : xs l (k + 1) = x' at *
      have HE := Lib.hid hE
      clear hE
      generalize xs l k = x at *
      have HX' : bits .xor .u64 x y = x' := HS.out.symm
      clear HS hu1
      go_wp2
      all_goals go_roundw
      case rel => exact ⟨k + 1, _, by omega, by go_num, hB.set (k + 1) _, by rw [HP.out, List.map_append]; exact HT _, hL.setCell (Nat.le_refl _) _⟩
      case measure => simp [intOf]; omega
    · obtain rfl : k = l.length := by omega
      have hR := hT.row hB (Nat.le_refl _)
      go_wp2
      go_ret
      exact ⟨_, _, rfl, Nat.le_refl _, by unfold maxLen; omega, (fun e => by cases e), hR, hL⟩
theorem odds_any (a : Option Addr) (n cap : Nat) (l : List Bool) (w : World) (hn : l.length = n) (hc : n ≤ cap) (hm : n ≤ 140737488351232) (hz : Bools w a l) :
    Calls Tryz.prog 137 #[.slice a n cap] w (SumPost w (n + 1) ((odds l).map .bool)) := by
  have hmk := run_make_row' (P := Tryz.prog) 211 4 (.bool false) 1 Tryz.underlying211 infob rfl .i64 .i64 (n + 1) (by omega) (by omega)
  have ec : ((n + 1 : Nat) : Int) = (n : Int) + 1 := by omega
  rw [ec] at hmk
  subst hn
  go_enter Tryz.func137, Tryz.ntmps137
  go_wp2
  go_loopw [4, 5, 12] (fun _ _ i wr => ∃ (k : Nat) (cs : Array Value), k ≤ l.length ∧ i = .int .i64 k ∧ Blk wr w.heap.size cs 4 ∧ Told cs (l.length + 1) ((opre l k).map .bool) ∧ Below w.heap.size w wr) (fun _ _ i _ => l.length - (intOf i).toNat)
  case atStart => exact ⟨0, _, Nat.zero_le _, rfl, Blk.new _ _ _, Told.made _ _ (by omega), (Below.refl _ _).alloc (Nat.le_refl _) _⟩
  case round =>
    obtain ⟨k, cs, hk, rfl, hB, hT, hL⟩ := hrel
    clear hmk ec
    by_cases hlt : k < l.length
    · have HS := Lib.hid (os_succ hlt)
      have HP := Lib.hid (opre_succ l k)
      have HT := fun u => hT.step (k := k + 1) (by rw [List.length_map, opre_len]) (by omega) u
      have hcx : wr.cell? ⟨w.heap.size, k, none⟩ = some (.bool (os l k)) := by
        rw [hB.cell]
        refine hT.2 k _ ?_
        rw [List.getElem?_map, opre, List.getElem?_map, List.getElem?_range (by omega)]
        rfl
      obtain ⟨u1, hu1⟩ := hT.any (j := k + 1) (by omega)
      have hcy : wr.cell? ⟨w.heap.size, k + 1, none⟩ = some u1 := by rw [hB.cell]; exact hu1
      have hfy := hB.free (k + 1)
      have hkI : (k : Int) < (l.length : Int) := by omega
      obtain ⟨b, off, rfl, hb, hcell⟩ := (hz.below hL).at_ hlt
      generalize l.getD k false = y at *
      generalize hE : os l (k + 1) = x' at *
      have HE := Lib.hid hE
      clear hE
      generalize os l k = x at *
      obtain rfl : x' = (x != y) := HS.out
      clear HS hu1
      go_wp2
      all_goals go_roundw
      case rel => exact ⟨k + 1, _, by omega, by go_num, hB.set (k + 1) _, by rw [HP.out, List.map_append]; exact HT _, hL.setCell (Nat.le_refl _) _⟩
      case measure => simp [intOf]; omega
    · obtain rfl : k = l.length := by omega
      have hR := hT.row hB (Nat.le_refl _)
      go_wp2
      go_ret
      exact ⟨_, _, rfl, Nat.le_refl _, by unfold maxLen; omega, (fun e => by cases e), hR, hL⟩
theorem ordered_any (f t n : Int) (w : World) : Calls Tryz.prog 146 #[.int .i64 f, .int .i64 t, .int .i64 n] w fun e w' => e = .returned (.bool (overB n f t)) ∧ w = w' := by
  go_enter Tryz.func146, Tryz.ntmps146
  by_cases h0 : 0 ≤ f
  · by_cases h1 : f ≤ t
    · by_cases h2 : t < n
      · rw [overB_true h0 h1 h2]
        go_wp2
        go_ret
        exact ⟨rfl, rfl⟩
      · rw [overB_false (by omega)]
        go_wp2
        go_ret
        exact ⟨rfl, rfl⟩
    · rw [overB_false (by omega)]
      go_wp2
      go_ret
      exact ⟨rfl, rfl⟩
  · rw [overB_false (by omega)]
    go_wp2
    go_ret
    exact ⟨rfl, rfl⟩
theorem over_any (a : Option Addr) (n cap : Nat) (l : List Int) (f t : Int) (w : World) (hn : l.length = n) (hm : n ≤ 9223372036854775807) (hw : W64 l) (f0 : -9223372036854775808 ≤ f) (f1 : f ≤ 9223372036854775807) (t0 : -9223372036854775808 ≤ t) (t1 : t ≤ 9223372036854775807) (hz : Ints .u64 w a l) :
    Calls Tryz.prog 139 #[.slice a n cap, .int .i64 f, .int .i64 t] w fun e w' => e = .returned (.tuple #[.int .u64 (overV l f t), .bool (overB n f t)]) ∧ Below w.heap.size w w' := by
  subst hn
  have hor := ordered_any f t l.length
  by_cases h : 0 ≤ f ∧ f ≤ t ∧ t < l.length
  · obtain ⟨h0, h1, h2⟩ := h
    rw [overB_true h0 h1 h2] at hor
    rw [overB_true h0 h1 h2]
    obtain ⟨p, rfl⟩ := Int.eq_ofNat_of_zero_le h0
    obtain ⟨q, rfl⟩ := Int.eq_ofNat_of_zero_le (Int.le_trans h0 h1)
    have hp : p < l.length := by omega
    have hq : q < l.length := by omega
    obtain ⟨b1, o1, rfl, _, c1⟩ := hz.at_ hp
    obtain ⟨b2, o2, e2, _, c2⟩ := hz.at_ hq
    cases e2
    have HV : overV l p q = xr (l.getD q 0) (l.getD p 0) := by
      rw [overV_at (by omega) hq]
      exact xr_comm (hw.get p).1 (hw.get p).2 (hw.get q).1 (hw.get q).2
    rw [HV]
    obtain ⟨x0, x1⟩ := hw.get p
    obtain ⟨y0, y1⟩ := hw.get q
    have hpI : (p : Int) < l.length := by omega
    clear HV h1
    generalize l.getD p 0 = x at *
    generalize l.getD q 0 = y at *
    go_enter Tryz.func139, Tryz.ntmps139
    go_wp2_with (go_at_call 146; refine (hor _).mono ?_; rintro e w' ⟨rfl, rfl⟩)
    go_quiet (fail)
    go_wp2
    go_ret2
    exact ⟨rfl, Base.drawn (Below.refl _ _) _⟩
  · have h' : f < 0 ∨ t < f ∨ (l.length : Int) ≤ t := by omega
    rw [overB_false h'] at hor
    rw [overB_false h', overV_none h']
    go_enter Tryz.func139, Tryz.ntmps139
    go_wp2_with (go_at_call 146; refine (hor _).mono ?_; rintro e w' ⟨rfl, rfl⟩)
    go_ret2
    exact ⟨rfl, Below.refl _ _⟩
theorem odd_any (a : Option Addr) (n cap : Nat) (l : List Bool) (f t : Int) (w : World) (hn : l.length = n) (hm : n ≤ 9223372036854775807) (f0 : -9223372036854775808 ≤ f) (f1 : f ≤ 9223372036854775807) (t0 : -9223372036854775808 ≤ t) (t1 : t ≤ 9223372036854775807) (hz : Bools w a l) :
    Calls Tryz.prog 140 #[.slice a n cap, .int .i64 f, .int .i64 t] w fun e w' => e = .returned (.tuple #[.bool (oddV l f t), .bool (overB n f t)]) ∧ Below w.heap.size w w' := by
  subst hn
  have hor := ordered_any f t l.length
  by_cases h : 0 ≤ f ∧ f ≤ t ∧ t < l.length
  · obtain ⟨h0, h1, h2⟩ := h
    rw [overB_true h0 h1 h2] at hor
    rw [overB_true h0 h1 h2]
    obtain ⟨p, rfl⟩ := Int.eq_ofNat_of_zero_le h0
    obtain ⟨q, rfl⟩ := Int.eq_ofNat_of_zero_le (Int.le_trans h0 h1)
    have hp : p < l.length := by omega
    have hq : q < l.length := by omega
    obtain ⟨b1, o1, rfl, _, c1⟩ := hz.at_ hp
    obtain ⟨b2, o2, e2, _, c2⟩ := hz.at_ hq
    cases e2
    have HV : oddV l p q = (l.getD q false != l.getD p false) := by
      rw [oddV_at (by omega) hq]
      cases l.getD p false <;> cases l.getD q false <;> rfl
    rw [HV]
    have hpI : (p : Int) < l.length := by omega
    clear HV h1
    generalize l.getD p false = x at *
    generalize l.getD q false = y at *
    go_enter Tryz.func140, Tryz.ntmps140
    go_wp2_with (go_at_call 146; refine (hor _).mono ?_; rintro e w' ⟨rfl, rfl⟩)
    go_quiet (fail)
    go_wp2
    go_ret2
    exact ⟨rfl, Base.drawn (Below.refl _ _) _⟩
  · have h' : f < 0 ∨ t < f ∨ (l.length : Int) ≤ t := by omega
    rw [overB_false h'] at hor
    rw [overB_false h', oddV_none h']
    go_enter Tryz.func140, Tryz.ntmps140
    go_wp2_with (go_at_call 146; refine (hor _).mono ?_; rintro e w' ⟨rfl, rfl⟩)
    go_ret2
    exact ⟨rfl, Below.refl _ _⟩
end Go.Proofs.YtkiloaebokkjbaaGreat.Fold
