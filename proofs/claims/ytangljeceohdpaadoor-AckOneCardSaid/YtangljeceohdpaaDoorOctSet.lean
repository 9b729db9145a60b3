/-
  A byte of a row of the call's own turned. 
-/
import Derived.Test.YtangljeceohdpaaDoorOctRef
namespace Go.Proofs.YtangljeceohdpaaDoor.OctSet
set_option linter.unusedVariables false
open Go.ChangeShapes Go.WideShapes Go.ChangeAt Go.RowKit
open Go.Proofs.YtangljeceohdpaaDoor.Base Go.Proofs.YtangljeceohdpaaDoor.OctPlain Go.Proofs.YtangljeceohdpaaDoor.Tab Go.Proofs.YtangljeceohdpaaDoor.Oct

theorem own_set {base : Nat} {w : World} {v : Value} {l : List Int} (h : Oct.Own base w v l) {t : Nat} (ht : t < l.length) : ∃ (g cap : Nat) (x : Int), v = .slice (some ⟨g, 0, none⟩) l.length cap ∧ base ≤ g ∧ l.length ≤ cap ∧ cap ≤ maxLen ∧ l[t]? = some x ∧
    w.cell? ⟨g, t, none⟩ = some (.int .u8 x) ∧ w.frozen? ⟨g, t, none⟩ = false ∧ ∀ y, Row (w.setCell ⟨g, t, none⟩ (.int .u8 y)) (some ⟨g, 0, none⟩) ((l.set t y).map (.int .u8)) := by
  rcases h.2 with ⟨_, h0⟩ | ⟨g, cap, cur, rfl, hg, hh, h1, h2, h3, h4⟩
  · omega
  · have hB : Blk w g cur 5 := hh
    have hx : l[t]? = some l[t] := List.getElem?_eq_getElem ht
    have hc : ∀ j u, (l.map (Value.int .u8))[j]? = some u → cur[j]? = some u := fun j u hj => by
      rw [← h4, List.getElem?_take] at hj
      split at hj
      · simpa using hj
      · cases hj
    refine ⟨g, cap, l[t], rfl, hg, h1, h2, hx, ?_, hB.free t, fun y j u hj => ⟨g, 0, rfl, ?_, ?_⟩⟩
    · rw [hB.cell]
      exact hc t _ (by simp [hx])
    · have := hB.lt
      simpa [World.setCell] using this
    · rw [Nat.zero_add, (hB.set t (.int .u8 y)).cell, Array.getElem?_setIfInBounds]
      rw [List.map_set, List.getElem?_set] at hj
      split
      · rename_i e
        subst e
        rw [if_pos rfl, List.length_map, if_pos ht] at hj
        have : t < cur.size := (Array.getElem?_eq_some_iff.1 (hc t (Value.int .u8 l[t]) (by simp [hx]))).1
        rw [if_pos this]
        exact hj
      · rename_i e
        rw [if_neg e] at hj
        exact hc j u hj
theorem bits_xor_u8_nat (a b : Nat) (ha : a < 256) (hb : b < 256) : bits .xor .u8 (a : Int) (b : Int) = ((a ^^^ b : Nat) : Int) := by
  have hx : a ^^^ b < 2 ^ 8 := Nat.xor_lt_two_pow (by omega) (by omega)
  have h1 : (BitVec.ofInt 8 (a : Int)).toNat = a := by
    rw [BitVec.ofInt_natCast, BitVec.toNat_ofNat]; exact Nat.mod_eq_of_lt (by omega)
  have h2 : (BitVec.ofInt 8 (b : Int)).toNat = b := by
    rw [BitVec.ofInt_natCast, BitVec.toNat_ofNat]; exact Nat.mod_eq_of_lt (by omega)
  show IntKind.u8.wrap ((BitVec.ofInt 8 (a : Int) ^^^ BitVec.ofInt 8 (b : Int)).toNat : Int) = _
  rw [BitVec.toNat_xor, h1, h2, IntKind.wrap_u8]
  omega
theorem xor_bd {x y : Int} (hx : 0 ≤ x ∧ x ≤ 255) (hy : 0 ≤ y ∧ y ≤ 255) : 0 ≤ bits .xor .u8 x y ∧ bits .xor .u8 x y ≤ 255 := by
  obtain ⟨a, rfl⟩ := Int.eq_ofNat_of_zero_le hx.1
  obtain ⟨b, rfl⟩ := Int.eq_ofNat_of_zero_le hy.1
  rw [show ((a : Int)) = (a : Int) from rfl, bits_xor_u8_nat a b (by omega) (by omega)]
  have := Nat.xor_lt_two_pow (x := a) (y := b) (n := 8) (by omega) (by omega)
  omega
theorem bytes_set {l : List Int} (h : Bytes l) (t : Nat) {y : Int} (hy : 0 ≤ y ∧ y ≤ 255) : Bytes (l.set t y) := fun x hx => by
  rcases List.mem_or_eq_of_mem_set hx with h1 | rfl
  · exact h x h1
  · exact hy
end Go.Proofs.YtangljeceohdpaaDoor.OctSet
