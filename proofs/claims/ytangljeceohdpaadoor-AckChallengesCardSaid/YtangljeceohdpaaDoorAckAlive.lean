/-
  The examples of chapter 9 hold (alive), out of the contracts of ack's functions.
-/
import Derived.Test.YtangljeceohdpaaDoorAck
import Derived.Lib.SmallJoins
namespace Go.Proofs.YtangljeceohdpaaDoor.Ack
set_option linter.unusedVariables false
set_option maxRecDepth 20000
open Go.ChangeShapes Go.WideShapes Go.ChangeAt Go.RowKit
open Go.Proofs.YtangljeceohdpaaDoor.Base Go.Proofs.YtangljeceohdpaaDoor.OctPlain Go.Proofs.YtangljeceohdpaaDoor.Tab Go.Proofs.YtangljeceohdpaaDoor.Oct Go.Proofs.YtangljeceohdpaaDoor.SpanPlain Go.Proofs.YtangljeceohdpaaDoor.SpanRef
open Go.Proofs.YtangljeceohdpaaDoor.AckPlain (K putAck getAck getRow getSp putSp getNum comb Fit)

theorem lit_at {w : World} {g : Nat} (T : TypeId) (xs : List Value) (hg : g = w.heap.size) : Row (w.alloc (.cells xs.toArray T)) (some ⟨g, 0, none⟩) xs := by subst hg; exact Row.lit w T xs
theorem ex_two : getAck [2] = (AckPlain.zero, 2) := rfl
theorem ex_three : getAck [3] = (AckPlain.zero, 4) := by rw [getAck, if_pos (by decide)]
/-- What is decoded is short. -/
theorem ack_lim {l : List Int} (hb : Bytes l) : (getAck l).1.spans.length ≤ 140737488355328 ∧ (getAck l).1.marked.length ≤ 140737488355328 := by
  by_cases h : (getAck l).2 = 0
  · obtain ⟨_, h2, _⟩ := AckPlain.get_one hb (a := (getAck l).1) (by rw [← h])
    obtain ⟨m1, m2, m3, _⟩ := AckPlain.may_iff.1 h2
    omega
  · rw [AckPlain.ack_bad h]
    exact ⟨Nat.zero_le _, Nat.zero_le _⟩
def kx : K := ⟨[(1, 2)], [], 0, 0, true⟩
theorem ex_may : AckPlain.may kx = true := by decide +kernel
theorem ex_put : putAck kx = [2, 1, 1, 1, 0, 0, 0, 0, 0, 0, 0, 0, 0, 0, 0, 0, 0, 0, 0, 0, 0, 1] := by decide +kernel
theorem ex_chal : chal 5 = [3, 5] := by decide +kernel
theorem alive_bad (g : Nat) (x e : Int) (w : World) (hx : 0 ≤ x ∧ x ≤ 255) (h : getAck [x] = (AckPlain.zero, e)) (hz : Ints .u8 w (some ⟨g, 0, none⟩) [x]) :
    Calls Tryd.prog 13 #[.slice (some ⟨g, 0, none⟩) 1 1] w fun v w' => ∃ a c b d, v = .returned (.tuple #[.agg #[.slice a 0 c, .slice b 0 d, .int .u64 0, .int .u64 0, .bool false], .int .i64 e]) ∧ Below w.heap.size w w' := by
  have C := decode_any (some ⟨g, 0, none⟩) 1 1 [x] w rfl (Nat.le_refl _) (by decide) (fun e => by cases e) (Bytes.cons hx Bytes.nil) hz
  unfold AckPost at C
  rw [h] at C
  refine C.mono ?_
  rintro v w1 ⟨a, n, c, b, m, d, rfl, ⟨h1, _⟩, ⟨h2, _⟩, L⟩
  obtain rfl : 0 = n := h1
  obtain rfl : 0 = m := h2
  exact ⟨a, c, b, d, rfl, L⟩
theorem alive_put (g : Nat) (w : World) (hz : Row w (some ⟨g, 0, none⟩) [.int .u64 1, .int .u64 2]) (hT : Tab w) :
    Calls Tryd.prog 9 #[.agg #[.slice (some ⟨g, 0, none⟩) 1 1, .slice none 0 0, .int .u64 0, .int .u64 0, .bool true]] w fun e w' => ∃ a c, e = .returned (.tuple #[.slice a 22 c, .int .i64 0]) ∧ 22 ≤ c ∧
      RowIn (fun k => w.heap.size ≤ k) w' a ([2, 1, 1, 1, 0, 0, 0, 0, 0, 0, 0, 0, 0, 0, 0, 0, 0, 0, 0, 0, 0, 1].map (.int .u8)) ∧ Below w.heap.size w w' := by
  have C := encode_any kx (some ⟨g, 0, none⟩) none 1 1 0 0 w rfl rfl ex_may ⟨by decide, by decide⟩ hz (Spans.nil _ _) hT
  rw [ex_put] at C
  exact C.mono fun e w' ⟨a, c, he, h1, _, _, hR, hL⟩ => ⟨a, c, he, h1, hR, hL⟩
theorem alive_chal (w : World) (hT : Tab w) :
    Calls Tryd.prog 17 #[.int .u64 5] w fun e w' => ∃ a c, e = .returned (.tuple #[.slice a 2 c, .bool true]) ∧ RowIn (fun k => w.heap.size ≤ k) w' a ([3, 5].map (.int .u8)) ∧ Below w.heap.size w w' := by
  have C := challenge_any 5 w (by decide) (by decide) hT
  rw [ex_chal] at C
  exact C.mono fun e w' ⟨a, c, he, _, _, _, hR, hL⟩ => ⟨a, c, he, hR, hL⟩
set_option maxHeartbeats 1000000 in
theorem alive_ack (w : World) (hT : Tab w) :
    Calls Tryd.prog 8 #[] w fun e w' => e = .returned (.bool true) ∧ Below w.heap.size w w' := by
  have A1 := fun (_ : Unit) => alive_bad w.heap.size 2 2 (w.alloc (.cells #[.int .u8 2] 5)) (by decide) ex_two (.of (lit_at 5 [.int .u8 2] rfl))
  replace A1 := A1 ()
  go_enter Tryd.func8, Tryd.ntmps8
  go_wp2_with (first
    | (go_at_call 13; (with_reducible refine A1.mono ?_); rintro e w1 ⟨x1, c1, y1, d1, rfl, L1⟩; have M1 := Base.next ((Below.refl w.heap.size w).alloc (Nat.le_refl _) _) L1; clear L1 A1)
    | (go_at_call 13; refine (alive_bad (w1.heap.size + 1) 3 4 ((w1.alloc _).alloc (.cells #[.int .u8 3] 5)) (by decide) ex_three (.of (lit_at 5 [.int .u8 3] (by simp)))).mono ?_; rintro e w2 ⟨x2, c2, y2, d2, rfl, L2⟩; have M2 := Base.next (M1.alloc M1.size _) (Base.next ((Below.refl _ _).alloc (Nat.le_refl _) _) L2); clear M1 L2)
    | (go_at_call 9; refine (alive_put (w2.heap.size + 1) ((w2.alloc _).alloc (.cells #[.int .u64 1, .int .u64 2] 55)) (lit_at 55 [.int .u64 1, .int .u64 2] (by simp)) (((hT.below M2).alloc _).alloc _)).mono ?_; rintro e w3 ⟨x3, c3, rfl, hc3, R3, L3⟩; have M3 := Base.next (M2.alloc M2.size _) (Base.next ((Below.refl _ _).alloc (Nat.le_refl _) _) L3); clear M2 L3)
    | (go_at_call 17; refine (alive_chal w3 (hT.below M3)).mono ?_; rintro e w4 ⟨x4, c4, rfl, R4, L4⟩; have M4 := Base.next M3 L4; have R34 := R3.row.below L4; obtain ⟨g, off, rfl, _, hc21⟩ := R34 21 (.int .u8 1) rfl; have s1 : (convert 27 9 (.slice (some ⟨g, off, none⟩) 5 c3)).run Tryd.prog w4 = .ok (.string { data := #[2, 1, 1, 1, 0] }) w4 := str_of w4 (some ⟨g, off, none⟩) 5 c3 [2, 1, 1, 1, 0] rfl (R34.take 5); have s2 : (convert 27 9 (.slice x4 2 c4)).run Tryd.prog w4 = .ok (.string { data := #[3, 5] }) w4 := str_of w4 x4 2 c4 [3, 5] rfl R4.row; clear R3 R34 R4 L4 M3))
  all_goals go_ret
  all_goals exact ⟨by simp, M4⟩
end Go.Proofs.YtangljeceohdpaaDoor.Ack
