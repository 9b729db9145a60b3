/-
  Contracts of conf's own functions: within, valid, and of slices.Index over bools.
-/
import Derived.Test.YtnnpklnhdfpnjaaConfRef
import Derived.Test.YtnnpklnhdfpnjaaConfTurn
import Derived.Test.YtnnpklnhdfpnjaaConfRow
import Derived.Test.YtnnpklnhdfpnjaaTail2
import Derived.Test.YtnnpklnhdfpnjaaBools
set_option linter.unusedSimpArgs false
set_option linter.unusedVariables false
namespace Go.Proofs.Ytnnpklnhdfpnjaa.Conf
set_option linter.unusedVariables false
set_option maxRecDepth 20000
open Go.ChangeShapes Go.WideShapes Go.ChangeAt Go.RowKit
open Go.Proofs.Ytnnpklnhdfpnjaa.Base Go.Proofs.Ytnnpklnhdfpnjaa.ConfPlain

theorem within_i64 (n a b : Int) (w : World) : Calls Try.prog 70 #[.int .i64 n, .int .i64 a, .int .i64 b] w fun e w' => e = .returned (.bool (decide (a ≤ n) && decide (n ≤ b))) ∧ w = w' := by
  go_enter Try.func70, Try.ntmps70
  by_cases h1 : a ≤ n
  · go_wp2
    all_goals go_ret
    all_goals simp [*]
  · go_wp2
    all_goals go_ret
    all_goals (simp; omega)
theorem within_u64 (n a b : Int) (w : World) : Calls Try.prog 71 #[.int .u64 n, .int .u64 a, .int .u64 b] w fun e w' => e = .returned (.bool (decide (a ≤ n) && decide (n ≤ b))) ∧ w = w' := by
  go_enter Try.func71, Try.ntmps71
  by_cases h1 : a ≤ n
  · go_wp2
    all_goals go_ret
    all_goals simp [*]
  · go_wp2
    all_goals go_ret
    all_goals (simp; omega)
/-- slices.Index of false: one less than the place. -/
theorem index_false (a : Option Addr) (n cap : Nat) (l : List Bool) (w : World) (hn : l.length = n) (hm : n ≤ 1000) (hz : Bools w a l) :
    Calls Try.prog 55 #[.slice a n cap, .bool false] w fun e w' => e = .returned (.int .i64 (pos l - 1)) ∧ w = w' := by
  subst hn
  go_enter Try.func55, Try.ntmps55
  go_wp2
  go_loopw [5, 8] (fun _ i wr => ∃ k : Nat, k ≤ l.length ∧ i = .int .i64 k ∧ pos l = bad k (l.drop k) ∧ w = wr) (fun _ i _ => l.length - (intOf i).toNat)
  case atStart => exact ⟨0, Nat.zero_le _, rfl, rfl, rfl⟩
  case round =>
    obtain ⟨k, hk, rfl, hp, rfl⟩ := hrel
    by_cases hlt : k < l.length
    · have hkI : (k : Int) < (l.length : Int) := by omega
      have hH := Lib.hid (hp.trans (bad_step hlt))
      obtain ⟨b, off, rfl, hb, hcell⟩ := hz.at_ hlt
      clear hp
      generalize l.getD k false = y at *
      cases y
      · go_wp2
        all_goals go_ret
        all_goals
          have hh := hH.out
          simp at hh
          have e : (k : Int) + 1 - 1 = k := by omega
          rw [hh, e]
          exact ⟨rfl, rfl⟩
      · go_wp2
        all_goals go_roundw
        case rel => exact ⟨k + 1, by omega, by go_num, by have := hH.out; simpa using this, trivial⟩
        case measure => simp [intOf]; omega
    · obtain rfl : k = l.length := by omega
      have hH := Lib.hid (hp.trans (bad_end (Nat.le_refl _)))
      clear hp
      go_wp2
      all_goals go_ret
      all_goals exact ⟨by rw [hH.out]; rfl, rfl⟩
theorem lit_bools {o : Oper} (ho : o.op = .buildSlice 71 17 #[(0, .tmp 5), (1, .tmp 8), (2, .tmp 11), (3, .tmp 14), (4, .tmp 17), (5, .tmp 20), (6, .tmp 27), (7, .tmp 33), (8, .tmp 38), (9, .tmp 46), (10, .tmp 49), (11, .tmp 52), (12, .tmp 57), (13, .tmp 62), (14, .tmp 65), (15, .tmp 68), (16, .tmp 71)]) {ρ : Operand → Value} {b0 b1 b2 b3 b4 b5 b6 b7 b8 b9 b10 b11 b12 b13 b14 b15 b16 : Bool} (h0 : ρ (.tmp 5) = .bool b0) (h1 : ρ (.tmp 8) = .bool b1) (h2 : ρ (.tmp 11) = .bool b2) (h3 : ρ (.tmp 14) = .bool b3) (h4 : ρ (.tmp 17) = .bool b4) (h5 : ρ (.tmp 20) = .bool b5) (h6 : ρ (.tmp 27) = .bool b6) (h7 : ρ (.tmp 33) = .bool b7) (h8 : ρ (.tmp 38) = .bool b8) (h9 : ρ (.tmp 46) = .bool b9) (h10 : ρ (.tmp 49) = .bool b10) (h11 : ρ (.tmp 52) = .bool b11) (h12 : ρ (.tmp 57) = .bool b12) (h13 : ρ (.tmp 62) = .bool b13) (h14 : ρ (.tmp 65) = .bool b14) (h15 : ρ (.tmp 68) = .bool b15) (h16 : ρ (.tmp 71) = .bool b16) (u : World) : (execOp ρ o).run Try.prog u = .ok (.value (.slice (some ⟨u.heap.size, 0, none⟩) 17 17)) (u.alloc (.cells #[.bool b0, .bool b1, .bool b2, .bool b3, .bool b4, .bool b5, .bool b6, .bool b7, .bool b8, .bool b9, .bool b10, .bool b11, .bool b12, .bool b13, .bool b14, .bool b15, .bool b16] 4)) := by
  unfold execOp
  rw [ho]
  simp [h0, h1, h2, h3, h4, h5, h6, h7, h8, h9, h10, h11, h12, h13, h14, h15, h16, go_sem]
/-- A block of bools is a row of them. -/
theorem bools_blk {w : World} {g : Nat} {l : List Bool} {T : TypeId} {cs : Array Value} (h : Blk w g cs T) (e : cs = (l.map Value.bool).toArray := by rfl) : Bools w (some ⟨g, 0, none⟩) l := fun j u hj =>
  ⟨g, 0, rfl, h.lt, by rw [Nat.zero_add, h.cell, e]; simpa using hj⟩
/-- What valid tells of each field. -/
def flagsW (c : C) (m : Int) : List Bool := [(decide (1 ≤ c.bits) && decide (c.bits ≤ 64)), (c.one != 1), (decide (4 ≤ c.ring) && decide (c.ring ≤ 256)), decide (c.limit ≤ 4611686018427387903), (decide (1 ≤ c.room) && decide (c.room ≤ 65536)), (decide (1 ≤ c.mss) && decide (c.mss ≤ 1500)), (decide (c.least ≤ c.initial) && decide (c.initial ≤ c.most)), decide (m ≤ c.least), (decide (c.least ≤ c.most) && decide (c.most ≤ 1073741824)), ((c.algo == 1) || (c.algo == 2)), (decide (1 ≤ c.first) && decide (c.first ≤ 1099511627776)), (decide (1 ≤ c.grain) && decide (c.grain ≤ 1099511627776)), (decide (c.grain ≤ c.cap) && decide (c.cap ≤ 1099511627776)), (decide (c.mss ≤ c.burst) && decide (c.burst ≤ 1073741824)), (decide (1 ≤ c.slowest) && decide (c.slowest ≤ 4294967296)), (decide (0 ≤ c.chal) && decide (c.chal ≤ 64)), (decide (1 ≤ c.every) && decide (c.every ≤ 1099511627776))]
set_option maxHeartbeats 2000000 in
theorem valid_any (c : C) (w : World) (hc : Rng c) : Calls Try.prog 56 #[.agg #[.int .i64 c.bits, .int .u64 c.one, .int .i64 c.ring, .int .u64 c.limit, .int .i64 c.room, .int .u64 c.mss, .int .u64 c.initial, .int .u64 c.least, .int .u64 c.most, .int .i64 c.algo, .int .u64 c.first, .int .u64 c.grain, .int .u64 c.cap, .int .u64 c.burst, .int .u64 c.slowest, .int .i64 c.chal, .int .u64 c.every]] w fun e w' => ∃ p cap, e = .returned (.slice p 17 cap) ∧ Bools w' p (flagsW c (IntKind.u64.wrap (2 * c.mss))) ∧ Below w.heap.size w w' := by
  have hB := Blk.new w #[.int .i64 c.bits, .int .u64 c.one, .int .i64 c.ring, .int .u64 c.limit, .int .i64 c.room, .int .u64 c.mss, .int .u64 c.initial, .int .u64 c.least, .int .u64 c.most, .int .i64 c.algo, .int .u64 c.first, .int .u64 c.grain, .int .u64 c.cap, .int .u64 c.burst, .int .u64 c.slowest, .int .i64 c.chal, .int .u64 c.every] 24
  have hL : Below w.heap.size w (w.alloc (.cells #[.int .i64 c.bits, .int .u64 c.one, .int .i64 c.ring, .int .u64 c.limit, .int .i64 c.room, .int .u64 c.mss, .int .u64 c.initial, .int .u64 c.least, .int .u64 c.most, .int .i64 c.algo, .int .u64 c.first, .int .u64 c.grain, .int .u64 c.cap, .int .u64 c.burst, .int .u64 c.slowest, .int .i64 c.chal, .int .u64 c.every] 24)) := (Below.refl _ _).alloc (Nat.le_refl _) _
  go_enter Try.func56, Try.ntmps56
  go_upto_region 1 with fail
  generalize w.alloc (.cells #[.int .i64 c.bits, .int .u64 c.one, .int .i64 c.ring, .int .u64 c.limit, .int .i64 c.room, .int .u64 c.mss, .int .u64 c.initial, .int .u64 c.least, .int .u64 c.most, .int .i64 c.algo, .int .u64 c.first, .int .u64 c.grain, .int .u64 c.cap, .int .u64 c.burst, .int .u64 c.slowest, .int .i64 c.chal, .int .u64 c.every] 24) = W at hB hL ⊢
  generalize hg : w.heap.size = g at hB ⊢
  have p0 : ∀ p : In (Lt W), p.w.cell? ⟨g, 0, none⟩ = some (.int .i64 c.bits) := fun p => held_cell p.h (hB.cell 0)
  have p1 : ∀ p : In (Lt W), p.w.cell? ⟨g, 1, none⟩ = some (.int .u64 c.one) := fun p => held_cell p.h (hB.cell 1)
  have p2 : ∀ p : In (Lt W), p.w.cell? ⟨g, 2, none⟩ = some (.int .i64 c.ring) := fun p => held_cell p.h (hB.cell 2)
  have p3 : ∀ p : In (Lt W), p.w.cell? ⟨g, 3, none⟩ = some (.int .u64 c.limit) := fun p => held_cell p.h (hB.cell 3)
  have p4 : ∀ p : In (Lt W), p.w.cell? ⟨g, 4, none⟩ = some (.int .i64 c.room) := fun p => held_cell p.h (hB.cell 4)
  have p5 : ∀ p : In (Lt W), p.w.cell? ⟨g, 5, none⟩ = some (.int .u64 c.mss) := fun p => held_cell p.h (hB.cell 5)
  have p6 : ∀ p : In (Lt W), p.w.cell? ⟨g, 6, none⟩ = some (.int .u64 c.initial) := fun p => held_cell p.h (hB.cell 6)
  have p7 : ∀ p : In (Lt W), p.w.cell? ⟨g, 7, none⟩ = some (.int .u64 c.least) := fun p => held_cell p.h (hB.cell 7)
  have p8 : ∀ p : In (Lt W), p.w.cell? ⟨g, 8, none⟩ = some (.int .u64 c.most) := fun p => held_cell p.h (hB.cell 8)
  have p9 : ∀ p : In (Lt W), p.w.cell? ⟨g, 9, none⟩ = some (.int .i64 c.algo) := fun p => held_cell p.h (hB.cell 9)
  have p10 : ∀ p : In (Lt W), p.w.cell? ⟨g, 10, none⟩ = some (.int .u64 c.first) := fun p => held_cell p.h (hB.cell 10)
  have p11 : ∀ p : In (Lt W), p.w.cell? ⟨g, 11, none⟩ = some (.int .u64 c.grain) := fun p => held_cell p.h (hB.cell 11)
  have p12 : ∀ p : In (Lt W), p.w.cell? ⟨g, 12, none⟩ = some (.int .u64 c.cap) := fun p => held_cell p.h (hB.cell 12)
  have p13 : ∀ p : In (Lt W), p.w.cell? ⟨g, 13, none⟩ = some (.int .u64 c.burst) := fun p => held_cell p.h (hB.cell 13)
  have p14 : ∀ p : In (Lt W), p.w.cell? ⟨g, 14, none⟩ = some (.int .u64 c.slowest) := fun p => held_cell p.h (hB.cell 14)
  have p15 : ∀ p : In (Lt W), p.w.cell? ⟨g, 15, none⟩ = some (.int .i64 c.chal) := fun p => held_cell p.h (hB.cell 15)
  have p16 : ∀ p : In (Lt W), p.w.cell? ⟨g, 16, none⟩ = some (.int .u64 c.every) := fun p => held_cell p.h (hB.cell 16)
  generalize hm : IntKind.u64.wrap (2 * c.mss) = m
  simp only [List.append_eq, List.cons_append, List.nil_append]
  refine wp_region_rest (C := fun w' => ∃ p : In (Lt W), w' = p.w) 69 2 (by kernel_rfl) (by kernel_rfl) (by kernel_rfl) (by kernel_rfl) (by kernel_rfl) ⟨⟨W.drew, Lt.drew W⟩, rfl⟩ ?_
  simp only [List.toList_toArray, List.take_succ_cons, List.take_zero]
  by_cases ha : c.algo = 1
  · have hx : ((c.algo == 1) || (c.algo == 2)) = true := by rw [ha]; rfl
    repeat (go_big_quiet_step (first
      | (go_at_call 70; exact in_same (within_i64 _ _ _ _))
      | (go_at_call 71; exact in_same (within_u64 _ _ _ _))))
    refine wpQuiet_nil ?_
    rintro w1 ⟨⟨_, hw1⟩, rfl⟩
    clear p0 p1 p2 p3 p4 p5 p6 p7 p8 p9 p10 p11 p12 p13 p14 p15 p16
    have hw1 : Below W.heap.size W w1 := hw1
    refine wpAny_of_held (S := fun u => Below W.heap.size W u) _ _ _ _ ?_
    have hw2 := hw1.alloc hw1.size (.cells #[.bool (decide (1 ≤ c.bits) && decide (c.bits ≤ 64)), .bool (c.one != 1), .bool (decide (4 ≤ c.ring) && decide (c.ring ≤ 256)), .bool (decide (c.limit ≤ 4611686018427387903)), .bool (decide (1 ≤ c.room) && decide (c.room ≤ 65536)), .bool (decide (1 ≤ c.mss) && decide (c.mss ≤ 1500)), .bool (decide (c.least ≤ c.initial) && decide (c.initial ≤ c.most)), .bool (decide (m ≤ c.least)), .bool (decide (c.least ≤ c.most) && decide (c.most ≤ 1073741824)), .bool (true), .bool (decide (1 ≤ c.first) && decide (c.first ≤ 1099511627776)), .bool (decide (1 ≤ c.grain) && decide (c.grain ≤ 1099511627776)), .bool (decide (c.grain ≤ c.cap) && decide (c.cap ≤ 1099511627776)), .bool (decide (c.mss ≤ c.burst) && decide (c.burst ≤ 1073741824)), .bool (decide (1 ≤ c.slowest) && decide (c.slowest ≤ 4294967296)), .bool (decide (0 ≤ c.chal) && decide (c.chal ≤ 64)), .bool (decide (1 ≤ c.every) && decide (c.every ≤ 1099511627776))] 4)
    have hB2 := Blk.new w1 #[.bool (decide (1 ≤ c.bits) && decide (c.bits ≤ 64)), .bool (c.one != 1), .bool (decide (4 ≤ c.ring) && decide (c.ring ≤ 256)), .bool (decide (c.limit ≤ 4611686018427387903)), .bool (decide (1 ≤ c.room) && decide (c.room ≤ 65536)), .bool (decide (1 ≤ c.mss) && decide (c.mss ≤ 1500)), .bool (decide (c.least ≤ c.initial) && decide (c.initial ≤ c.most)), .bool (decide (m ≤ c.least)), .bool (decide (c.least ≤ c.most) && decide (c.most ≤ 1073741824)), .bool (true), .bool (decide (1 ≤ c.first) && decide (c.first ≤ 1099511627776)), .bool (decide (1 ≤ c.grain) && decide (c.grain ≤ 1099511627776)), .bool (decide (c.grain ≤ c.cap) && decide (c.cap ≤ 1099511627776)), .bool (decide (c.mss ≤ c.burst) && decide (c.burst ≤ 1073741824)), .bool (decide (1 ≤ c.slowest) && decide (c.slowest ≤ 4294967296)), .bool (decide (0 ≤ c.chal) && decide (c.chal ≤ 64)), .bool (decide (1 ≤ c.every) && decide (c.every ≤ 1099511627776))] 4
    have hF : flagsW c m = [(decide (1 ≤ c.bits) && decide (c.bits ≤ 64)), (c.one != 1), (decide (4 ≤ c.ring) && decide (c.ring ≤ 256)), (decide (c.limit ≤ 4611686018427387903)), (decide (1 ≤ c.room) && decide (c.room ≤ 65536)), (decide (1 ≤ c.mss) && decide (c.mss ≤ 1500)), (decide (c.least ≤ c.initial) && decide (c.initial ≤ c.most)), (decide (m ≤ c.least)), (decide (c.least ≤ c.most) && decide (c.most ≤ 1073741824)), (true), (decide (1 ≤ c.first) && decide (c.first ≤ 1099511627776)), (decide (1 ≤ c.grain) && decide (c.grain ≤ 1099511627776)), (decide (c.grain ≤ c.cap) && decide (c.cap ≤ 1099511627776)), (decide (c.mss ≤ c.burst) && decide (c.burst ≤ 1073741824)), (decide (1 ≤ c.slowest) && decide (c.slowest ≤ 4294967296)), (decide (0 ≤ c.chal) && decide (c.chal ≤ 64)), (decide (1 ≤ c.every) && decide (c.every ≤ 1099511627776))] := by unfold flagsW; rw [hx]
    refine held_one (i := 69) (v := .slice (some ⟨w1.heap.size, 0, none⟩) 17 17) (w' := w1.alloc (.cells #[.bool (decide (1 ≤ c.bits) && decide (c.bits ≤ 64)), .bool (c.one != 1), .bool (decide (4 ≤ c.ring) && decide (c.ring ≤ 256)), .bool (decide (c.limit ≤ 4611686018427387903)), .bool (decide (1 ≤ c.room) && decide (c.room ≤ 65536)), .bool (decide (1 ≤ c.mss) && decide (c.mss ≤ 1500)), .bool (decide (c.least ≤ c.initial) && decide (c.initial ≤ c.most)), .bool (decide (m ≤ c.least)), .bool (decide (c.least ≤ c.most) && decide (c.most ≤ 1073741824)), .bool (true), .bool (decide (1 ≤ c.first) && decide (c.first ≤ 1099511627776)), .bool (decide (1 ≤ c.grain) && decide (c.grain ≤ 1099511627776)), .bool (decide (c.grain ≤ c.cap) && decide (c.cap ≤ 1099511627776)), .bool (decide (c.mss ≤ c.burst) && decide (c.burst ≤ 1073741824)), .bool (decide (1 ≤ c.slowest) && decide (c.slowest ≤ 4294967296)), .bool (decide (0 ≤ c.chal) && decide (c.chal ≤ 64)), .bool (decide (1 ≤ c.every) && decide (c.every ≤ 1099511627776))] 4)) rfl (by kernel_rfl) (by kernel_rfl) (lit_bools rfl (by kernel_rfl) (by kernel_rfl) (by kernel_rfl) (by kernel_rfl) (by kernel_rfl) (by kernel_rfl) (by kernel_rfl) (by kernel_rfl) (by kernel_rfl) (by kernel_rfl) (by kernel_rfl) (by kernel_rfl) (by kernel_rfl) (by kernel_rfl) (by kernel_rfl) (by kernel_rfl) (by kernel_rfl) w1) hw2 ?_
    refine held_one (i := 70) (v := .slice (some ⟨w1.heap.size, 0, none⟩) 17 17) (w' := w1.alloc (.cells #[.bool (decide (1 ≤ c.bits) && decide (c.bits ≤ 64)), .bool (c.one != 1), .bool (decide (4 ≤ c.ring) && decide (c.ring ≤ 256)), .bool (decide (c.limit ≤ 4611686018427387903)), .bool (decide (1 ≤ c.room) && decide (c.room ≤ 65536)), .bool (decide (1 ≤ c.mss) && decide (c.mss ≤ 1500)), .bool (decide (c.least ≤ c.initial) && decide (c.initial ≤ c.most)), .bool (decide (m ≤ c.least)), .bool (decide (c.least ≤ c.most) && decide (c.most ≤ 1073741824)), .bool (true), .bool (decide (1 ≤ c.first) && decide (c.first ≤ 1099511627776)), .bool (decide (1 ≤ c.grain) && decide (c.grain ≤ 1099511627776)), .bool (decide (c.grain ≤ c.cap) && decide (c.cap ≤ 1099511627776)), .bool (decide (c.mss ≤ c.burst) && decide (c.burst ≤ 1073741824)), .bool (decide (1 ≤ c.slowest) && decide (c.slowest ≤ 4294967296)), .bool (decide (0 ≤ c.chal) && decide (c.chal ≤ 64)), .bool (decide (1 ≤ c.every) && decide (c.every ≤ 1099511627776))] 4)) rfl (by kernel_rfl) (by kernel_rfl) (by kernel_rfl) hw2 ?_
    refine held_end 2 (.slice (some ⟨w1.heap.size, 0, none⟩) 17 17) (by kernel_rfl) (by kernel_rfl) (by kernel_rfl) fun a' hd hv => ?_
    go_wp2
    refine bodyPost_ret (results_tmp rfl _ _ _) hd ?_
    rw [hv]
    refine ⟨_, _, rfl, ?_, Base.next0 hL hL.size hw2⟩
    rw [hm, hF]
    exact bools_blk hB2
  · have ha' : (c.algo == 1) = false := by simpa using ha
    have hx : ((c.algo == 1) || (c.algo == 2)) = (c.algo == 2) := by rw [ha']; rfl
    repeat (go_big_quiet_step (first
      | (go_at_call 70; exact in_same (within_i64 _ _ _ _))
      | (go_at_call 71; exact in_same (within_u64 _ _ _ _))))
    refine wpQuiet_nil ?_
    rintro w1 ⟨⟨_, hw1⟩, rfl⟩
    clear p0 p1 p2 p3 p4 p5 p6 p7 p8 p9 p10 p11 p12 p13 p14 p15 p16
    have hw1 : Below W.heap.size W w1 := hw1
    refine wpAny_of_held (S := fun u => Below W.heap.size W u) _ _ _ _ ?_
    have hw2 := hw1.alloc hw1.size (.cells #[.bool (decide (1 ≤ c.bits) && decide (c.bits ≤ 64)), .bool (c.one != 1), .bool (decide (4 ≤ c.ring) && decide (c.ring ≤ 256)), .bool (decide (c.limit ≤ 4611686018427387903)), .bool (decide (1 ≤ c.room) && decide (c.room ≤ 65536)), .bool (decide (1 ≤ c.mss) && decide (c.mss ≤ 1500)), .bool (decide (c.least ≤ c.initial) && decide (c.initial ≤ c.most)), .bool (decide (m ≤ c.least)), .bool (decide (c.least ≤ c.most) && decide (c.most ≤ 1073741824)), .bool (c.algo == 2), .bool (decide (1 ≤ c.first) && decide (c.first ≤ 1099511627776)), .bool (decide (1 ≤ c.grain) && decide (c.grain ≤ 1099511627776)), .bool (decide (c.grain ≤ c.cap) && decide (c.cap ≤ 1099511627776)), .bool (decide (c.mss ≤ c.burst) && decide (c.burst ≤ 1073741824)), .bool (decide (1 ≤ c.slowest) && decide (c.slowest ≤ 4294967296)), .bool (decide (0 ≤ c.chal) && decide (c.chal ≤ 64)), .bool (decide (1 ≤ c.every) && decide (c.every ≤ 1099511627776))] 4)
    have hB2 := Blk.new w1 #[.bool (decide (1 ≤ c.bits) && decide (c.bits ≤ 64)), .bool (c.one != 1), .bool (decide (4 ≤ c.ring) && decide (c.ring ≤ 256)), .bool (decide (c.limit ≤ 4611686018427387903)), .bool (decide (1 ≤ c.room) && decide (c.room ≤ 65536)), .bool (decide (1 ≤ c.mss) && decide (c.mss ≤ 1500)), .bool (decide (c.least ≤ c.initial) && decide (c.initial ≤ c.most)), .bool (decide (m ≤ c.least)), .bool (decide (c.least ≤ c.most) && decide (c.most ≤ 1073741824)), .bool (c.algo == 2), .bool (decide (1 ≤ c.first) && decide (c.first ≤ 1099511627776)), .bool (decide (1 ≤ c.grain) && decide (c.grain ≤ 1099511627776)), .bool (decide (c.grain ≤ c.cap) && decide (c.cap ≤ 1099511627776)), .bool (decide (c.mss ≤ c.burst) && decide (c.burst ≤ 1073741824)), .bool (decide (1 ≤ c.slowest) && decide (c.slowest ≤ 4294967296)), .bool (decide (0 ≤ c.chal) && decide (c.chal ≤ 64)), .bool (decide (1 ≤ c.every) && decide (c.every ≤ 1099511627776))] 4
    have hF : flagsW c m = [(decide (1 ≤ c.bits) && decide (c.bits ≤ 64)), (c.one != 1), (decide (4 ≤ c.ring) && decide (c.ring ≤ 256)), (decide (c.limit ≤ 4611686018427387903)), (decide (1 ≤ c.room) && decide (c.room ≤ 65536)), (decide (1 ≤ c.mss) && decide (c.mss ≤ 1500)), (decide (c.least ≤ c.initial) && decide (c.initial ≤ c.most)), (decide (m ≤ c.least)), (decide (c.least ≤ c.most) && decide (c.most ≤ 1073741824)), (c.algo == 2), (decide (1 ≤ c.first) && decide (c.first ≤ 1099511627776)), (decide (1 ≤ c.grain) && decide (c.grain ≤ 1099511627776)), (decide (c.grain ≤ c.cap) && decide (c.cap ≤ 1099511627776)), (decide (c.mss ≤ c.burst) && decide (c.burst ≤ 1073741824)), (decide (1 ≤ c.slowest) && decide (c.slowest ≤ 4294967296)), (decide (0 ≤ c.chal) && decide (c.chal ≤ 64)), (decide (1 ≤ c.every) && decide (c.every ≤ 1099511627776))] := by unfold flagsW; rw [hx]
    refine held_one (i := 69) (v := .slice (some ⟨w1.heap.size, 0, none⟩) 17 17) (w' := w1.alloc (.cells #[.bool (decide (1 ≤ c.bits) && decide (c.bits ≤ 64)), .bool (c.one != 1), .bool (decide (4 ≤ c.ring) && decide (c.ring ≤ 256)), .bool (decide (c.limit ≤ 4611686018427387903)), .bool (decide (1 ≤ c.room) && decide (c.room ≤ 65536)), .bool (decide (1 ≤ c.mss) && decide (c.mss ≤ 1500)), .bool (decide (c.least ≤ c.initial) && decide (c.initial ≤ c.most)), .bool (decide (m ≤ c.least)), .bool (decide (c.least ≤ c.most) && decide (c.most ≤ 1073741824)), .bool (c.algo == 2), .bool (decide (1 ≤ c.first) && decide (c.first ≤ 1099511627776)), .bool (decide (1 ≤ c.grain) && decide (c.grain ≤ 1099511627776)), .bool (decide (c.grain ≤ c.cap) && decide (c.cap ≤ 1099511627776)), .bool (decide (c.mss ≤ c.burst) && decide (c.burst ≤ 1073741824)), .bool (decide (1 ≤ c.slowest) && decide (c.slowest ≤ 4294967296)), .bool (decide (0 ≤ c.chal) && decide (c.chal ≤ 64)), .bool (decide (1 ≤ c.every) && decide (c.every ≤ 1099511627776))] 4)) rfl (by kernel_rfl) (by kernel_rfl) (lit_bools rfl (by kernel_rfl) (by kernel_rfl) (by kernel_rfl) (by kernel_rfl) (by kernel_rfl) (by kernel_rfl) (by kernel_rfl) (by kernel_rfl) (by kernel_rfl) (by kernel_rfl) (by kernel_rfl) (by kernel_rfl) (by kernel_rfl) (by kernel_rfl) (by kernel_rfl) (by kernel_rfl) (by kernel_rfl) w1) hw2 ?_
    refine held_one (i := 70) (v := .slice (some ⟨w1.heap.size, 0, none⟩) 17 17) (w' := w1.alloc (.cells #[.bool (decide (1 ≤ c.bits) && decide (c.bits ≤ 64)), .bool (c.one != 1), .bool (decide (4 ≤ c.ring) && decide (c.ring ≤ 256)), .bool (decide (c.limit ≤ 4611686018427387903)), .bool (decide (1 ≤ c.room) && decide (c.room ≤ 65536)), .bool (decide (1 ≤ c.mss) && decide (c.mss ≤ 1500)), .bool (decide (c.least ≤ c.initial) && decide (c.initial ≤ c.most)), .bool (decide (m ≤ c.least)), .bool (decide (c.least ≤ c.most) && decide (c.most ≤ 1073741824)), .bool (c.algo == 2), .bool (decide (1 ≤ c.first) && decide (c.first ≤ 1099511627776)), .bool (decide (1 ≤ c.grain) && decide (c.grain ≤ 1099511627776)), .bool (decide (c.grain ≤ c.cap) && decide (c.cap ≤ 1099511627776)), .bool (decide (c.mss ≤ c.burst) && decide (c.burst ≤ 1073741824)), .bool (decide (1 ≤ c.slowest) && decide (c.slowest ≤ 4294967296)), .bool (decide (0 ≤ c.chal) && decide (c.chal ≤ 64)), .bool (decide (1 ≤ c.every) && decide (c.every ≤ 1099511627776))] 4)) rfl (by kernel_rfl) (by kernel_rfl) (by kernel_rfl) hw2 ?_
    refine held_end 2 (.slice (some ⟨w1.heap.size, 0, none⟩) 17 17) (by kernel_rfl) (by kernel_rfl) (by kernel_rfl) fun a' hd hv => ?_
    go_wp2
    refine bodyPost_ret (results_tmp rfl _ _ _) hd ?_
    rw [hv]
    refine ⟨_, _, rfl, ?_, Base.next0 hL hL.size hw2⟩
    rw [hm, hF]
    exact bools_blk hB2
end Go.Proofs.Ytnnpklnhdfpnjaa.Conf
