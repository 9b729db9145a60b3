/-
  The program's controls by contract: what a loss and a mark leave, cut, Start, Ack.
-/
import Derived.Test.YtnnpklnhdfpnjaaControlRef
import Derived.Test.YtnnpklnhdfpnjaaCubic
import Derived.Test.YtnnpklnhdfpnjaaRound
import Derived.Test.YtnnpklnhdfpnjaaConf
import Derived.Test.YtnnpklnhdfpnjaaPlus
set_option linter.unusedSimpArgs false
set_option linter.unusedVariables false
namespace Go.Proofs.Ytnnpklnhdfpnjaa.Control
set_option linter.unusedVariables false
set_option maxRecDepth 20000
open Go.ChangeShapes Go.WideShapes Go.ChangeAt Go.RowKit
open Go.Proofs.Ytnnpklnhdfpnjaa.Base Go.Proofs.Ytnnpklnhdfpnjaa.RenoPlain Go.Proofs.Ytnnpklnhdfpnjaa.CubicPlain Go.Proofs.Ytnnpklnhdfpnjaa.RoundPlain Go.Proofs.Ytnnpklnhdfpnjaa.ConfPlain Go.Proofs.Ytnnpklnhdfpnjaa.ControlPlain Go.Proofs.Ytnnpklnhdfpnjaa.Conf Go.Proofs.Ytnnpklnhdfpnjaa.Reno Go.Proofs.Ytnnpklnhdfpnjaa.Cubic Go.Proofs.Ytnnpklnhdfpnjaa.Hop

theorem st_midc {ρ : Operand → Value} {o : Oper} {u : World} (ty : TypeId) (x y : Operand) (ho : o.op = .store ty x y) {g i : Nat} {cells : Array Value} (hx : ρ x = .pointer (some ⟨g, i, none⟩)) (hy : ρ y = .agg cells) (hB : u.there g i cells.size) (hi : (Try.prog.info? ty).map (·.size) = some cells.size) (h1 : cells.all (·.oneCell') = true) : (execOp ρ o).run Try.prog u = .ok .skip (u.setCells g i cells.toList) := by
  unfold execOp
  simp only [ho, hx, hy, Instr.storeAt, Instr.sureAddr, Sem.run_bind, Sem.run_pure, Result.andThen_ok, run_storeVar_mid u g i ty cells hB hi h1]
theorem enter5 {P : Program} {ρ : Operand → Value} {o : Oper} {u : World} {F : FuncId} {X Y Z U V : Value} (x y z p q : Operand) (ts : Array TypeId) (ho : o.op = .call { callee := .value (.func F), args := #[x, y, z, p, q], argTypes := ts })
    (hf : ρ (.func F) = .func (.func F) #[] #[]) (hx : ρ x = X) (hy : ρ y = Y) (hz : ρ z = Z) (hp : ρ p = U) (hq : ρ q = V) (hc : (callFunc F #[X, Y, Z, U, V]).run P u = .ok (.enter F #[X, Y, Z, U, V]) u) : (execOp ρ o).run P u = .ok (.enter F #[X, Y, Z, U, V]) u := by
  unfold execOp
  rw [ho]
  simp [hf, hx, hy, hz, hp, hq, go_sem]
  exact hc
/-- What a loss, what a mark leaves of a window. -/
def shL (c : C) : Int × Int := if c.algo = 2 then (7, 10) else (1, 2)
def shM (c : C) : Int × Int := if c.algo = 2 then (17, 20) else (4, 5)
theorem shL_fit (c : C) : U (shL c).1 ∧ U (shL c).2 := by
  unfold shL U
  split <;> exact ⟨⟨by decide, by decide⟩, ⟨by decide, by decide⟩⟩
theorem shM_fit (c : C) : U (shM c).1 ∧ U (shM c).2 := by
  unfold shM U
  split <;> exact ⟨⟨by decide, by decide⟩, ⟨by decide, by decide⟩⟩
def cutX (c : C) (s : Wn) (num den : Int) : Wn := if c.algo = 2 then cutC s num den else cutR s num den
def cutG (c : C) (s : Wn) (num den : Int) : Wn := { cutX c s num den with cw := Sat.clamp (cutX c s num den).cw c.least c.most, th := max (cutX c s num den).th c.least }
def lossG (c : C) (s : Kc) (pn next num den : Int) : Kc := if lossB c s pn = true then ⟨cutG c s.w num den, beginP s.d pn next⟩ else s
theorem every_flag : ∀ (k : Nat) (l : List Bool), bad k l = 0 → ∀ b ∈ l, b = true
  | _, [], _ => fun b h => by cases h
  | k, x :: r, h => fun b hb => by
    unfold bad at h
    split at h
    · rename_i hx
      rcases List.mem_cons.1 hb with rfl | hb
      · exact hx
      · exact every_flag (k + 1) r h b hb
    · omega
theorem algo_of {c : C} (h : pos (flags c) = 0) : c.algo = 1 ∨ c.algo = 2 := by
  have H := every_flag 0 (flags c) h ((c.algo == 1) || (c.algo == 2)) (by unfold flags; simp)
  simpa using H
theorem down_7 (a : Int) : Wide.down a 7 10 = Wide.down a 14 20 := by
  unfold Wide.down
  split <;> split <;> omega
theorem down_1 (a : Int) : Wide.down a 1 2 = Wide.down a 10 20 := by
  unfold Wide.down
  split <;> split <;> omega
theorem down_4 (a : Int) : Wide.down a 4 5 = Wide.down a 16 20 := by
  unfold Wide.down
  split <;> split <;> omega
theorem cutX_lost {c : C} (h : c.algo = 1 ∨ c.algo = 2) (s : Wn) : cutX c s (shL c).1 (shL c).2 = cutV c s 10 14 := by
  unfold cutX shL cutV cutC cutR
  rcases h with h | h
  · rw [if_neg (show ¬ c.algo = 2 by omega), if_neg (show ¬ c.algo = 2 by omega), if_pos h]
    simp only
    rw [down_1]
  · rw [if_pos h, if_pos h, if_neg (show ¬ c.algo = 1 by omega)]
    simp only
    rw [down_7]
theorem cutX_marked {c : C} (h : c.algo = 1 ∨ c.algo = 2) (s : Wn) : cutX c s (shM c).1 (shM c).2 = cutV c s 16 17 := by
  unfold cutX shM cutV cutC cutR
  rcases h with h | h
  · rw [if_neg (show ¬ c.algo = 2 by omega), if_neg (show ¬ c.algo = 2 by omega), if_pos h]
    simp only
    rw [down_4]
  · rw [if_pos h, if_pos h, if_neg (show ¬ c.algo = 1 by omega)]
theorem cutG_lost {c : C} (h : c.algo = 1 ∨ c.algo = 2) (s : Wn) : cutG c s (shL c).1 (shL c).2 = cutK c s 10 14 := by unfold cutG cutK; rw [cutX_lost h]
theorem cutG_marked {c : C} (h : c.algo = 1 ∨ c.algo = 2) (s : Wn) : cutG c s (shM c).1 (shM c).2 = cutK c s 16 17 := by unfold cutG cutK; rw [cutX_marked h]
theorem lossB_may {c : C} {s : Kc} {pn : Int} (h : lossB c s pn = true) : pos (flags c) = 0 := by
  unfold lossB at h
  simp only [Bool.and_eq_true, decide_eq_true_eq] at h
  exact h.1
theorem lossG_lost (c : C) (s : Kc) (pn next : Int) : lossG c s pn next (shL c).1 (shL c).2 = lossK c s pn next 10 14 := by
  unfold lossG lossK
  split
  · rename_i h
    rw [cutG_lost (algo_of (lossB_may h))]
  · rfl
theorem lossG_marked (c : C) (s : Kc) (pn next : Int) : lossG c s pn next (shM c).1 (shM c).2 = lossK c s pn next 16 17 := by
  unfold lossG lossK
  split
  · rename_i h
    rw [cutG_marked (algo_of (lossB_may h))]
  · rfl
set_option maxHeartbeats 4000000 in
theorem clampw_any (c : C) (s : Wn) (w : World) :
    Calls Try.prog 23 #[.agg #[.int .i64 c.bits, .int .u64 c.one, .int .i64 c.ring, .int .u64 c.limit, .int .i64 c.room, .int .u64 c.mss, .int .u64 c.initial, .int .u64 c.least, .int .u64 c.most, .int .i64 c.algo, .int .u64 c.first, .int .u64 c.grain, .int .u64 c.cap, .int .u64 c.burst, .int .u64 c.slowest, .int .i64 c.chal, .int .u64 c.every], .agg (wc s)] w (WinPost w (clampW c s)) := by
  obtain ⟨s0, s1, s2, s3, s4, s5, s6⟩ := s
  unfold WinPost clampW wc
  simp only
  have CL := fun V => Sat.clamp_any s0 c.least c.most V
  generalize Sat.clamp s0 c.least c.most = cl at *
  go_enter Try.func23, Try.ntmps23
  go_upto_region 1 with fail
  refine at_any ?_
  intro W hW
  obtain ⟨cB, wB, oB, hL⟩ : Blk W w.heap.size #[.int .i64 c.bits, .int .u64 c.one, .int .i64 c.ring, .int .u64 c.limit, .int .i64 c.room, .int .u64 c.mss, .int .u64 c.initial, .int .u64 c.least, .int .u64 c.most, .int .i64 c.algo, .int .u64 c.first, .int .u64 c.grain, .int .u64 c.cap, .int .u64 c.burst, .int .u64 c.slowest, .int .i64 c.chal, .int .u64 c.every] 24 ∧ Blk W (w.heap.size + 1) #[.int .u64 s0, .int .u64 s1, .int .u64 s2, .int .u64 s3, .int .u64 s4, .int .u64 s5, .int .u64 s6] 27 ∧ Blk W (w.heap.size + 1 + 1) #[.int .u64 0, .int .u64 0, .int .u64 0, .int .u64 0, .int .u64 0, .int .u64 0, .int .u64 0] 27 ∧ Below w.heap.size w W := by
    have h0 := Blk.new (w) #[.int .i64 c.bits, .int .u64 c.one, .int .i64 c.ring, .int .u64 c.limit, .int .i64 c.room, .int .u64 c.mss, .int .u64 c.initial, .int .u64 c.least, .int .u64 c.most, .int .i64 c.algo, .int .u64 c.first, .int .u64 c.grain, .int .u64 c.cap, .int .u64 c.burst, .int .u64 c.slowest, .int .i64 c.chal, .int .u64 c.every] 24
    have h1 := Blk.new (World.alloc (w) (.cells #[.int .i64 c.bits, .int .u64 c.one, .int .i64 c.ring, .int .u64 c.limit, .int .i64 c.room, .int .u64 c.mss, .int .u64 c.initial, .int .u64 c.least, .int .u64 c.most, .int .i64 c.algo, .int .u64 c.first, .int .u64 c.grain, .int .u64 c.cap, .int .u64 c.burst, .int .u64 c.slowest, .int .i64 c.chal, .int .u64 c.every] 24)) #[.int .u64 s0, .int .u64 s1, .int .u64 s2, .int .u64 s3, .int .u64 s4, .int .u64 s5, .int .u64 s6] 27
    have h2 := Blk.new (World.alloc (World.alloc (w) (.cells #[.int .i64 c.bits, .int .u64 c.one, .int .i64 c.ring, .int .u64 c.limit, .int .i64 c.room, .int .u64 c.mss, .int .u64 c.initial, .int .u64 c.least, .int .u64 c.most, .int .i64 c.algo, .int .u64 c.first, .int .u64 c.grain, .int .u64 c.cap, .int .u64 c.burst, .int .u64 c.slowest, .int .i64 c.chal, .int .u64 c.every] 24)) (.cells #[.int .u64 s0, .int .u64 s1, .int .u64 s2, .int .u64 s3, .int .u64 s4, .int .u64 s5, .int .u64 s6] 27)) #[.int .u64 0, .int .u64 0, .int .u64 0, .int .u64 0, .int .u64 0, .int .u64 0, .int .u64 0] 27
    simp only [World.size_alloc] at h1 h2
    subst hW
    exact ⟨((h0.alloc _).alloc _), (h1.alloc _), h2, ((((Below.refl _ _).alloc (Nat.le_refl _) _).alloc (by simp only [World.size_alloc]; omega) _).alloc (by simp only [World.size_alloc]; omega) _)⟩
  clear hW
  generalize hb_oB : w.heap.size + 1 + 1 = b_oB at *
  generalize hb_wB : w.heap.size + 1 = b_wB at *
  have lt_cB := cB.lt
  have cB_7 : _ = some (Value.int .u64 c.least) := cB.cell 7
  have cB_8 : _ = some (Value.int .u64 c.most) := cB.cell 8
  have lt_wB := wB.lt
  have wB_0 : _ = some (Value.int .u64 s0) := wB.cell 0
  have wB_z0 := wB.free 0
  have lt_oB := oB.lt
  go_upto_region 2 with (go_at_call 41; refine (CL _).mono ?_; rintro x' y ⟨rfl, rfl⟩)
  refine at_any ?_
  intro X hX
  obtain ⟨cB', wB', oB', hL'⟩ : Blk X w.heap.size #[.int .i64 c.bits, .int .u64 c.one, .int .i64 c.ring, .int .u64 c.limit, .int .i64 c.room, .int .u64 c.mss, .int .u64 c.initial, .int .u64 c.least, .int .u64 c.most, .int .i64 c.algo, .int .u64 c.first, .int .u64 c.grain, .int .u64 c.cap, .int .u64 c.burst, .int .u64 c.slowest, .int .i64 c.chal, .int .u64 c.every] 24 ∧ Blk X b_wB #[.int .u64 cl, .int .u64 s1, .int .u64 s2, .int .u64 s3, .int .u64 s4, .int .u64 s5, .int .u64 s6] 27 ∧ Blk X b_oB #[.int .u64 0, .int .u64 0, .int .u64 0, .int .u64 0, .int .u64 0, .int .u64 0, .int .u64 0] 27 ∧ Below w.heap.size w X := by
    subst hX
    exact ⟨cB.other (show w.heap.size ≠ b_wB by omega) _, wB.set 0 (.int .u64 cl), oB.other (show b_oB ≠ b_wB by omega) _, hL.setCell (show w.heap.size ≤ b_wB by omega) _⟩
  clear hX cB wB oB hL
  clear lt_cB cB_7 cB_8 lt_wB wB_0 wB_z0 lt_oB
  have cB := cB'
  have wB := wB'
  have oB := oB'
  have hL := hL'
  clear cB' wB' oB' hL'
  have lt_cB := cB.lt
  have lt_wB := wB.lt
  have wB_0 : _ = some (Value.int .u64 cl) := wB.cell 0
  have wB_1 : _ = some (Value.int .u64 s1) := wB.cell 1
  have wB_2 : _ = some (Value.int .u64 s2) := wB.cell 2
  have wB_3 : _ = some (Value.int .u64 s3) := wB.cell 3
  have wB_4 : _ = some (Value.int .u64 s4) := wB.cell 4
  have wB_5 : _ = some (Value.int .u64 s5) := wB.cell 5
  have wB_6 : _ = some (Value.int .u64 s6) := wB.cell 6
  have lt_oB := oB.lt
  go_wp2_with (refine wpl_store_row rfl 27 (.tmp 4) (.tmp 13) rfl oB #[.int .u64 cl, .int .u64 s1, .int .u64 s2, .int .u64 s3, .int .u64 s4, .int .u64 s5, .int .u64 s6] rfl rfl (by kernel_rfl) rfl (by simp [Value.oneCell']) ?_)
  refine bodyPost_ret (results_cell_row rfl _ _ b_oB 27 #[.int .u64 cl, .int .u64 s1, .int .u64 s2, .int .u64 s3, .int .u64 s4, .int .u64 s5, .int .u64 s6] (0, 0) _ rfl (oB.setRow _) Try.underlying27 rfl (by kernel_rfl)) rfl ?_
  exact ⟨rfl, below_setRow' hL (by omega)⟩
set_option maxHeartbeats 4000000 in
theorem lost_any (c : C) (w : World) :
    Calls Try.prog 29 #[.agg #[.int .i64 c.bits, .int .u64 c.one, .int .i64 c.ring, .int .u64 c.limit, .int .i64 c.room, .int .u64 c.mss, .int .u64 c.initial, .int .u64 c.least, .int .u64 c.most, .int .i64 c.algo, .int .u64 c.first, .int .u64 c.grain, .int .u64 c.cap, .int .u64 c.burst, .int .u64 c.slowest, .int .i64 c.chal, .int .u64 c.every]] w fun e w' => e = .returned (.agg #[.int .u64 (shL c).1, .int .u64 (shL c).2]) ∧ Below w.heap.size w w' := by
  by_cases h1 : c.algo = 2
  · rw [show shL c = (7, 10) by unfold shL; rw [if_pos h1]]
    have h1' : (c.algo == 2) = true := by simpa using h1
    clear h1
    simp only
    go_enter Try.func29, Try.ntmps29
    go_upto_region 1 with fail
    refine at_any ?_
    intro W hW
    obtain ⟨cB, oB, hL⟩ : Blk W w.heap.size #[.int .i64 c.bits, .int .u64 c.one, .int .i64 c.ring, .int .u64 c.limit, .int .i64 c.room, .int .u64 c.mss, .int .u64 c.initial, .int .u64 c.least, .int .u64 c.most, .int .i64 c.algo, .int .u64 c.first, .int .u64 c.grain, .int .u64 c.cap, .int .u64 c.burst, .int .u64 c.slowest, .int .i64 c.chal, .int .u64 c.every] 24 ∧ Blk W (w.heap.size + 1) #[.int .u64 0, .int .u64 0] 58 ∧ Below w.heap.size w W := by
      have h0 := Blk.new (w) #[.int .i64 c.bits, .int .u64 c.one, .int .i64 c.ring, .int .u64 c.limit, .int .i64 c.room, .int .u64 c.mss, .int .u64 c.initial, .int .u64 c.least, .int .u64 c.most, .int .i64 c.algo, .int .u64 c.first, .int .u64 c.grain, .int .u64 c.cap, .int .u64 c.burst, .int .u64 c.slowest, .int .i64 c.chal, .int .u64 c.every] 24
      have h1 := Blk.new (World.alloc (w) (.cells #[.int .i64 c.bits, .int .u64 c.one, .int .i64 c.ring, .int .u64 c.limit, .int .i64 c.room, .int .u64 c.mss, .int .u64 c.initial, .int .u64 c.least, .int .u64 c.most, .int .i64 c.algo, .int .u64 c.first, .int .u64 c.grain, .int .u64 c.cap, .int .u64 c.burst, .int .u64 c.slowest, .int .i64 c.chal, .int .u64 c.every] 24)) #[.int .u64 0, .int .u64 0] 58
      simp only [World.size_alloc] at h1
      subst hW
      exact ⟨(h0.alloc _), h1, (((Below.refl _ _).alloc (Nat.le_refl _) _).alloc (by simp only [World.size_alloc]; omega) _)⟩
    clear hW
    generalize hb_oB : w.heap.size + 1 = b_oB at *
    have lt_cB := cB.lt
    have cB_9 : _ = some (Value.int .i64 c.algo) := cB.cell 9
    have lt_oB := oB.lt
    go_upto_region 2 with fail
    go_wp2_with (refine wpl_store_row rfl 58 (.tmp 2) (.tmp 6) rfl oB #[.int .u64 7, .int .u64 10] rfl rfl (by kernel_rfl) rfl (by simp [Value.oneCell']) ?_)
    refine bodyPost_ret (results_cell_row rfl _ _ b_oB 58 #[.int .u64 7, .int .u64 10] (0, 0) _ rfl (oB.setRow _) Try.underlying58 rfl (by kernel_rfl)) rfl ?_
    exact ⟨rfl, below_setRow' hL (by omega)⟩
  · rw [show shL c = (1, 2) by unfold shL; rw [if_neg h1]]
    have h1' : (c.algo == 2) = false := by simpa using h1
    clear h1
    simp only
    go_enter Try.func29, Try.ntmps29
    go_upto_region 1 with fail
    refine at_any ?_
    intro W hW
    obtain ⟨cB, oB, hL⟩ : Blk W w.heap.size #[.int .i64 c.bits, .int .u64 c.one, .int .i64 c.ring, .int .u64 c.limit, .int .i64 c.room, .int .u64 c.mss, .int .u64 c.initial, .int .u64 c.least, .int .u64 c.most, .int .i64 c.algo, .int .u64 c.first, .int .u64 c.grain, .int .u64 c.cap, .int .u64 c.burst, .int .u64 c.slowest, .int .i64 c.chal, .int .u64 c.every] 24 ∧ Blk W (w.heap.size + 1) #[.int .u64 0, .int .u64 0] 58 ∧ Below w.heap.size w W := by
      have h0 := Blk.new (w) #[.int .i64 c.bits, .int .u64 c.one, .int .i64 c.ring, .int .u64 c.limit, .int .i64 c.room, .int .u64 c.mss, .int .u64 c.initial, .int .u64 c.least, .int .u64 c.most, .int .i64 c.algo, .int .u64 c.first, .int .u64 c.grain, .int .u64 c.cap, .int .u64 c.burst, .int .u64 c.slowest, .int .i64 c.chal, .int .u64 c.every] 24
      have h1 := Blk.new (World.alloc (w) (.cells #[.int .i64 c.bits, .int .u64 c.one, .int .i64 c.ring, .int .u64 c.limit, .int .i64 c.room, .int .u64 c.mss, .int .u64 c.initial, .int .u64 c.least, .int .u64 c.most, .int .i64 c.algo, .int .u64 c.first, .int .u64 c.grain, .int .u64 c.cap, .int .u64 c.burst, .int .u64 c.slowest, .int .i64 c.chal, .int .u64 c.every] 24)) #[.int .u64 0, .int .u64 0] 58
      simp only [World.size_alloc] at h1
      subst hW
      exact ⟨(h0.alloc _), h1, (((Below.refl _ _).alloc (Nat.le_refl _) _).alloc (by simp only [World.size_alloc]; omega) _)⟩
    clear hW
    generalize hb_oB : w.heap.size + 1 = b_oB at *
    have lt_cB := cB.lt
    have cB_9 : _ = some (Value.int .i64 c.algo) := cB.cell 9
    have lt_oB := oB.lt
    go_upto_region 3 with fail
    go_wp2_with (refine wpl_store_row rfl 58 (.tmp 2) (.tmp 7) rfl oB #[.int .u64 1, .int .u64 2] rfl rfl (by kernel_rfl) rfl (by simp [Value.oneCell']) ?_)
    refine bodyPost_ret (results_cell_row rfl _ _ b_oB 58 #[.int .u64 1, .int .u64 2] (0, 0) _ rfl (oB.setRow _) Try.underlying58 rfl (by kernel_rfl)) rfl ?_
    exact ⟨rfl, below_setRow' hL (by omega)⟩
set_option maxHeartbeats 4000000 in
theorem marked_any (c : C) (w : World) :
    Calls Try.prog 32 #[.agg #[.int .i64 c.bits, .int .u64 c.one, .int .i64 c.ring, .int .u64 c.limit, .int .i64 c.room, .int .u64 c.mss, .int .u64 c.initial, .int .u64 c.least, .int .u64 c.most, .int .i64 c.algo, .int .u64 c.first, .int .u64 c.grain, .int .u64 c.cap, .int .u64 c.burst, .int .u64 c.slowest, .int .i64 c.chal, .int .u64 c.every]] w fun e w' => e = .returned (.agg #[.int .u64 (shM c).1, .int .u64 (shM c).2]) ∧ Below w.heap.size w w' := by
  by_cases h1 : c.algo = 2
  · rw [show shM c = (17, 20) by unfold shM; rw [if_pos h1]]
    have h1' : (c.algo == 2) = true := by simpa using h1
    clear h1
    simp only
    go_enter Try.func32, Try.ntmps32
    go_upto_region 1 with fail
    refine at_any ?_
    intro W hW
    obtain ⟨cB, oB, hL⟩ : Blk W w.heap.size #[.int .i64 c.bits, .int .u64 c.one, .int .i64 c.ring, .int .u64 c.limit, .int .i64 c.room, .int .u64 c.mss, .int .u64 c.initial, .int .u64 c.least, .int .u64 c.most, .int .i64 c.algo, .int .u64 c.first, .int .u64 c.grain, .int .u64 c.cap, .int .u64 c.burst, .int .u64 c.slowest, .int .i64 c.chal, .int .u64 c.every] 24 ∧ Blk W (w.heap.size + 1) #[.int .u64 0, .int .u64 0] 58 ∧ Below w.heap.size w W := by
      have h0 := Blk.new (w) #[.int .i64 c.bits, .int .u64 c.one, .int .i64 c.ring, .int .u64 c.limit, .int .i64 c.room, .int .u64 c.mss, .int .u64 c.initial, .int .u64 c.least, .int .u64 c.most, .int .i64 c.algo, .int .u64 c.first, .int .u64 c.grain, .int .u64 c.cap, .int .u64 c.burst, .int .u64 c.slowest, .int .i64 c.chal, .int .u64 c.every] 24
      have h1 := Blk.new (World.alloc (w) (.cells #[.int .i64 c.bits, .int .u64 c.one, .int .i64 c.ring, .int .u64 c.limit, .int .i64 c.room, .int .u64 c.mss, .int .u64 c.initial, .int .u64 c.least, .int .u64 c.most, .int .i64 c.algo, .int .u64 c.first, .int .u64 c.grain, .int .u64 c.cap, .int .u64 c.burst, .int .u64 c.slowest, .int .i64 c.chal, .int .u64 c.every] 24)) #[.int .u64 0, .int .u64 0] 58
      simp only [World.size_alloc] at h1
      subst hW
      exact ⟨(h0.alloc _), h1, (((Below.refl _ _).alloc (Nat.le_refl _) _).alloc (by simp only [World.size_alloc]; omega) _)⟩
    clear hW
    generalize hb_oB : w.heap.size + 1 = b_oB at *
    have lt_cB := cB.lt
    have cB_9 : _ = some (Value.int .i64 c.algo) := cB.cell 9
    have lt_oB := oB.lt
    go_upto_region 2 with fail
    go_wp2_with (refine wpl_store_row rfl 58 (.tmp 2) (.tmp 6) rfl oB #[.int .u64 17, .int .u64 20] rfl rfl (by kernel_rfl) rfl (by simp [Value.oneCell']) ?_)
    refine bodyPost_ret (results_cell_row rfl _ _ b_oB 58 #[.int .u64 17, .int .u64 20] (0, 0) _ rfl (oB.setRow _) Try.underlying58 rfl (by kernel_rfl)) rfl ?_
    exact ⟨rfl, below_setRow' hL (by omega)⟩
  · rw [show shM c = (4, 5) by unfold shM; rw [if_neg h1]]
    have h1' : (c.algo == 2) = false := by simpa using h1
    clear h1
    simp only
    go_enter Try.func32, Try.ntmps32
    go_upto_region 1 with fail
    refine at_any ?_
    intro W hW
    obtain ⟨cB, oB, hL⟩ : Blk W w.heap.size #[.int .i64 c.bits, .int .u64 c.one, .int .i64 c.ring, .int .u64 c.limit, .int .i64 c.room, .int .u64 c.mss, .int .u64 c.initial, .int .u64 c.least, .int .u64 c.most, .int .i64 c.algo, .int .u64 c.first, .int .u64 c.grain, .int .u64 c.cap, .int .u64 c.burst, .int .u64 c.slowest, .int .i64 c.chal, .int .u64 c.every] 24 ∧ Blk W (w.heap.size + 1) #[.int .u64 0, .int .u64 0] 58 ∧ Below w.heap.size w W := by
      have h0 := Blk.new (w) #[.int .i64 c.bits, .int .u64 c.one, .int .i64 c.ring, .int .u64 c.limit, .int .i64 c.room, .int .u64 c.mss, .int .u64 c.initial, .int .u64 c.least, .int .u64 c.most, .int .i64 c.algo, .int .u64 c.first, .int .u64 c.grain, .int .u64 c.cap, .int .u64 c.burst, .int .u64 c.slowest, .int .i64 c.chal, .int .u64 c.every] 24
      have h1 := Blk.new (World.alloc (w) (.cells #[.int .i64 c.bits, .int .u64 c.one, .int .i64 c.ring, .int .u64 c.limit, .int .i64 c.room, .int .u64 c.mss, .int .u64 c.initial, .int .u64 c.least, .int .u64 c.most, .int .i64 c.algo, .int .u64 c.first, .int .u64 c.grain, .int .u64 c.cap, .int .u64 c.burst, .int .u64 c.slowest, .int .i64 c.chal, .int .u64 c.every] 24)) #[.int .u64 0, .int .u64 0] 58
      simp only [World.size_alloc] at h1
      subst hW
      exact ⟨(h0.alloc _), h1, (((Below.refl _ _).alloc (Nat.le_refl _) _).alloc (by simp only [World.size_alloc]; omega) _)⟩
    clear hW
    generalize hb_oB : w.heap.size + 1 = b_oB at *
    have lt_cB := cB.lt
    have cB_9 : _ = some (Value.int .i64 c.algo) := cB.cell 9
    have lt_oB := oB.lt
    go_upto_region 3 with fail
    go_wp2_with (refine wpl_store_row rfl 58 (.tmp 2) (.tmp 7) rfl oB #[.int .u64 4, .int .u64 5] rfl rfl (by kernel_rfl) rfl (by simp [Value.oneCell']) ?_)
    refine bodyPost_ret (results_cell_row rfl _ _ b_oB 58 #[.int .u64 4, .int .u64 5] (0, 0) _ rfl (oB.setRow _) Try.underlying58 rfl (by kernel_rfl)) rfl ?_
    exact ⟨rfl, below_setRow' hL (by omega)⟩
set_option maxHeartbeats 4000000 in
theorem cutk_any (c : C) (s : Wn) (hs : WFit s) (num den : Int) (hr : U num) (hq : U den) (w : World) :
    Calls Try.prog 33 #[.agg #[.int .i64 c.bits, .int .u64 c.one, .int .i64 c.ring, .int .u64 c.limit, .int .i64 c.room, .int .u64 c.mss, .int .u64 c.initial, .int .u64 c.least, .int .u64 c.most, .int .i64 c.algo, .int .u64 c.first, .int .u64 c.grain, .int .u64 c.cap, .int .u64 c.burst, .int .u64 c.slowest, .int .i64 c.chal, .int .u64 c.every], .agg (wc s), .agg #[.int .u64 num, .int .u64 den]] w (WinPost w (cutG c s num den)) := by
  have CL0 := fun v V => clampw_any c v V
  unfold cutG
  by_cases h1 : c.algo = 2
  · rw [show cutX c s num den = cutC s num den by unfold cutX; rw [if_pos h1]]
    have CV := fun V => Go.Proofs.Ytnnpklnhdfpnjaa.Cubic.cut_any s hs num den hr hq V
    have h1' : (c.algo == 2) = true := by simpa using h1
    clear h1
    generalize cutC s num den = v at *
    have CL := fun V => CL0 v V
    clear CL0
    obtain ⟨s0, s1, s2, s3, s4, s5, s6⟩ := s
    obtain ⟨q0, q1, q2, q3, q4, q5, q6⟩ := v
    unfold WinPost wc at *
    unfold clampW at CL
    simp only at CV CL ⊢
    generalize Sat.clamp q0 c.least c.most = cl at *
    generalize hmx : max q1 c.least = mx at *
    have HM := Lib.hid hmx
    clear hmx
    go_enter Try.func33, Try.ntmps33
    go_upto_region 1 with fail
    refine at_any ?_
    intro W hW
    obtain ⟨cB, wB, fB, oB, hL⟩ : Blk W w.heap.size #[.int .i64 c.bits, .int .u64 c.one, .int .i64 c.ring, .int .u64 c.limit, .int .i64 c.room, .int .u64 c.mss, .int .u64 c.initial, .int .u64 c.least, .int .u64 c.most, .int .i64 c.algo, .int .u64 c.first, .int .u64 c.grain, .int .u64 c.cap, .int .u64 c.burst, .int .u64 c.slowest, .int .i64 c.chal, .int .u64 c.every] 24 ∧ Blk W (w.heap.size + 1) #[.int .u64 s0, .int .u64 s1, .int .u64 s2, .int .u64 s3, .int .u64 s4, .int .u64 s5, .int .u64 s6] 27 ∧ Blk W (w.heap.size + 1 + 1) #[.int .u64 num, .int .u64 den] 58 ∧ Blk W (w.heap.size + 1 + 1 + 1) #[.int .u64 0, .int .u64 0, .int .u64 0, .int .u64 0, .int .u64 0, .int .u64 0, .int .u64 0] 27 ∧ Below w.heap.size w W := by
      have h0 := Blk.new (w) #[.int .i64 c.bits, .int .u64 c.one, .int .i64 c.ring, .int .u64 c.limit, .int .i64 c.room, .int .u64 c.mss, .int .u64 c.initial, .int .u64 c.least, .int .u64 c.most, .int .i64 c.algo, .int .u64 c.first, .int .u64 c.grain, .int .u64 c.cap, .int .u64 c.burst, .int .u64 c.slowest, .int .i64 c.chal, .int .u64 c.every] 24
      have h1 := Blk.new (World.alloc (w) (.cells #[.int .i64 c.bits, .int .u64 c.one, .int .i64 c.ring, .int .u64 c.limit, .int .i64 c.room, .int .u64 c.mss, .int .u64 c.initial, .int .u64 c.least, .int .u64 c.most, .int .i64 c.algo, .int .u64 c.first, .int .u64 c.grain, .int .u64 c.cap, .int .u64 c.burst, .int .u64 c.slowest, .int .i64 c.chal, .int .u64 c.every] 24)) #[.int .u64 s0, .int .u64 s1, .int .u64 s2, .int .u64 s3, .int .u64 s4, .int .u64 s5, .int .u64 s6] 27
      have h2 := Blk.new (World.alloc (World.alloc (w) (.cells #[.int .i64 c.bits, .int .u64 c.one, .int .i64 c.ring, .int .u64 c.limit, .int .i64 c.room, .int .u64 c.mss, .int .u64 c.initial, .int .u64 c.least, .int .u64 c.most, .int .i64 c.algo, .int .u64 c.first, .int .u64 c.grain, .int .u64 c.cap, .int .u64 c.burst, .int .u64 c.slowest, .int .i64 c.chal, .int .u64 c.every] 24)) (.cells #[.int .u64 s0, .int .u64 s1, .int .u64 s2, .int .u64 s3, .int .u64 s4, .int .u64 s5, .int .u64 s6] 27)) #[.int .u64 num, .int .u64 den] 58
      have h3 := Blk.new (World.alloc (World.alloc (World.alloc (w) (.cells #[.int .i64 c.bits, .int .u64 c.one, .int .i64 c.ring, .int .u64 c.limit, .int .i64 c.room, .int .u64 c.mss, .int .u64 c.initial, .int .u64 c.least, .int .u64 c.most, .int .i64 c.algo, .int .u64 c.first, .int .u64 c.grain, .int .u64 c.cap, .int .u64 c.burst, .int .u64 c.slowest, .int .i64 c.chal, .int .u64 c.every] 24)) (.cells #[.int .u64 s0, .int .u64 s1, .int .u64 s2, .int .u64 s3, .int .u64 s4, .int .u64 s5, .int .u64 s6] 27)) (.cells #[.int .u64 num, .int .u64 den] 58)) #[.int .u64 0, .int .u64 0, .int .u64 0, .int .u64 0, .int .u64 0, .int .u64 0, .int .u64 0] 27
      simp only [World.size_alloc] at h1 h2 h3
      subst hW
      exact ⟨(((h0.alloc _).alloc _).alloc _), ((h1.alloc _).alloc _), (h2.alloc _), h3, (((((Below.refl _ _).alloc (Nat.le_refl _) _).alloc (by simp only [World.size_alloc]; omega) _).alloc (by simp only [World.size_alloc]; omega) _).alloc (by simp only [World.size_alloc]; omega) _)⟩
    clear hW
    generalize hb_oB : w.heap.size + 1 + 1 + 1 = b_oB at *
    generalize hb_fB : w.heap.size + 1 + 1 = b_fB at *
    generalize hb_wB : w.heap.size + 1 = b_wB at *
    have lt_cB := cB.lt
    have cB_9 : _ = some (Value.int .i64 c.algo) := cB.cell 9
    have lt_wB := wB.lt
    have wB_0 : _ = some (Value.int .u64 s0) := wB.cell 0
    have wB_1 : _ = some (Value.int .u64 s1) := wB.cell 1
    have wB_2 : _ = some (Value.int .u64 s2) := wB.cell 2
    have wB_3 : _ = some (Value.int .u64 s3) := wB.cell 3
    have wB_4 : _ = some (Value.int .u64 s4) := wB.cell 4
    have wB_5 : _ = some (Value.int .u64 s5) := wB.cell 5
    have wB_6 : _ = some (Value.int .u64 s6) := wB.cell 6
    have lt_fB := fB.lt
    have fB_0 : _ = some (Value.int .u64 num) := fB.cell 0
    have fB_1 : _ = some (Value.int .u64 den) := fB.cell 1
    have lt_oB := oB.lt
    go_upto_region 4 with (first
      | (go_at_call 53; refine (CV _).mono ?_; rintro x' y ⟨rfl, L1⟩; replace cB := cB.below L1 lt_cB; replace wB := wB.below L1 lt_wB; replace fB := fB.below L1 lt_fB; replace oB := oB.below L1 lt_oB; replace hL := Base.next hL L1; replace lt_cB := cB.lt; replace lt_wB := wB.lt; replace lt_fB := fB.lt; replace lt_oB := oB.lt)
      | (refine wpl_store_row rfl 27 (.tmp 4) (.tmp 15) rfl wB #[.int .u64 q0, .int .u64 q1, .int .u64 q2, .int .u64 q3, .int .u64 q4, .int .u64 q5, .int .u64 q6] rfl rfl (by kernel_rfl) rfl (by simp [Value.oneCell']) ?_))
    refine at_any ?_
    intro X hX
    obtain ⟨cB', wB', fB', oB', hL'⟩ : Blk X w.heap.size #[.int .i64 c.bits, .int .u64 c.one, .int .i64 c.ring, .int .u64 c.limit, .int .i64 c.room, .int .u64 c.mss, .int .u64 c.initial, .int .u64 c.least, .int .u64 c.most, .int .i64 c.algo, .int .u64 c.first, .int .u64 c.grain, .int .u64 c.cap, .int .u64 c.burst, .int .u64 c.slowest, .int .i64 c.chal, .int .u64 c.every] 24 ∧ Blk X b_wB #[.int .u64 q0, .int .u64 q1, .int .u64 q2, .int .u64 q3, .int .u64 q4, .int .u64 q5, .int .u64 q6] 27 ∧ Blk X b_fB #[.int .u64 num, .int .u64 den] 58 ∧ Blk X b_oB #[.int .u64 0, .int .u64 0, .int .u64 0, .int .u64 0, .int .u64 0, .int .u64 0, .int .u64 0] 27 ∧ Below w.heap.size w X := by
      subst hX
      exact ⟨cB.otherRow (show w.heap.size ≠ b_wB by omega) _, wB.setRow _, fB.otherRow (show b_fB ≠ b_wB by omega) _, oB.otherRow (show b_oB ≠ b_wB by omega) _, below_setRow' hL (show w.heap.size ≤ b_wB by omega)⟩
    clear hX cB wB fB oB hL
    clear lt_cB cB_9 lt_wB wB_0 wB_1 wB_2 wB_3 wB_4 wB_5 wB_6 lt_fB fB_0 fB_1 lt_oB
    have cB := cB'
    have wB := wB'
    have fB := fB'
    have oB := oB'
    have hL := hL'
    clear cB' wB' fB' oB' hL'
    have lt_cB := cB.lt
    have lt_wB := wB.lt
    have wB_0 : _ = some (Value.int .u64 q0) := wB.cell 0
    have wB_1 : _ = some (Value.int .u64 q1) := wB.cell 1
    have wB_2 : _ = some (Value.int .u64 q2) := wB.cell 2
    have wB_3 : _ = some (Value.int .u64 q3) := wB.cell 3
    have wB_4 : _ = some (Value.int .u64 q4) := wB.cell 4
    have wB_5 : _ = some (Value.int .u64 q5) := wB.cell 5
    have wB_6 : _ = some (Value.int .u64 q6) := wB.cell 6
    have lt_fB := fB.lt
    have lt_oB := oB.lt
    go_upto_region 5 with (first
      | (refine wpl_load_row (by rfl) 24 (.tmp 3) rfl w.heap.size rfl 24 #[.int .i64 c.bits, .int .u64 c.one, .int .i64 c.ring, .int .u64 c.limit, .int .i64 c.room, .int .u64 c.mss, .int .u64 c.initial, .int .u64 c.least, .int .u64 c.most, .int .i64 c.algo, .int .u64 c.first, .int .u64 c.grain, .int .u64 c.cap, .int .u64 c.burst, .int .u64 c.slowest, .int .i64 c.chal, .int .u64 c.every] (0, 0) _ cB Try.underlying24 rfl (by kernel_rfl) ?_)
      | (go_at_call 23; refine (CL _).mono ?_; rintro x' y ⟨rfl, L1⟩; replace cB := cB.below L1 lt_cB; replace wB := wB.below L1 lt_wB; replace fB := fB.below L1 lt_fB; replace oB := oB.below L1 lt_oB; replace hL := Base.next hL L1; replace lt_cB := cB.lt; replace lt_wB := wB.lt; replace lt_fB := fB.lt; replace lt_oB := oB.lt)
      | (refine wpl_store_row rfl 27 (.tmp 4) (.tmp 24) rfl wB #[.int .u64 cl, .int .u64 q1, .int .u64 q2, .int .u64 q3, .int .u64 q4, .int .u64 q5, .int .u64 q6] rfl rfl (by kernel_rfl) rfl (by simp [Value.oneCell']) ?_))
    refine at_any ?_
    intro X hX
    obtain ⟨cB', wB', fB', oB', hL'⟩ : Blk X w.heap.size #[.int .i64 c.bits, .int .u64 c.one, .int .i64 c.ring, .int .u64 c.limit, .int .i64 c.room, .int .u64 c.mss, .int .u64 c.initial, .int .u64 c.least, .int .u64 c.most, .int .i64 c.algo, .int .u64 c.first, .int .u64 c.grain, .int .u64 c.cap, .int .u64 c.burst, .int .u64 c.slowest, .int .i64 c.chal, .int .u64 c.every] 24 ∧ Blk X b_wB #[.int .u64 cl, .int .u64 q1, .int .u64 q2, .int .u64 q3, .int .u64 q4, .int .u64 q5, .int .u64 q6] 27 ∧ Blk X b_fB #[.int .u64 num, .int .u64 den] 58 ∧ Blk X b_oB #[.int .u64 0, .int .u64 0, .int .u64 0, .int .u64 0, .int .u64 0, .int .u64 0, .int .u64 0] 27 ∧ Below w.heap.size w X := by
      subst hX
      exact ⟨cB.otherRow (show w.heap.size ≠ b_wB by omega) _, wB.setRow _, fB.otherRow (show b_fB ≠ b_wB by omega) _, oB.otherRow (show b_oB ≠ b_wB by omega) _, below_setRow' hL (show w.heap.size ≤ b_wB by omega)⟩
    clear hX cB wB fB oB hL
    clear lt_cB lt_wB wB_0 wB_1 wB_2 wB_3 wB_4 wB_5 wB_6 lt_fB lt_oB
    have cB := cB'
    have wB := wB'
    have fB := fB'
    have oB := oB'
    have hL := hL'
    clear cB' wB' fB' oB' hL'
    have lt_cB := cB.lt
    have cB_7 : _ = some (Value.int .u64 c.least) := cB.cell 7
    have lt_wB := wB.lt
    have wB_1 : _ = some (Value.int .u64 q1) := wB.cell 1
    have wB_z1 := wB.free 1
    have lt_fB := fB.lt
    have lt_oB := oB.lt
    go_upto_region 6 with (refine wpl_value (v := .int .u64 mx) rfl (by rw [← HM.out]; exact mx_u64 (.tmp 26) (.tmp 28) _ (n := q1) (m := c.least) rfl rfl rfl) ?_)
    refine at_any ?_
    intro X hX
    obtain ⟨cB', wB', fB', oB', hL'⟩ : Blk X w.heap.size #[.int .i64 c.bits, .int .u64 c.one, .int .i64 c.ring, .int .u64 c.limit, .int .i64 c.room, .int .u64 c.mss, .int .u64 c.initial, .int .u64 c.least, .int .u64 c.most, .int .i64 c.algo, .int .u64 c.first, .int .u64 c.grain, .int .u64 c.cap, .int .u64 c.burst, .int .u64 c.slowest, .int .i64 c.chal, .int .u64 c.every] 24 ∧ Blk X b_wB #[.int .u64 cl, .int .u64 mx, .int .u64 q2, .int .u64 q3, .int .u64 q4, .int .u64 q5, .int .u64 q6] 27 ∧ Blk X b_fB #[.int .u64 num, .int .u64 den] 58 ∧ Blk X b_oB #[.int .u64 0, .int .u64 0, .int .u64 0, .int .u64 0, .int .u64 0, .int .u64 0, .int .u64 0] 27 ∧ Below w.heap.size w X := by
      subst hX
      exact ⟨cB.other (show w.heap.size ≠ b_wB by omega) _, wB.set 1 (.int .u64 mx), fB.other (show b_fB ≠ b_wB by omega) _, oB.other (show b_oB ≠ b_wB by omega) _, hL.setCell (show w.heap.size ≤ b_wB by omega) _⟩
    clear hX cB wB fB oB hL
    clear lt_cB cB_7 lt_wB wB_1 wB_z1 lt_fB lt_oB
    have cB := cB'
    have wB := wB'
    have fB := fB'
    have oB := oB'
    have hL := hL'
    clear cB' wB' fB' oB' hL'
    have lt_cB := cB.lt
    have lt_wB := wB.lt
    have wB_0 : _ = some (Value.int .u64 cl) := wB.cell 0
    have wB_1 : _ = some (Value.int .u64 mx) := wB.cell 1
    have wB_2 : _ = some (Value.int .u64 q2) := wB.cell 2
    have wB_3 : _ = some (Value.int .u64 q3) := wB.cell 3
    have wB_4 : _ = some (Value.int .u64 q4) := wB.cell 4
    have wB_5 : _ = some (Value.int .u64 q5) := wB.cell 5
    have wB_6 : _ = some (Value.int .u64 q6) := wB.cell 6
    have lt_fB := fB.lt
    have lt_oB := oB.lt
    go_wp2_with (refine wpl_store_row rfl 27 (.tmp 6) (.tmp 31) rfl oB #[.int .u64 cl, .int .u64 mx, .int .u64 q2, .int .u64 q3, .int .u64 q4, .int .u64 q5, .int .u64 q6] rfl rfl (by kernel_rfl) rfl (by simp [Value.oneCell']) ?_)
    refine bodyPost_ret (results_cell_row rfl _ _ b_oB 27 #[.int .u64 cl, .int .u64 mx, .int .u64 q2, .int .u64 q3, .int .u64 q4, .int .u64 q5, .int .u64 q6] (0, 0) _ rfl (oB.setRow _) Try.underlying27 rfl (by kernel_rfl)) rfl ?_
    exact ⟨rfl, below_setRow' hL (by omega)⟩
  · rw [show cutX c s num den = cutR s num den by unfold cutX; rw [if_neg h1]]
    have CV := fun V => Go.Proofs.Ytnnpklnhdfpnjaa.Reno.cut_any s hs num den hr hq V
    have h1' : (c.algo == 2) = false := by simpa using h1
    clear h1
    generalize cutR s num den = v at *
    have CL := fun V => CL0 v V
    clear CL0
    obtain ⟨s0, s1, s2, s3, s4, s5, s6⟩ := s
    obtain ⟨q0, q1, q2, q3, q4, q5, q6⟩ := v
    unfold WinPost wc at *
    unfold clampW at CL
    simp only at CV CL ⊢
    generalize Sat.clamp q0 c.least c.most = cl at *
    generalize hmx : max q1 c.least = mx at *
    have HM := Lib.hid hmx
    clear hmx
    go_enter Try.func33, Try.ntmps33
    go_upto_region 1 with fail
    refine at_any ?_
    intro W hW
    obtain ⟨cB, wB, fB, oB, hL⟩ : Blk W w.heap.size #[.int .i64 c.bits, .int .u64 c.one, .int .i64 c.ring, .int .u64 c.limit, .int .i64 c.room, .int .u64 c.mss, .int .u64 c.initial, .int .u64 c.least, .int .u64 c.most, .int .i64 c.algo, .int .u64 c.first, .int .u64 c.grain, .int .u64 c.cap, .int .u64 c.burst, .int .u64 c.slowest, .int .i64 c.chal, .int .u64 c.every] 24 ∧ Blk W (w.heap.size + 1) #[.int .u64 s0, .int .u64 s1, .int .u64 s2, .int .u64 s3, .int .u64 s4, .int .u64 s5, .int .u64 s6] 27 ∧ Blk W (w.heap.size + 1 + 1) #[.int .u64 num, .int .u64 den] 58 ∧ Blk W (w.heap.size + 1 + 1 + 1) #[.int .u64 0, .int .u64 0, .int .u64 0, .int .u64 0, .int .u64 0, .int .u64 0, .int .u64 0] 27 ∧ Below w.heap.size w W := by
      have h0 := Blk.new (w) #[.int .i64 c.bits, .int .u64 c.one, .int .i64 c.ring, .int .u64 c.limit, .int .i64 c.room, .int .u64 c.mss, .int .u64 c.initial, .int .u64 c.least, .int .u64 c.most, .int .i64 c.algo, .int .u64 c.first, .int .u64 c.grain, .int .u64 c.cap, .int .u64 c.burst, .int .u64 c.slowest, .int .i64 c.chal, .int .u64 c.every] 24
      have h1 := Blk.new (World.alloc (w) (.cells #[.int .i64 c.bits, .int .u64 c.one, .int .i64 c.ring, .int .u64 c.limit, .int .i64 c.room, .int .u64 c.mss, .int .u64 c.initial, .int .u64 c.least, .int .u64 c.most, .int .i64 c.algo, .int .u64 c.first, .int .u64 c.grain, .int .u64 c.cap, .int .u64 c.burst, .int .u64 c.slowest, .int .i64 c.chal, .int .u64 c.every] 24)) #[.int .u64 s0, .int .u64 s1, .int .u64 s2, .int .u64 s3, .int .u64 s4, .int .u64 s5, .int .u64 s6] 27
      have h2 := Blk.new (World.alloc (World.alloc (w) (.cells #[.int .i64 c.bits, .int .u64 c.one, .int .i64 c.ring, .int .u64 c.limit, .int .i64 c.room, .int .u64 c.mss, .int .u64 c.initial, .int .u64 c.least, .int .u64 c.most, .int .i64 c.algo, .int .u64 c.first, .int .u64 c.grain, .int .u64 c.cap, .int .u64 c.burst, .int .u64 c.slowest, .int .i64 c.chal, .int .u64 c.every] 24)) (.cells #[.int .u64 s0, .int .u64 s1, .int .u64 s2, .int .u64 s3, .int .u64 s4, .int .u64 s5, .int .u64 s6] 27)) #[.int .u64 num, .int .u64 den] 58
      have h3 := Blk.new (World.alloc (World.alloc (World.alloc (w) (.cells #[.int .i64 c.bits, .int .u64 c.one, .int .i64 c.ring, .int .u64 c.limit, .int .i64 c.room, .int .u64 c.mss, .int .u64 c.initial, .int .u64 c.least, .int .u64 c.most, .int .i64 c.algo, .int .u64 c.first, .int .u64 c.grain, .int .u64 c.cap, .int .u64 c.burst, .int .u64 c.slowest, .int .i64 c.chal, .int .u64 c.every] 24)) (.cells #[.int .u64 s0, .int .u64 s1, .int .u64 s2, .int .u64 s3, .int .u64 s4, .int .u64 s5, .int .u64 s6] 27)) (.cells #[.int .u64 num, .int .u64 den] 58)) #[.int .u64 0, .int .u64 0, .int .u64 0, .int .u64 0, .int .u64 0, .int .u64 0, .int .u64 0] 27
      simp only [World.size_alloc] at h1 h2 h3
      subst hW
      exact ⟨(((h0.alloc _).alloc _).alloc _), ((h1.alloc _).alloc _), (h2.alloc _), h3, (((((Below.refl _ _).alloc (Nat.le_refl _) _).alloc (by simp only [World.size_alloc]; omega) _).alloc (by simp only [World.size_alloc]; omega) _).alloc (by simp only [World.size_alloc]; omega) _)⟩
    clear hW
    generalize hb_oB : w.heap.size + 1 + 1 + 1 = b_oB at *
    generalize hb_fB : w.heap.size + 1 + 1 = b_fB at *
    generalize hb_wB : w.heap.size + 1 = b_wB at *
    have lt_cB := cB.lt
    have cB_9 : _ = some (Value.int .i64 c.algo) := cB.cell 9
    have lt_wB := wB.lt
    have wB_0 : _ = some (Value.int .u64 s0) := wB.cell 0
    have wB_1 : _ = some (Value.int .u64 s1) := wB.cell 1
    have wB_2 : _ = some (Value.int .u64 s2) := wB.cell 2
    have wB_3 : _ = some (Value.int .u64 s3) := wB.cell 3
    have wB_4 : _ = some (Value.int .u64 s4) := wB.cell 4
    have wB_5 : _ = some (Value.int .u64 s5) := wB.cell 5
    have wB_6 : _ = some (Value.int .u64 s6) := wB.cell 6
    have lt_fB := fB.lt
    have fB_0 : _ = some (Value.int .u64 num) := fB.cell 0
    have fB_1 : _ = some (Value.int .u64 den) := fB.cell 1
    have lt_oB := oB.lt
    go_upto_region 4 with (first
      | (go_at_call 54; refine (CV _).mono ?_; rintro x' y ⟨rfl, L1⟩; replace cB := cB.below L1 lt_cB; replace wB := wB.below L1 lt_wB; replace fB := fB.below L1 lt_fB; replace oB := oB.below L1 lt_oB; replace hL := Base.next hL L1; replace lt_cB := cB.lt; replace lt_wB := wB.lt; replace lt_fB := fB.lt; replace lt_oB := oB.lt)
      | (refine wpl_store_row rfl 27 (.tmp 4) (.tmp 21) rfl wB #[.int .u64 q0, .int .u64 q1, .int .u64 q2, .int .u64 q3, .int .u64 q4, .int .u64 q5, .int .u64 q6] rfl rfl (by kernel_rfl) rfl (by simp [Value.oneCell']) ?_))
    refine at_any ?_
    intro X hX
    obtain ⟨cB', wB', fB', oB', hL'⟩ : Blk X w.heap.size #[.int .i64 c.bits, .int .u64 c.one, .int .i64 c.ring, .int .u64 c.limit, .int .i64 c.room, .int .u64 c.mss, .int .u64 c.initial, .int .u64 c.least, .int .u64 c.most, .int .i64 c.algo, .int .u64 c.first, .int .u64 c.grain, .int .u64 c.cap, .int .u64 c.burst, .int .u64 c.slowest, .int .i64 c.chal, .int .u64 c.every] 24 ∧ Blk X b_wB #[.int .u64 q0, .int .u64 q1, .int .u64 q2, .int .u64 q3, .int .u64 q4, .int .u64 q5, .int .u64 q6] 27 ∧ Blk X b_fB #[.int .u64 num, .int .u64 den] 58 ∧ Blk X b_oB #[.int .u64 0, .int .u64 0, .int .u64 0, .int .u64 0, .int .u64 0, .int .u64 0, .int .u64 0] 27 ∧ Below w.heap.size w X := by
      subst hX
      exact ⟨cB.otherRow (show w.heap.size ≠ b_wB by omega) _, wB.setRow _, fB.otherRow (show b_fB ≠ b_wB by omega) _, oB.otherRow (show b_oB ≠ b_wB by omega) _, below_setRow' hL (show w.heap.size ≤ b_wB by omega)⟩
    clear hX cB wB fB oB hL
    clear lt_cB cB_9 lt_wB wB_0 wB_1 wB_2 wB_3 wB_4 wB_5 wB_6 lt_fB fB_0 fB_1 lt_oB
    have cB := cB'
    have wB := wB'
    have fB := fB'
    have oB := oB'
    have hL := hL'
    clear cB' wB' fB' oB' hL'
    have lt_cB := cB.lt
    have lt_wB := wB.lt
    have wB_0 : _ = some (Value.int .u64 q0) := wB.cell 0
    have wB_1 : _ = some (Value.int .u64 q1) := wB.cell 1
    have wB_2 : _ = some (Value.int .u64 q2) := wB.cell 2
    have wB_3 : _ = some (Value.int .u64 q3) := wB.cell 3
    have wB_4 : _ = some (Value.int .u64 q4) := wB.cell 4
    have wB_5 : _ = some (Value.int .u64 q5) := wB.cell 5
    have wB_6 : _ = some (Value.int .u64 q6) := wB.cell 6
    have lt_fB := fB.lt
    have lt_oB := oB.lt
    go_upto_region 5 with (first
      | (refine wpl_load_row (by rfl) 24 (.tmp 3) rfl w.heap.size rfl 24 #[.int .i64 c.bits, .int .u64 c.one, .int .i64 c.ring, .int .u64 c.limit, .int .i64 c.room, .int .u64 c.mss, .int .u64 c.initial, .int .u64 c.least, .int .u64 c.most, .int .i64 c.algo, .int .u64 c.first, .int .u64 c.grain, .int .u64 c.cap, .int .u64 c.burst, .int .u64 c.slowest, .int .i64 c.chal, .int .u64 c.every] (0, 0) _ cB Try.underlying24 rfl (by kernel_rfl) ?_)
      | (go_at_call 23; refine (CL _).mono ?_; rintro x' y ⟨rfl, L1⟩; replace cB := cB.below L1 lt_cB; replace wB := wB.below L1 lt_wB; replace fB := fB.below L1 lt_fB; replace oB := oB.below L1 lt_oB; replace hL := Base.next hL L1; replace lt_cB := cB.lt; replace lt_wB := wB.lt; replace lt_fB := fB.lt; replace lt_oB := oB.lt)
      | (refine wpl_store_row rfl 27 (.tmp 4) (.tmp 24) rfl wB #[.int .u64 cl, .int .u64 q1, .int .u64 q2, .int .u64 q3, .int .u64 q4, .int .u64 q5, .int .u64 q6] rfl rfl (by kernel_rfl) rfl (by simp [Value.oneCell']) ?_))
    refine at_any ?_
    intro X hX
    obtain ⟨cB', wB', fB', oB', hL'⟩ : Blk X w.heap.size #[.int .i64 c.bits, .int .u64 c.one, .int .i64 c.ring, .int .u64 c.limit, .int .i64 c.room, .int .u64 c.mss, .int .u64 c.initial, .int .u64 c.least, .int .u64 c.most, .int .i64 c.algo, .int .u64 c.first, .int .u64 c.grain, .int .u64 c.cap, .int .u64 c.burst, .int .u64 c.slowest, .int .i64 c.chal, .int .u64 c.every] 24 ∧ Blk X b_wB #[.int .u64 cl, .int .u64 q1, .int .u64 q2, .int .u64 q3, .int .u64 q4, .int .u64 q5, .int .u64 q6] 27 ∧ Blk X b_fB #[.int .u64 num, .int .u64 den] 58 ∧ Blk X b_oB #[.int .u64 0, .int .u64 0, .int .u64 0, .int .u64 0, .int .u64 0, .int .u64 0, .int .u64 0] 27 ∧ Below w.heap.size w X := by
      subst hX
      exact ⟨cB.otherRow (show w.heap.size ≠ b_wB by omega) _, wB.setRow _, fB.otherRow (show b_fB ≠ b_wB by omega) _, oB.otherRow (show b_oB ≠ b_wB by omega) _, below_setRow' hL (show w.heap.size ≤ b_wB by omega)⟩
    clear hX cB wB fB oB hL
    clear lt_cB lt_wB wB_0 wB_1 wB_2 wB_3 wB_4 wB_5 wB_6 lt_fB lt_oB
    have cB := cB'
    have wB := wB'
    have fB := fB'
    have oB := oB'
    have hL := hL'
    clear cB' wB' fB' oB' hL'
    have lt_cB := cB.lt
    have cB_7 : _ = some (Value.int .u64 c.least) := cB.cell 7
    have lt_wB := wB.lt
    have wB_1 : _ = some (Value.int .u64 q1) := wB.cell 1
    have wB_z1 := wB.free 1
    have lt_fB := fB.lt
    have lt_oB := oB.lt
    go_upto_region 6 with (refine wpl_value (v := .int .u64 mx) rfl (by rw [← HM.out]; exact mx_u64 (.tmp 26) (.tmp 28) _ (n := q1) (m := c.least) rfl rfl rfl) ?_)
    refine at_any ?_
    intro X hX
    obtain ⟨cB', wB', fB', oB', hL'⟩ : Blk X w.heap.size #[.int .i64 c.bits, .int .u64 c.one, .int .i64 c.ring, .int .u64 c.limit, .int .i64 c.room, .int .u64 c.mss, .int .u64 c.initial, .int .u64 c.least, .int .u64 c.most, .int .i64 c.algo, .int .u64 c.first, .int .u64 c.grain, .int .u64 c.cap, .int .u64 c.burst, .int .u64 c.slowest, .int .i64 c.chal, .int .u64 c.every] 24 ∧ Blk X b_wB #[.int .u64 cl, .int .u64 mx, .int .u64 q2, .int .u64 q3, .int .u64 q4, .int .u64 q5, .int .u64 q6] 27 ∧ Blk X b_fB #[.int .u64 num, .int .u64 den] 58 ∧ Blk X b_oB #[.int .u64 0, .int .u64 0, .int .u64 0, .int .u64 0, .int .u64 0, .int .u64 0, .int .u64 0] 27 ∧ Below w.heap.size w X := by
      subst hX
      exact ⟨cB.other (show w.heap.size ≠ b_wB by omega) _, wB.set 1 (.int .u64 mx), fB.other (show b_fB ≠ b_wB by omega) _, oB.other (show b_oB ≠ b_wB by omega) _, hL.setCell (show w.heap.size ≤ b_wB by omega) _⟩
    clear hX cB wB fB oB hL
    clear lt_cB cB_7 lt_wB wB_1 wB_z1 lt_fB lt_oB
    have cB := cB'
    have wB := wB'
    have fB := fB'
    have oB := oB'
    have hL := hL'
    clear cB' wB' fB' oB' hL'
    have lt_cB := cB.lt
    have lt_wB := wB.lt
    have wB_0 : _ = some (Value.int .u64 cl) := wB.cell 0
    have wB_1 : _ = some (Value.int .u64 mx) := wB.cell 1
    have wB_2 : _ = some (Value.int .u64 q2) := wB.cell 2
    have wB_3 : _ = some (Value.int .u64 q3) := wB.cell 3
    have wB_4 : _ = some (Value.int .u64 q4) := wB.cell 4
    have wB_5 : _ = some (Value.int .u64 q5) := wB.cell 5
    have wB_6 : _ = some (Value.int .u64 q6) := wB.cell 6
    have lt_fB := fB.lt
    have lt_oB := oB.lt
    go_wp2_with (refine wpl_store_row rfl 27 (.tmp 6) (.tmp 31) rfl oB #[.int .u64 cl, .int .u64 mx, .int .u64 q2, .int .u64 q3, .int .u64 q4, .int .u64 q5, .int .u64 q6] rfl rfl (by kernel_rfl) rfl (by simp [Value.oneCell']) ?_)
    refine bodyPost_ret (results_cell_row rfl _ _ b_oB 27 #[.int .u64 cl, .int .u64 mx, .int .u64 q2, .int .u64 q3, .int .u64 q4, .int .u64 q5, .int .u64 q6] (0, 0) _ rfl (oB.setRow _) Try.underlying27 rfl (by kernel_rfl)) rfl ?_
    exact ⟨rfl, below_setRow' hL (by omega)⟩
set_option maxHeartbeats 4000000 in
theorem start_any (c : C) (hc : CFit c) (w : World) :
    Calls Try.prog 11 #[.agg #[.int .i64 c.bits, .int .u64 c.one, .int .i64 c.ring, .int .u64 c.limit, .int .i64 c.room, .int .u64 c.mss, .int .u64 c.initial, .int .u64 c.least, .int .u64 c.most, .int .i64 c.algo, .int .u64 c.first, .int .u64 c.grain, .int .u64 c.cap, .int .u64 c.burst, .int .u64 c.slowest, .int .i64 c.chal, .int .u64 c.every]] w (CcPost w (startK c)) := by
  have CK := fun V => may_any c V hc.rng
  unfold CcPost startK
  by_cases h0 : pos (flags c) = 0
  · rw [show (pos (flags c) == 0) = true by simpa using h0] at CK
    rw [if_pos h0]
    clear h0
    unfold firstK kc
    simp only
    go_enter Try.func11, Try.ntmps11
    go_upto_region 1 with fail
    refine at_any ?_
    intro W hW
    obtain ⟨cB, oB, hL⟩ : Blk W w.heap.size #[.int .i64 c.bits, .int .u64 c.one, .int .i64 c.ring, .int .u64 c.limit, .int .i64 c.room, .int .u64 c.mss, .int .u64 c.initial, .int .u64 c.least, .int .u64 c.most, .int .i64 c.algo, .int .u64 c.first, .int .u64 c.grain, .int .u64 c.cap, .int .u64 c.burst, .int .u64 c.slowest, .int .i64 c.chal, .int .u64 c.every] 24 ∧ Blk W (w.heap.size + 1) #[.int .u64 0, .int .u64 0, .int .u64 0, .int .u64 0, .int .u64 0, .int .u64 0, .int .u64 0, .int .u64 0, .int .u64 0] 31 ∧ Below w.heap.size w W := by
      have h0 := Blk.new (w) #[.int .i64 c.bits, .int .u64 c.one, .int .i64 c.ring, .int .u64 c.limit, .int .i64 c.room, .int .u64 c.mss, .int .u64 c.initial, .int .u64 c.least, .int .u64 c.most, .int .i64 c.algo, .int .u64 c.first, .int .u64 c.grain, .int .u64 c.cap, .int .u64 c.burst, .int .u64 c.slowest, .int .i64 c.chal, .int .u64 c.every] 24
      have h1 := Blk.new (World.alloc (w) (.cells #[.int .i64 c.bits, .int .u64 c.one, .int .i64 c.ring, .int .u64 c.limit, .int .i64 c.room, .int .u64 c.mss, .int .u64 c.initial, .int .u64 c.least, .int .u64 c.most, .int .i64 c.algo, .int .u64 c.first, .int .u64 c.grain, .int .u64 c.cap, .int .u64 c.burst, .int .u64 c.slowest, .int .i64 c.chal, .int .u64 c.every] 24)) #[.int .u64 0, .int .u64 0, .int .u64 0, .int .u64 0, .int .u64 0, .int .u64 0, .int .u64 0, .int .u64 0, .int .u64 0] 31
      simp only [World.size_alloc] at h1
      subst hW
      exact ⟨(h0.alloc _), h1, (((Below.refl _ _).alloc (Nat.le_refl _) _).alloc (by simp only [World.size_alloc]; omega) _)⟩
    clear hW
    generalize hb_oB : w.heap.size + 1 = b_oB at *
    have lt_cB := cB.lt
    have lt_oB := oB.lt
    go_upto_region 3 with (first | (refine wpl_load_row (by rfl) 24 (.tmp 1) rfl w.heap.size rfl 24 #[.int .i64 c.bits, .int .u64 c.one, .int .i64 c.ring, .int .u64 c.limit, .int .i64 c.room, .int .u64 c.mss, .int .u64 c.initial, .int .u64 c.least, .int .u64 c.most, .int .i64 c.algo, .int .u64 c.first, .int .u64 c.grain, .int .u64 c.cap, .int .u64 c.burst, .int .u64 c.slowest, .int .i64 c.chal, .int .u64 c.every] (0, 0) _ cB Try.underlying24 rfl (by kernel_rfl) ?_) | (go_at_call 20; refine (CK _).mono ?_; rintro x' y0 ⟨rfl, L0⟩; replace cB := cB.below L0 lt_cB; replace oB := oB.below L0 lt_oB; replace hL := Base.next hL L0; replace lt_cB := cB.lt; replace lt_oB := oB.lt; have cB_6 : _ = some (Value.int .u64 c.initial) := cB.cell 6))
    go_wp2_with (refine wpl_store_row rfl 31 (.tmp 2) (.tmp 10) rfl oB #[.int .u64 c.initial, .int .u64 18446744073709551615, .int .u64 0, .int .u64 0, .int .u64 18446744073709551615, .int .u64 0, .int .u64 0, .int .u64 0, .int .u64 0] rfl rfl (by kernel_rfl) rfl (by simp [Value.oneCell']) ?_)
    refine bodyPost_ret (results_cell_row rfl _ _ b_oB 31 #[.int .u64 c.initial, .int .u64 18446744073709551615, .int .u64 0, .int .u64 0, .int .u64 18446744073709551615, .int .u64 0, .int .u64 0, .int .u64 0, .int .u64 0] (0, 0) _ rfl (oB.setRow _) Try.underlying31 rfl (by kernel_rfl)) rfl ?_
    exact ⟨rfl, below_setRow' hL (by omega)⟩
  · rw [show (pos (flags c) == 0) = false by simpa using h0] at CK
    rw [if_neg h0]
    clear h0
    unfold zeroK kc
    simp only
    go_enter Try.func11, Try.ntmps11
    go_upto_region 1 with fail
    refine at_any ?_
    intro W hW
    obtain ⟨cB, oB, hL⟩ : Blk W w.heap.size #[.int .i64 c.bits, .int .u64 c.one, .int .i64 c.ring, .int .u64 c.limit, .int .i64 c.room, .int .u64 c.mss, .int .u64 c.initial, .int .u64 c.least, .int .u64 c.most, .int .i64 c.algo, .int .u64 c.first, .int .u64 c.grain, .int .u64 c.cap, .int .u64 c.burst, .int .u64 c.slowest, .int .i64 c.chal, .int .u64 c.every] 24 ∧ Blk W (w.heap.size + 1) #[.int .u64 0, .int .u64 0, .int .u64 0, .int .u64 0, .int .u64 0, .int .u64 0, .int .u64 0, .int .u64 0, .int .u64 0] 31 ∧ Below w.heap.size w W := by
      have h0 := Blk.new (w) #[.int .i64 c.bits, .int .u64 c.one, .int .i64 c.ring, .int .u64 c.limit, .int .i64 c.room, .int .u64 c.mss, .int .u64 c.initial, .int .u64 c.least, .int .u64 c.most, .int .i64 c.algo, .int .u64 c.first, .int .u64 c.grain, .int .u64 c.cap, .int .u64 c.burst, .int .u64 c.slowest, .int .i64 c.chal, .int .u64 c.every] 24
      have h1 := Blk.new (World.alloc (w) (.cells #[.int .i64 c.bits, .int .u64 c.one, .int .i64 c.ring, .int .u64 c.limit, .int .i64 c.room, .int .u64 c.mss, .int .u64 c.initial, .int .u64 c.least, .int .u64 c.most, .int .i64 c.algo, .int .u64 c.first, .int .u64 c.grain, .int .u64 c.cap, .int .u64 c.burst, .int .u64 c.slowest, .int .i64 c.chal, .int .u64 c.every] 24)) #[.int .u64 0, .int .u64 0, .int .u64 0, .int .u64 0, .int .u64 0, .int .u64 0, .int .u64 0, .int .u64 0, .int .u64 0] 31
      simp only [World.size_alloc] at h1
      subst hW
      exact ⟨(h0.alloc _), h1, (((Below.refl _ _).alloc (Nat.le_refl _) _).alloc (by simp only [World.size_alloc]; omega) _)⟩
    clear hW
    generalize hb_oB : w.heap.size + 1 = b_oB at *
    have lt_cB := cB.lt
    have lt_oB := oB.lt
    go_upto_region 2 with (first | (refine wpl_load_row (by rfl) 24 (.tmp 1) rfl w.heap.size rfl 24 #[.int .i64 c.bits, .int .u64 c.one, .int .i64 c.ring, .int .u64 c.limit, .int .i64 c.room, .int .u64 c.mss, .int .u64 c.initial, .int .u64 c.least, .int .u64 c.most, .int .i64 c.algo, .int .u64 c.first, .int .u64 c.grain, .int .u64 c.cap, .int .u64 c.burst, .int .u64 c.slowest, .int .i64 c.chal, .int .u64 c.every] (0, 0) _ cB Try.underlying24 rfl (by kernel_rfl) ?_) | (go_at_call 20; refine (CK _).mono ?_; rintro x' y0 ⟨rfl, L0⟩; replace cB := cB.below L0 lt_cB; replace oB := oB.below L0 lt_oB; replace hL := Base.next hL L0; replace lt_cB := cB.lt; replace lt_oB := oB.lt; have cB_6 : _ = some (Value.int .u64 c.initial) := cB.cell 6))
    go_wp2_with (refine wpl_store_row rfl 31 (.tmp 2) (.tmp 6) rfl oB #[.int .u64 0, .int .u64 0, .int .u64 0, .int .u64 0, .int .u64 0, .int .u64 0, .int .u64 0, .int .u64 0, .int .u64 0] rfl rfl (by kernel_rfl) rfl (by simp [Value.oneCell']) ?_)
    refine bodyPost_ret (results_cell_row rfl _ _ b_oB 31 #[.int .u64 0, .int .u64 0, .int .u64 0, .int .u64 0, .int .u64 0, .int .u64 0, .int .u64 0, .int .u64 0, .int .u64 0] (0, 0) _ rfl (oB.setRow _) Try.underlying31 rfl (by kernel_rfl)) rfl ?_
    exact ⟨rfl, below_setRow' hL (by omega)⟩
set_option maxHeartbeats 4000000 in
theorem ack_any (c : C) (hc : CFit c) (s : Kc) (hs : KFit s) (acked now smooth : Int) (ha : U acked) (hn : U now) (hm : U smooth) (w : World) :
    Calls Try.prog 9 #[.agg #[.int .i64 c.bits, .int .u64 c.one, .int .i64 c.ring, .int .u64 c.limit, .int .i64 c.room, .int .u64 c.mss, .int .u64 c.initial, .int .u64 c.least, .int .u64 c.most, .int .i64 c.algo, .int .u64 c.first, .int .u64 c.grain, .int .u64 c.cap, .int .u64 c.burst, .int .u64 c.slowest, .int .i64 c.chal, .int .u64 c.every], .agg (kc s), .int .u64 acked, .int .u64 now, .int .u64 smooth] w (CcPost w (ackK c s acked now smooth)) := by
  have CK := fun V => may_any c V hc.rng
  unfold CcPost ackK
  by_cases h0 : pos (flags c) = 0
  · have ha2 := algo_of h0
    rw [show (pos (flags c) == 0) = true by simpa using h0] at CK
    rw [if_pos h0]
    clear h0
    have CL0 := fun v V => clampw_any c v V
    unfold growK
    by_cases h1 : c.algo = 1
    · rw [if_pos h1]
      have h1' : (c.algo == 2) = false := by rw [h1]; rfl
      clear h1 ha2
      have CG := fun V => Go.Proofs.Ytnnpklnhdfpnjaa.Reno.grow_any s.w hs.w acked c.mss ha hc.mss V
      generalize growR s.w acked c.mss = v at *
      have CL := fun V => CL0 v V
      clear CL0
      obtain ⟨⟨s0, s1, s2, s3, s4, s5, s6⟩, ⟨e, k⟩⟩ := s
      obtain ⟨q0, q1, q2, q3, q4, q5, q6⟩ := v
      unfold WinPost wc at CG CL
      unfold clampW at *
      unfold kc
      simp only at CG CL ⊢
      generalize Sat.clamp q0 c.least c.most = cl at *
      go_enter Try.func9, Try.ntmps9
      go_upto_region 1 with fail
      refine at_any ?_
      intro W hW
      obtain ⟨cB, sB, oB, hL⟩ : Blk W w.heap.size #[.int .i64 c.bits, .int .u64 c.one, .int .i64 c.ring, .int .u64 c.limit, .int .i64 c.room, .int .u64 c.mss, .int .u64 c.initial, .int .u64 c.least, .int .u64 c.most, .int .i64 c.algo, .int .u64 c.first, .int .u64 c.grain, .int .u64 c.cap, .int .u64 c.burst, .int .u64 c.slowest, .int .i64 c.chal, .int .u64 c.every] 24 ∧ Blk W (w.heap.size + 1) #[.int .u64 s0, .int .u64 s1, .int .u64 s2, .int .u64 s3, .int .u64 s4, .int .u64 s5, .int .u64 s6, .int .u64 e, .int .u64 k] 31 ∧ Blk W (w.heap.size + 1 + 1) #[.int .u64 0, .int .u64 0, .int .u64 0, .int .u64 0, .int .u64 0, .int .u64 0, .int .u64 0, .int .u64 0, .int .u64 0] 31 ∧ Below w.heap.size w W := by
        have h0 := Blk.new (w) #[.int .i64 c.bits, .int .u64 c.one, .int .i64 c.ring, .int .u64 c.limit, .int .i64 c.room, .int .u64 c.mss, .int .u64 c.initial, .int .u64 c.least, .int .u64 c.most, .int .i64 c.algo, .int .u64 c.first, .int .u64 c.grain, .int .u64 c.cap, .int .u64 c.burst, .int .u64 c.slowest, .int .i64 c.chal, .int .u64 c.every] 24
        have h1 := Blk.new (World.alloc (w) (.cells #[.int .i64 c.bits, .int .u64 c.one, .int .i64 c.ring, .int .u64 c.limit, .int .i64 c.room, .int .u64 c.mss, .int .u64 c.initial, .int .u64 c.least, .int .u64 c.most, .int .i64 c.algo, .int .u64 c.first, .int .u64 c.grain, .int .u64 c.cap, .int .u64 c.burst, .int .u64 c.slowest, .int .i64 c.chal, .int .u64 c.every] 24)) #[.int .u64 s0, .int .u64 s1, .int .u64 s2, .int .u64 s3, .int .u64 s4, .int .u64 s5, .int .u64 s6, .int .u64 e, .int .u64 k] 31
        have h2 := Blk.new (World.alloc (World.alloc (w) (.cells #[.int .i64 c.bits, .int .u64 c.one, .int .i64 c.ring, .int .u64 c.limit, .int .i64 c.room, .int .u64 c.mss, .int .u64 c.initial, .int .u64 c.least, .int .u64 c.most, .int .i64 c.algo, .int .u64 c.first, .int .u64 c.grain, .int .u64 c.cap, .int .u64 c.burst, .int .u64 c.slowest, .int .i64 c.chal, .int .u64 c.every] 24)) (.cells #[.int .u64 s0, .int .u64 s1, .int .u64 s2, .int .u64 s3, .int .u64 s4, .int .u64 s5, .int .u64 s6, .int .u64 e, .int .u64 k] 31)) #[.int .u64 0, .int .u64 0, .int .u64 0, .int .u64 0, .int .u64 0, .int .u64 0, .int .u64 0, .int .u64 0, .int .u64 0] 31
        simp only [World.size_alloc] at h1 h2
        subst hW
        exact ⟨((h0.alloc _).alloc _), (h1.alloc _), h2, ((((Below.refl _ _).alloc (Nat.le_refl _) _).alloc (by simp only [World.size_alloc]; omega) _).alloc (by simp only [World.size_alloc]; omega) _)⟩
      clear hW
      generalize hb_oB : w.heap.size + 1 + 1 = b_oB at *
      generalize hb_sB : w.heap.size + 1 = b_sB at *
      have lt_cB := cB.lt
      have lt_sB := sB.lt
      have lt_oB := oB.lt
      go_upto_region 5 with (first | (refine wpl_load_row (by rfl) 24 (.tmp 5) rfl w.heap.size rfl 24 #[.int .i64 c.bits, .int .u64 c.one, .int .i64 c.ring, .int .u64 c.limit, .int .i64 c.room, .int .u64 c.mss, .int .u64 c.initial, .int .u64 c.least, .int .u64 c.most, .int .i64 c.algo, .int .u64 c.first, .int .u64 c.grain, .int .u64 c.cap, .int .u64 c.burst, .int .u64 c.slowest, .int .i64 c.chal, .int .u64 c.every] (0, 0) _ cB Try.underlying24 rfl (by kernel_rfl) ?_) | (go_at_call 20; refine (CK _).mono ?_; rintro x' y0 ⟨rfl, L0⟩; replace cB := cB.below L0 lt_cB; replace sB := sB.below L0 lt_sB; replace oB := oB.below L0 lt_oB; replace hL := Base.next hL L0; replace lt_cB := cB.lt; replace lt_sB := sB.lt; replace lt_oB := oB.lt; have cB_5 : _ = some (Value.int .u64 c.mss) := cB.cell 5; have cB_9 : _ = some (Value.int .i64 c.algo) := cB.cell 9; have sB_0 : _ = some (Value.int .u64 s0) := sB.cell 0; have sB_1 : _ = some (Value.int .u64 s1) := sB.cell 1; have sB_2 : _ = some (Value.int .u64 s2) := sB.cell 2; have sB_3 : _ = some (Value.int .u64 s3) := sB.cell 3; have sB_4 : _ = some (Value.int .u64 s4) := sB.cell 4; have sB_5 : _ = some (Value.int .u64 s5) := sB.cell 5; have sB_6 : _ = some (Value.int .u64 s6) := sB.cell 6))
      go_upto_region 6 with (first
        | (go_at_call 22; refine (CG _).mono ?_; rintro x' y ⟨rfl, L1⟩; replace cB := cB.below L1 lt_cB; replace sB := sB.below L1 lt_sB; replace oB := oB.below L1 lt_oB; replace hL := Base.next hL L1; replace lt_cB := cB.lt; replace lt_sB := sB.lt; replace lt_oB := oB.lt)
        | (refine wpl_store_mid rfl 27 (.tmp 33) (.tmp 32) rfl sB 0 #[.int .u64 q0, .int .u64 q1, .int .u64 q2, .int .u64 q3, .int .u64 q4, .int .u64 q5, .int .u64 q6] rfl rfl (by kernel_rfl) (by simp) (by simp [Value.oneCell']) ?_))
      refine at_any ?_
      intro X hX
      obtain ⟨cB', sB', oB', hL'⟩ : Blk X w.heap.size #[.int .i64 c.bits, .int .u64 c.one, .int .i64 c.ring, .int .u64 c.limit, .int .i64 c.room, .int .u64 c.mss, .int .u64 c.initial, .int .u64 c.least, .int .u64 c.most, .int .i64 c.algo, .int .u64 c.first, .int .u64 c.grain, .int .u64 c.cap, .int .u64 c.burst, .int .u64 c.slowest, .int .i64 c.chal, .int .u64 c.every] 24 ∧ Blk X b_sB #[.int .u64 q0, .int .u64 q1, .int .u64 q2, .int .u64 q3, .int .u64 q4, .int .u64 q5, .int .u64 q6, .int .u64 e, .int .u64 k] 31 ∧ Blk X b_oB #[.int .u64 0, .int .u64 0, .int .u64 0, .int .u64 0, .int .u64 0, .int .u64 0, .int .u64 0, .int .u64 0, .int .u64 0] 31 ∧ Below w.heap.size w X := by
        subst hX
        exact ⟨Blk.otherMid (show w.heap.size ≠ b_sB by omega) cB _ _, sB.mid79, Blk.otherMid (show b_oB ≠ b_sB by omega) oB _ _, below_setCells (show w.heap.size ≤ b_sB by omega) hL _ _⟩
      clear hX cB sB oB hL
      clear lt_cB lt_sB lt_oB
      have cB := cB'
      have sB := sB'
      have oB := oB'
      have hL := hL'
      clear cB' sB' oB' hL'
      have lt_cB := cB.lt
      have lt_sB := sB.lt
      have sB_0 : _ = some (Value.int .u64 q0) := sB.cell 0
      have sB_1 : _ = some (Value.int .u64 q1) := sB.cell 1
      have sB_2 : _ = some (Value.int .u64 q2) := sB.cell 2
      have sB_3 : _ = some (Value.int .u64 q3) := sB.cell 3
      have sB_4 : _ = some (Value.int .u64 q4) := sB.cell 4
      have sB_5 : _ = some (Value.int .u64 q5) := sB.cell 5
      have sB_6 : _ = some (Value.int .u64 q6) := sB.cell 6
      have lt_oB := oB.lt
      go_upto_region 7 with (first
        | (refine wpl_load_row (by rfl) 24 (.tmp 5) rfl w.heap.size rfl 24 #[.int .i64 c.bits, .int .u64 c.one, .int .i64 c.ring, .int .u64 c.limit, .int .i64 c.room, .int .u64 c.mss, .int .u64 c.initial, .int .u64 c.least, .int .u64 c.most, .int .i64 c.algo, .int .u64 c.first, .int .u64 c.grain, .int .u64 c.cap, .int .u64 c.burst, .int .u64 c.slowest, .int .i64 c.chal, .int .u64 c.every] (0, 0) _ cB Try.underlying24 rfl (by kernel_rfl) ?_)
        | (go_at_call 23; refine (CL _).mono ?_; rintro x' y ⟨rfl, L1⟩; replace cB := cB.below L1 lt_cB; replace sB := sB.below L1 lt_sB; replace oB := oB.below L1 lt_oB; replace hL := Base.next hL L1; replace lt_cB := cB.lt; replace lt_sB := sB.lt; replace lt_oB := oB.lt)
        | (refine wpl_store_mid rfl 27 (.tmp 38) (.tmp 37) rfl sB 0 #[.int .u64 cl, .int .u64 q1, .int .u64 q2, .int .u64 q3, .int .u64 q4, .int .u64 q5, .int .u64 q6] rfl rfl (by kernel_rfl) (by simp) (by simp [Value.oneCell']) ?_))
      refine at_any ?_
      intro X hX
      obtain ⟨cB', sB', oB', hL'⟩ : Blk X w.heap.size #[.int .i64 c.bits, .int .u64 c.one, .int .i64 c.ring, .int .u64 c.limit, .int .i64 c.room, .int .u64 c.mss, .int .u64 c.initial, .int .u64 c.least, .int .u64 c.most, .int .i64 c.algo, .int .u64 c.first, .int .u64 c.grain, .int .u64 c.cap, .int .u64 c.burst, .int .u64 c.slowest, .int .i64 c.chal, .int .u64 c.every] 24 ∧ Blk X b_sB #[.int .u64 cl, .int .u64 q1, .int .u64 q2, .int .u64 q3, .int .u64 q4, .int .u64 q5, .int .u64 q6, .int .u64 e, .int .u64 k] 31 ∧ Blk X b_oB #[.int .u64 0, .int .u64 0, .int .u64 0, .int .u64 0, .int .u64 0, .int .u64 0, .int .u64 0, .int .u64 0, .int .u64 0] 31 ∧ Below w.heap.size w X := by
        subst hX
        exact ⟨Blk.otherMid (show w.heap.size ≠ b_sB by omega) cB _ _, sB.mid79, Blk.otherMid (show b_oB ≠ b_sB by omega) oB _ _, below_setCells (show w.heap.size ≤ b_sB by omega) hL _ _⟩
      clear hX cB sB oB hL
      clear lt_cB lt_sB sB_0 sB_1 sB_2 sB_3 sB_4 sB_5 sB_6 lt_oB
      have cB := cB'
      have sB := sB'
      have oB := oB'
      have hL := hL'
      clear cB' sB' oB' hL'
      have lt_cB := cB.lt
      have lt_sB := sB.lt
      have sB_0 : _ = some (Value.int .u64 cl) := sB.cell 0
      have sB_1 : _ = some (Value.int .u64 q1) := sB.cell 1
      have sB_2 : _ = some (Value.int .u64 q2) := sB.cell 2
      have sB_3 : _ = some (Value.int .u64 q3) := sB.cell 3
      have sB_4 : _ = some (Value.int .u64 q4) := sB.cell 4
      have sB_5 : _ = some (Value.int .u64 q5) := sB.cell 5
      have sB_6 : _ = some (Value.int .u64 q6) := sB.cell 6
      have sB_7 : _ = some (Value.int .u64 e) := sB.cell 7
      have sB_8 : _ = some (Value.int .u64 k) := sB.cell 8
      have lt_oB := oB.lt
      go_wp2_with (refine wpl_store_row rfl 31 (.tmp 10) (.tmp 39) rfl oB #[.int .u64 cl, .int .u64 q1, .int .u64 q2, .int .u64 q3, .int .u64 q4, .int .u64 q5, .int .u64 q6, .int .u64 e, .int .u64 k] rfl rfl (by kernel_rfl) rfl (by simp [Value.oneCell']) ?_)
      refine bodyPost_ret (results_cell_row rfl _ _ b_oB 31 #[.int .u64 cl, .int .u64 q1, .int .u64 q2, .int .u64 q3, .int .u64 q4, .int .u64 q5, .int .u64 q6, .int .u64 e, .int .u64 k] (0, 0) _ rfl (oB.setRow _) Try.underlying31 rfl (by kernel_rfl)) rfl ?_
      exact ⟨rfl, below_setRow' hL (by omega)⟩
    · rw [if_neg h1]
      have h1' : (c.algo == 2) = true := by simp; omega
      clear h1 ha2
      have CG := fun V => Go.Proofs.Ytnnpklnhdfpnjaa.Cubic.grow_any s.w hs.w acked c.mss now smooth ha hc.mss hn hm V
      generalize growC s.w acked c.mss now smooth = v at *
      have CL := fun V => CL0 v V
      clear CL0
      obtain ⟨⟨s0, s1, s2, s3, s4, s5, s6⟩, ⟨e, k⟩⟩ := s
      obtain ⟨q0, q1, q2, q3, q4, q5, q6⟩ := v
      unfold WinPost wc at CG CL
      unfold clampW at *
      unfold kc
      simp only at CG CL ⊢
      generalize Sat.clamp q0 c.least c.most = cl at *
      go_enter Try.func9, Try.ntmps9
      go_upto_region 1 with fail
      refine at_any ?_
      intro W hW
      obtain ⟨cB, sB, oB, hL⟩ : Blk W w.heap.size #[.int .i64 c.bits, .int .u64 c.one, .int .i64 c.ring, .int .u64 c.limit, .int .i64 c.room, .int .u64 c.mss, .int .u64 c.initial, .int .u64 c.least, .int .u64 c.most, .int .i64 c.algo, .int .u64 c.first, .int .u64 c.grain, .int .u64 c.cap, .int .u64 c.burst, .int .u64 c.slowest, .int .i64 c.chal, .int .u64 c.every] 24 ∧ Blk W (w.heap.size + 1) #[.int .u64 s0, .int .u64 s1, .int .u64 s2, .int .u64 s3, .int .u64 s4, .int .u64 s5, .int .u64 s6, .int .u64 e, .int .u64 k] 31 ∧ Blk W (w.heap.size + 1 + 1) #[.int .u64 0, .int .u64 0, .int .u64 0, .int .u64 0, .int .u64 0, .int .u64 0, .int .u64 0, .int .u64 0, .int .u64 0] 31 ∧ Below w.heap.size w W := by
        have h0 := Blk.new (w) #[.int .i64 c.bits, .int .u64 c.one, .int .i64 c.ring, .int .u64 c.limit, .int .i64 c.room, .int .u64 c.mss, .int .u64 c.initial, .int .u64 c.least, .int .u64 c.most, .int .i64 c.algo, .int .u64 c.first, .int .u64 c.grain, .int .u64 c.cap, .int .u64 c.burst, .int .u64 c.slowest, .int .i64 c.chal, .int .u64 c.every] 24
        have h1 := Blk.new (World.alloc (w) (.cells #[.int .i64 c.bits, .int .u64 c.one, .int .i64 c.ring, .int .u64 c.limit, .int .i64 c.room, .int .u64 c.mss, .int .u64 c.initial, .int .u64 c.least, .int .u64 c.most, .int .i64 c.algo, .int .u64 c.first, .int .u64 c.grain, .int .u64 c.cap, .int .u64 c.burst, .int .u64 c.slowest, .int .i64 c.chal, .int .u64 c.every] 24)) #[.int .u64 s0, .int .u64 s1, .int .u64 s2, .int .u64 s3, .int .u64 s4, .int .u64 s5, .int .u64 s6, .int .u64 e, .int .u64 k] 31
        have h2 := Blk.new (World.alloc (World.alloc (w) (.cells #[.int .i64 c.bits, .int .u64 c.one, .int .i64 c.ring, .int .u64 c.limit, .int .i64 c.room, .int .u64 c.mss, .int .u64 c.initial, .int .u64 c.least, .int .u64 c.most, .int .i64 c.algo, .int .u64 c.first, .int .u64 c.grain, .int .u64 c.cap, .int .u64 c.burst, .int .u64 c.slowest, .int .i64 c.chal, .int .u64 c.every] 24)) (.cells #[.int .u64 s0, .int .u64 s1, .int .u64 s2, .int .u64 s3, .int .u64 s4, .int .u64 s5, .int .u64 s6, .int .u64 e, .int .u64 k] 31)) #[.int .u64 0, .int .u64 0, .int .u64 0, .int .u64 0, .int .u64 0, .int .u64 0, .int .u64 0, .int .u64 0, .int .u64 0] 31
        simp only [World.size_alloc] at h1 h2
        subst hW
        exact ⟨((h0.alloc _).alloc _), (h1.alloc _), h2, ((((Below.refl _ _).alloc (Nat.le_refl _) _).alloc (by simp only [World.size_alloc]; omega) _).alloc (by simp only [World.size_alloc]; omega) _)⟩
      clear hW
      generalize hb_oB : w.heap.size + 1 + 1 = b_oB at *
      generalize hb_sB : w.heap.size + 1 = b_sB at *
      have lt_cB := cB.lt
      have lt_sB := sB.lt
      have lt_oB := oB.lt
      go_upto_region 4 with (first | (refine wpl_load_row (by rfl) 24 (.tmp 5) rfl w.heap.size rfl 24 #[.int .i64 c.bits, .int .u64 c.one, .int .i64 c.ring, .int .u64 c.limit, .int .i64 c.room, .int .u64 c.mss, .int .u64 c.initial, .int .u64 c.least, .int .u64 c.most, .int .i64 c.algo, .int .u64 c.first, .int .u64 c.grain, .int .u64 c.cap, .int .u64 c.burst, .int .u64 c.slowest, .int .i64 c.chal, .int .u64 c.every] (0, 0) _ cB Try.underlying24 rfl (by kernel_rfl) ?_) | (go_at_call 20; refine (CK _).mono ?_; rintro x' y0 ⟨rfl, L0⟩; replace cB := cB.below L0 lt_cB; replace sB := sB.below L0 lt_sB; replace oB := oB.below L0 lt_oB; replace hL := Base.next hL L0; replace lt_cB := cB.lt; replace lt_sB := sB.lt; replace lt_oB := oB.lt; have cB_5 : _ = some (Value.int .u64 c.mss) := cB.cell 5; have cB_9 : _ = some (Value.int .i64 c.algo) := cB.cell 9; have sB_0 : _ = some (Value.int .u64 s0) := sB.cell 0; have sB_1 : _ = some (Value.int .u64 s1) := sB.cell 1; have sB_2 : _ = some (Value.int .u64 s2) := sB.cell 2; have sB_3 : _ = some (Value.int .u64 s3) := sB.cell 3; have sB_4 : _ = some (Value.int .u64 s4) := sB.cell 4; have sB_5 : _ = some (Value.int .u64 s5) := sB.cell 5; have sB_6 : _ = some (Value.int .u64 s6) := sB.cell 6))
      go_upto_region 6 with (first
        | (go_at_call 21; refine (CG _).mono ?_; rintro x' y ⟨rfl, L1⟩; replace cB := cB.below L1 lt_cB; replace sB := sB.below L1 lt_sB; replace oB := oB.below L1 lt_oB; replace hL := Base.next hL L1; replace lt_cB := cB.lt; replace lt_sB := sB.lt; replace lt_oB := oB.lt)
        | (refine wpl_store_mid rfl 27 (.tmp 26) (.tmp 25) rfl sB 0 #[.int .u64 q0, .int .u64 q1, .int .u64 q2, .int .u64 q3, .int .u64 q4, .int .u64 q5, .int .u64 q6] rfl rfl (by kernel_rfl) (by simp) (by simp [Value.oneCell']) ?_))
      refine at_any ?_
      intro X hX
      obtain ⟨cB', sB', oB', hL'⟩ : Blk X w.heap.size #[.int .i64 c.bits, .int .u64 c.one, .int .i64 c.ring, .int .u64 c.limit, .int .i64 c.room, .int .u64 c.mss, .int .u64 c.initial, .int .u64 c.least, .int .u64 c.most, .int .i64 c.algo, .int .u64 c.first, .int .u64 c.grain, .int .u64 c.cap, .int .u64 c.burst, .int .u64 c.slowest, .int .i64 c.chal, .int .u64 c.every] 24 ∧ Blk X b_sB #[.int .u64 q0, .int .u64 q1, .int .u64 q2, .int .u64 q3, .int .u64 q4, .int .u64 q5, .int .u64 q6, .int .u64 e, .int .u64 k] 31 ∧ Blk X b_oB #[.int .u64 0, .int .u64 0, .int .u64 0, .int .u64 0, .int .u64 0, .int .u64 0, .int .u64 0, .int .u64 0, .int .u64 0] 31 ∧ Below w.heap.size w X := by
        subst hX
        exact ⟨Blk.otherMid (show w.heap.size ≠ b_sB by omega) cB _ _, sB.mid79, Blk.otherMid (show b_oB ≠ b_sB by omega) oB _ _, below_setCells (show w.heap.size ≤ b_sB by omega) hL _ _⟩
      clear hX cB sB oB hL
      clear lt_cB lt_sB lt_oB
      have cB := cB'
      have sB := sB'
      have oB := oB'
      have hL := hL'
      clear cB' sB' oB' hL'
      have lt_cB := cB.lt
      have lt_sB := sB.lt
      have sB_0 : _ = some (Value.int .u64 q0) := sB.cell 0
      have sB_1 : _ = some (Value.int .u64 q1) := sB.cell 1
      have sB_2 : _ = some (Value.int .u64 q2) := sB.cell 2
      have sB_3 : _ = some (Value.int .u64 q3) := sB.cell 3
      have sB_4 : _ = some (Value.int .u64 q4) := sB.cell 4
      have sB_5 : _ = some (Value.int .u64 q5) := sB.cell 5
      have sB_6 : _ = some (Value.int .u64 q6) := sB.cell 6
      have lt_oB := oB.lt
      go_upto_region 7 with (first
        | (refine wpl_load_row (by rfl) 24 (.tmp 5) rfl w.heap.size rfl 24 #[.int .i64 c.bits, .int .u64 c.one, .int .i64 c.ring, .int .u64 c.limit, .int .i64 c.room, .int .u64 c.mss, .int .u64 c.initial, .int .u64 c.least, .int .u64 c.most, .int .i64 c.algo, .int .u64 c.first, .int .u64 c.grain, .int .u64 c.cap, .int .u64 c.burst, .int .u64 c.slowest, .int .i64 c.chal, .int .u64 c.every] (0, 0) _ cB Try.underlying24 rfl (by kernel_rfl) ?_)
        | (go_at_call 23; refine (CL _).mono ?_; rintro x' y ⟨rfl, L1⟩; replace cB := cB.below L1 lt_cB; replace sB := sB.below L1 lt_sB; replace oB := oB.below L1 lt_oB; replace hL := Base.next hL L1; replace lt_cB := cB.lt; replace lt_sB := sB.lt; replace lt_oB := oB.lt)
        | (refine wpl_store_mid rfl 27 (.tmp 38) (.tmp 37) rfl sB 0 #[.int .u64 cl, .int .u64 q1, .int .u64 q2, .int .u64 q3, .int .u64 q4, .int .u64 q5, .int .u64 q6] rfl rfl (by kernel_rfl) (by simp) (by simp [Value.oneCell']) ?_))
      refine at_any ?_
      intro X hX
      obtain ⟨cB', sB', oB', hL'⟩ : Blk X w.heap.size #[.int .i64 c.bits, .int .u64 c.one, .int .i64 c.ring, .int .u64 c.limit, .int .i64 c.room, .int .u64 c.mss, .int .u64 c.initial, .int .u64 c.least, .int .u64 c.most, .int .i64 c.algo, .int .u64 c.first, .int .u64 c.grain, .int .u64 c.cap, .int .u64 c.burst, .int .u64 c.slowest, .int .i64 c.chal, .int .u64 c.every] 24 ∧ Blk X b_sB #[.int .u64 cl, .int .u64 q1, .int .u64 q2, .int .u64 q3, .int .u64 q4, .int .u64 q5, .int .u64 q6, .int .u64 e, .int .u64 k] 31 ∧ Blk X b_oB #[.int .u64 0, .int .u64 0, .int .u64 0, .int .u64 0, .int .u64 0, .int .u64 0, .int .u64 0, .int .u64 0, .int .u64 0] 31 ∧ Below w.heap.size w X := by
        subst hX
        exact ⟨Blk.otherMid (show w.heap.size ≠ b_sB by omega) cB _ _, sB.mid79, Blk.otherMid (show b_oB ≠ b_sB by omega) oB _ _, below_setCells (show w.heap.size ≤ b_sB by omega) hL _ _⟩
      clear hX cB sB oB hL
      clear lt_cB lt_sB sB_0 sB_1 sB_2 sB_3 sB_4 sB_5 sB_6 lt_oB
      have cB := cB'
      have sB := sB'
      have oB := oB'
      have hL := hL'
      clear cB' sB' oB' hL'
      have lt_cB := cB.lt
      have lt_sB := sB.lt
      have sB_0 : _ = some (Value.int .u64 cl) := sB.cell 0
      have sB_1 : _ = some (Value.int .u64 q1) := sB.cell 1
      have sB_2 : _ = some (Value.int .u64 q2) := sB.cell 2
      have sB_3 : _ = some (Value.int .u64 q3) := sB.cell 3
      have sB_4 : _ = some (Value.int .u64 q4) := sB.cell 4
      have sB_5 : _ = some (Value.int .u64 q5) := sB.cell 5
      have sB_6 : _ = some (Value.int .u64 q6) := sB.cell 6
      have sB_7 : _ = some (Value.int .u64 e) := sB.cell 7
      have sB_8 : _ = some (Value.int .u64 k) := sB.cell 8
      have lt_oB := oB.lt
      go_wp2_with (refine wpl_store_row rfl 31 (.tmp 10) (.tmp 39) rfl oB #[.int .u64 cl, .int .u64 q1, .int .u64 q2, .int .u64 q3, .int .u64 q4, .int .u64 q5, .int .u64 q6, .int .u64 e, .int .u64 k] rfl rfl (by kernel_rfl) rfl (by simp [Value.oneCell']) ?_)
      refine bodyPost_ret (results_cell_row rfl _ _ b_oB 31 #[.int .u64 cl, .int .u64 q1, .int .u64 q2, .int .u64 q3, .int .u64 q4, .int .u64 q5, .int .u64 q6, .int .u64 e, .int .u64 k] (0, 0) _ rfl (oB.setRow _) Try.underlying31 rfl (by kernel_rfl)) rfl ?_
      exact ⟨rfl, below_setRow' hL (by omega)⟩
  · rw [show (pos (flags c) == 0) = false by simpa using h0] at CK
    rw [if_neg h0]
    clear h0
    obtain ⟨⟨s0, s1, s2, s3, s4, s5, s6⟩, ⟨e, k⟩⟩ := s
    unfold kc
    simp only
    go_enter Try.func9, Try.ntmps9
    go_upto_region 1 with fail
    refine at_any ?_
    intro W hW
    obtain ⟨cB, sB, oB, hL⟩ : Blk W w.heap.size #[.int .i64 c.bits, .int .u64 c.one, .int .i64 c.ring, .int .u64 c.limit, .int .i64 c.room, .int .u64 c.mss, .int .u64 c.initial, .int .u64 c.least, .int .u64 c.most, .int .i64 c.algo, .int .u64 c.first, .int .u64 c.grain, .int .u64 c.cap, .int .u64 c.burst, .int .u64 c.slowest, .int .i64 c.chal, .int .u64 c.every] 24 ∧ Blk W (w.heap.size + 1) #[.int .u64 s0, .int .u64 s1, .int .u64 s2, .int .u64 s3, .int .u64 s4, .int .u64 s5, .int .u64 s6, .int .u64 e, .int .u64 k] 31 ∧ Blk W (w.heap.size + 1 + 1) #[.int .u64 0, .int .u64 0, .int .u64 0, .int .u64 0, .int .u64 0, .int .u64 0, .int .u64 0, .int .u64 0, .int .u64 0] 31 ∧ Below w.heap.size w W := by
      have h0 := Blk.new (w) #[.int .i64 c.bits, .int .u64 c.one, .int .i64 c.ring, .int .u64 c.limit, .int .i64 c.room, .int .u64 c.mss, .int .u64 c.initial, .int .u64 c.least, .int .u64 c.most, .int .i64 c.algo, .int .u64 c.first, .int .u64 c.grain, .int .u64 c.cap, .int .u64 c.burst, .int .u64 c.slowest, .int .i64 c.chal, .int .u64 c.every] 24
      have h1 := Blk.new (World.alloc (w) (.cells #[.int .i64 c.bits, .int .u64 c.one, .int .i64 c.ring, .int .u64 c.limit, .int .i64 c.room, .int .u64 c.mss, .int .u64 c.initial, .int .u64 c.least, .int .u64 c.most, .int .i64 c.algo, .int .u64 c.first, .int .u64 c.grain, .int .u64 c.cap, .int .u64 c.burst, .int .u64 c.slowest, .int .i64 c.chal, .int .u64 c.every] 24)) #[.int .u64 s0, .int .u64 s1, .int .u64 s2, .int .u64 s3, .int .u64 s4, .int .u64 s5, .int .u64 s6, .int .u64 e, .int .u64 k] 31
      have h2 := Blk.new (World.alloc (World.alloc (w) (.cells #[.int .i64 c.bits, .int .u64 c.one, .int .i64 c.ring, .int .u64 c.limit, .int .i64 c.room, .int .u64 c.mss, .int .u64 c.initial, .int .u64 c.least, .int .u64 c.most, .int .i64 c.algo, .int .u64 c.first, .int .u64 c.grain, .int .u64 c.cap, .int .u64 c.burst, .int .u64 c.slowest, .int .i64 c.chal, .int .u64 c.every] 24)) (.cells #[.int .u64 s0, .int .u64 s1, .int .u64 s2, .int .u64 s3, .int .u64 s4, .int .u64 s5, .int .u64 s6, .int .u64 e, .int .u64 k] 31)) #[.int .u64 0, .int .u64 0, .int .u64 0, .int .u64 0, .int .u64 0, .int .u64 0, .int .u64 0, .int .u64 0, .int .u64 0] 31
      simp only [World.size_alloc] at h1 h2
      subst hW
      exact ⟨((h0.alloc _).alloc _), (h1.alloc _), h2, ((((Below.refl _ _).alloc (Nat.le_refl _) _).alloc (by simp only [World.size_alloc]; omega) _).alloc (by simp only [World.size_alloc]; omega) _)⟩
    clear hW
    generalize hb_oB : w.heap.size + 1 + 1 = b_oB at *
    generalize hb_sB : w.heap.size + 1 = b_sB at *
    have lt_cB := cB.lt
    have lt_sB := sB.lt
    have lt_oB := oB.lt
    go_upto_region 2 with (first | (refine wpl_load_row (by rfl) 24 (.tmp 5) rfl w.heap.size rfl 24 #[.int .i64 c.bits, .int .u64 c.one, .int .i64 c.ring, .int .u64 c.limit, .int .i64 c.room, .int .u64 c.mss, .int .u64 c.initial, .int .u64 c.least, .int .u64 c.most, .int .i64 c.algo, .int .u64 c.first, .int .u64 c.grain, .int .u64 c.cap, .int .u64 c.burst, .int .u64 c.slowest, .int .i64 c.chal, .int .u64 c.every] (0, 0) _ cB Try.underlying24 rfl (by kernel_rfl) ?_) | (go_at_call 20; refine (CK _).mono ?_; rintro x' y0 ⟨rfl, L0⟩; replace cB := cB.below L0 lt_cB; replace sB := sB.below L0 lt_sB; replace oB := oB.below L0 lt_oB; replace hL := Base.next hL L0; replace lt_cB := cB.lt; replace lt_sB := sB.lt; replace lt_oB := oB.lt; have sB_0 : _ = some (Value.int .u64 s0) := sB.cell 0; have sB_1 : _ = some (Value.int .u64 s1) := sB.cell 1; have sB_2 : _ = some (Value.int .u64 s2) := sB.cell 2; have sB_3 : _ = some (Value.int .u64 s3) := sB.cell 3; have sB_4 : _ = some (Value.int .u64 s4) := sB.cell 4; have sB_5 : _ = some (Value.int .u64 s5) := sB.cell 5; have sB_6 : _ = some (Value.int .u64 s6) := sB.cell 6; have sB_7 : _ = some (Value.int .u64 e) := sB.cell 7; have sB_8 : _ = some (Value.int .u64 k) := sB.cell 8))
    go_wp2_with (refine wpl_store_row rfl 31 (.tmp 10) (.tmp 14) rfl oB #[.int .u64 s0, .int .u64 s1, .int .u64 s2, .int .u64 s3, .int .u64 s4, .int .u64 s5, .int .u64 s6, .int .u64 e, .int .u64 k] rfl rfl (by kernel_rfl) rfl (by simp [Value.oneCell']) ?_)
    refine bodyPost_ret (results_cell_row rfl _ _ b_oB 31 #[.int .u64 s0, .int .u64 s1, .int .u64 s2, .int .u64 s3, .int .u64 s4, .int .u64 s5, .int .u64 s6, .int .u64 e, .int .u64 k] (0, 0) _ rfl (oB.setRow _) Try.underlying31 rfl (by kernel_rfl)) rfl ?_
    exact ⟨rfl, below_setRow' hL (by omega)⟩
end Go.Proofs.Ytnnpklnhdfpnjaa.Control
