/-
  A control is behind any loss, any mark, and when it collapses, what the document says. No conditions.
-/
import Derived.Test.YtnnpklnhdfpnjaaFlat
import Derived.Test.YtnnpklnhdfpnjaaConfRow
import Derived.Test.YtnnpklnhdfpnjaaRows
import Derived.Test.YtnnpklnhdfpnjaaRow
import Derived.WalkKit
import Derived.ProofKit
import Derived.OpenShut
import Derived.ShutString
import Derived.ChangeOld
import Derived.Below
import Derived.Test.YtnnpklnhdfpnjaaControlEnd
import Derived.Test.YtnnpklnhdfpnjaaHeld
namespace Go.Proofs.Ytnnpklnhdfpnjaa.controlCuts
open Go.ChangeShapes Go.WideShapes Go.ChangeAt Go.RowKit
open Go.ChangeMaps (open_string shut_string)
open Go.Proofs.Ytnnpklnhdfpnjaa.Base Go.Proofs.Ytnnpklnhdfpnjaa.Conf Go.Proofs.Ytnnpklnhdfpnjaa.ConfPlain
set_option linter.unusedVariables false
set_option linter.unusedSimpArgs false

theorem own : ownKnob Try.prog.godebug = none := by kernel_rfl
theorem laidOut : laidOutB Try.prog = true := by kernel_rfl

open Go.Proofs.Ytnnpklnhdfpnjaa.Control Go.Proofs.Ytnnpklnhdfpnjaa.ControlPlain Go.Proofs.Ytnnpklnhdfpnjaa.CubicPlain Go.Proofs.Ytnnpklnhdfpnjaa.RenoPlain Go.Proofs.Ytnnpklnhdfpnjaa.RoundPlain Go.Proofs.Ytnnpklnhdfpnjaa.ConfPlain Go.Proofs.Ytnnpklnhdfpnjaa.Conf Go.Proofs.Ytnnpklnhdfpnjaa.Hop
theorem ne_kc {ρ : Operand → Value} {o : Oper} {u : World} (x y : Operand) (ho : o.op = .binOp .neq 31 x y 31) {s : Kc} (hx : ρ x = .agg (kc s)) (hy : ρ y = .agg (kc s)) : (execOp ρ o).run Try.prog u = .ok (.value (.bool false)) u := by
  unfold execOp
  rw [ho]
  simp [hx, hy, go_sem, kc]
theorem build_two {ρ : Operand → Value} {o : Oper} {u : World} (x y : Operand) (ho : o.op = .build 37 #[(0, x), (1, y)]) {c d : C} (hx : ρ x = .agg (cc c)) (hy : ρ y = .agg (cc d)) : (execOp ρ o).run Try.prog u = .ok (.value (.agg (cc c ++ cc d))) u := by
  unfold execOp
  simp only [ho]
  rw [show Array.map (fun z : Nat × Operand => (z.fst, ρ z.snd)) #[(0, x), (1, y)] = #[(0, .agg (cc c)), (1, .agg (cc d))] by simp [hx, hy]]
  kernel_rfl
theorem idx_0 {ρ : Operand → Value} {o : Oper} {u : World} (x y : Operand) (ho : o.op = .index 37 x y) {c d : C} (hx : ρ x = .agg (cc c ++ cc d)) (hy : ρ y = .int .i64 0) : (execOp ρ o).run Try.prog u = .ok (.value (.agg #[.int .i64 c.bits, .int .u64 c.one, .int .i64 c.ring, .int .u64 c.limit, .int .i64 c.room, .int .u64 c.mss, .int .u64 c.initial, .int .u64 c.least, .int .u64 c.most, .int .i64 c.algo, .int .u64 c.first, .int .u64 c.grain, .int .u64 c.cap, .int .u64 c.burst, .int .u64 c.slowest, .int .i64 c.chal, .int .u64 c.every])) u := by
  unfold execOp
  simp only [ho, hx, hy]
  kernel_rfl
theorem idx_1 {ρ : Operand → Value} {o : Oper} {u : World} (x y : Operand) (ho : o.op = .index 37 x y) {c d : C} (hx : ρ x = .agg (cc c ++ cc d)) (hy : ρ y = .int .i64 1) : (execOp ρ o).run Try.prog u = .ok (.value (.agg #[.int .i64 d.bits, .int .u64 d.one, .int .i64 d.ring, .int .u64 d.limit, .int .i64 d.room, .int .u64 d.mss, .int .u64 d.initial, .int .u64 d.least, .int .u64 d.most, .int .i64 d.algo, .int .u64 d.first, .int .u64 d.grain, .int .u64 d.cap, .int .u64 d.burst, .int .u64 d.slowest, .int .i64 d.chal, .int .u64 d.every])) u := by
  unfold execOp
  simp only [ho, hx, hy]
  kernel_rfl
theorem made_conf {z : List Int} (hb : ∀ x ∈ z, 0 ≤ x ∧ x ≤ 4294967295) : Made (confV z) := by
  have g : ∀ k, 0 ≤ z.getD k 0 := fun k => by
    rw [List.getD_eq_getElem?_getD]
    cases hx : z[k]? with
    | none => exact Int.le_refl _
    | some x => exact (hb x (List.mem_of_getElem? hx)).1
  have g0 := g 0; have g1 := g 1; have g2 := g 2; have g3 := g 3; have g4 := g 4; have g5 := g 5; have g6 := g 6; have g7 := g 7; have g8 := g 8; have g9 := g 9; have g10 := g 10; have g11 := g 11; have g12 := g 12; have g13 := g 13; have g14 := g 14; have g15 := g 15; have g16 := g 16
  unfold Made confV
  dsimp only
  split <;> split <;> split <;> omega
set_option maxHeartbeats 8000000 in
set_option maxRecDepth 20000 in
theorem walk (x0 : C) (a1 : Option Addr) (len1 cap1 : Nat) (z1 : List Int) (c2_0 : Int) (c2_1 : Int) (c2_2 : Int) (c2_3 : Int) (c2_4 : Int) (c2_5 : Int) (c2_6 : Int) (c2_7 : Int) (c2_8 : Int) (a3 : Int) (a4 : Int) (w : World) (f0 : Rng x0) (w1 : Ints .u32 w a1 z1) (n1 : z1.length = len1) (m1 : len1 ≤ cap1) (o1 : cap1 ≤ maxLen) (f1 : ∀ x ∈ z1, (Lit.int .u32 x).wf = true) (w2_0 : (Lit.int .u64 c2_0).wf = true) (w2_1 : (Lit.int .u64 c2_1).wf = true) (w2_2 : (Lit.int .u64 c2_2).wf = true) (w2_3 : (Lit.int .u64 c2_3).wf = true) (w2_4 : (Lit.int .u64 c2_4).wf = true) (w2_5 : (Lit.int .u64 c2_5).wf = true) (w2_6 : (Lit.int .u64 c2_6).wf = true) (w2_7 : (Lit.int .u64 c2_7).wf = true) (w2_8 : (Lit.int .u64 c2_8).wf = true) (w3 : (Lit.int .u64 a3).wf = true) (w4 : (Lit.int .u64 a4).wf = true) :
    Calls Try.prog 4 #[.agg #[.int .i64 x0.bits, .int .u64 x0.one, .int .i64 x0.ring, .int .u64 x0.limit, .int .i64 x0.room, .int .u64 x0.mss, .int .u64 x0.initial, .int .u64 x0.least, .int .u64 x0.most, .int .i64 x0.algo, .int .u64 x0.first, .int .u64 x0.grain, .int .u64 x0.cap, .int .u64 x0.burst, .int .u64 x0.slowest, .int .i64 x0.chal, .int .u64 x0.every], .slice a1 len1 cap1, .agg #[.int .u64 c2_0, .int .u64 c2_1, .int .u64 c2_2, .int .u64 c2_3, .int .u64 c2_4, .int .u64 c2_5, .int .u64 c2_6, .int .u64 c2_7, .int .u64 c2_8], .int .u64 a3, .int .u64 a4] w fun e w' => e = .returned (.bool true) ∧ Below w.heap.size w w' := by
  have hb : ∀ x ∈ z1, 0 ≤ x ∧ x ≤ 4294967295 := fun x hx => Base.u32_of (f1 x hx)
  have hs : KFit ⟨⟨c2_0, c2_1, c2_2, c2_3, c2_4, c2_5, c2_6⟩, ⟨c2_7, c2_8⟩⟩ := ⟨⟨Base.u64_of w2_0, Base.u64_of w2_1, Base.u64_of w2_2, Base.u64_of w2_3, Base.u64_of w2_4, Base.u64_of w2_5, Base.u64_of w2_6⟩, ⟨(Base.u64_of w2_7).1, (Base.u64_of w2_7).2, (Base.u64_of w2_8).1, (Base.u64_of w2_8).2⟩⟩
  have hc_x0 := rng_cfit f0
  have hp : U a3 := Base.u64_of w3
  have hn : U a4 := Base.u64_of w4
  have CA := fun V => alive_control V
  go_enter Try.func4, Try.ntmps4
  go_upto_region 1 with fail
  refine at_any ?_
  intro W hW
  obtain ⟨cB, sB, hL⟩ : Blk W w.heap.size (cc x0) 24 ∧ Blk W (w.heap.size + 1) (kc ⟨⟨c2_0, c2_1, c2_2, c2_3, c2_4, c2_5, c2_6⟩, ⟨c2_7, c2_8⟩⟩) 31 ∧ Below w.heap.size w W := by
    have h0 := Blk.new w #[.int .i64 x0.bits, .int .u64 x0.one, .int .i64 x0.ring, .int .u64 x0.limit, .int .i64 x0.room, .int .u64 x0.mss, .int .u64 x0.initial, .int .u64 x0.least, .int .u64 x0.most, .int .i64 x0.algo, .int .u64 x0.first, .int .u64 x0.grain, .int .u64 x0.cap, .int .u64 x0.burst, .int .u64 x0.slowest, .int .i64 x0.chal, .int .u64 x0.every] 24
    have h1 := Blk.new (w.alloc (.cells #[.int .i64 x0.bits, .int .u64 x0.one, .int .i64 x0.ring, .int .u64 x0.limit, .int .i64 x0.room, .int .u64 x0.mss, .int .u64 x0.initial, .int .u64 x0.least, .int .u64 x0.most, .int .i64 x0.algo, .int .u64 x0.first, .int .u64 x0.grain, .int .u64 x0.cap, .int .u64 x0.burst, .int .u64 x0.slowest, .int .i64 x0.chal, .int .u64 x0.every] 24)) #[.int .u64 c2_0, .int .u64 c2_1, .int .u64 c2_2, .int .u64 c2_3, .int .u64 c2_4, .int .u64 c2_5, .int .u64 c2_6, .int .u64 c2_7, .int .u64 c2_8] 31
    rw [World.size_alloc] at h1
    subst hW
    exact ⟨h0.alloc _, h1, ((Below.refl _ _).alloc (Nat.le_refl _) _).alloc (by simp) _⟩
  clear hW
  generalize (⟨⟨c2_0, c2_1, c2_2, c2_3, c2_4, c2_5, c2_6⟩, ⟨c2_7, c2_8⟩⟩ : Kc) = s0 at *
  generalize hsb : w.heap.size + 1 = b_sB at *
  go_upto_region 3 with (go_at_call 8; refine (CA W).mono ?_; rintro x' y1 ⟨rfl, L1⟩; replace cB := cB.below L1 cB.lt; replace sB := sB.below L1 sB.lt; replace hL := Base.next hL L1)
  obtain ⟨d, hd⟩ : ∃ d, d = confV z1 := ⟨_, rfl⟩
  have hm := made_conf hb
  rw [← hd] at hm
  have CF : ∀ p : In (Lt y1), Calls Try.prog 7 #[.slice a1 len1 cap1] p.w fun e w' => e = .returned (.agg (cc d)) ∧ Below p.w.heap.size p.w w' := fun p => (conf_is a1 len1 cap1 z1 p.w n1 (by omega) hb (Row.below w1 (Base.next hL p.h))).mono fun e w' ⟨c, he, _, hc, hl⟩ => ⟨by rw [he, hc, ← hd]; rfl, hl⟩
  clear hd
  refine wp_region_in (Lt y1) (Lt.drew y1) (by kernel_rfl) (by kernel_rfl) ?_
  repeat (first
    | go_big_quiet_skip
    | (go_big_quiet_want; first
      | (refine quiet_row (x := .tmp 5) (cs := cc x0) (in_some _) rfl (in_blk cB) Try.underlying24 rfl (by kernel_rfl) ?_; go_big_quiet_op; go_big_quiet_on)
      | (refine quiet_val (v := .agg (cc x0 ++ cc d)) (in_some _) (fun w _ => build_two (.tmp 23) (.tmp 25) rfl rfl rfl) ?_; go_big_quiet_op; go_big_quiet_on)
      | (go_big_quiet_op; first | go_big_quiet_on | go_big_quiet_call ((go_at_call 7; (with_reducible refine in_below (v := .agg (cc d)) ?_); with_reducible exact CF _)))))
  refine wpQuiet_nil ?_
  rintro y2 ⟨⟨_, hw2⟩, rfl⟩
  have L2 : Below y1.heap.size y1 y2 := hw2
  replace sB := sB.below L2 sB.lt
  replace hL := Base.next hL L2
  have hc_d := made_cfit hm
  clear CA CF cB L2 hw2 L1
  go_wp2
  go_loopw [27, 12, 13, 14, 15, 16, 17, 18, 19, 20] (fun i _ _ _ _ _ _ _ _ _ wr => ∃ k : Nat, k ≤ 2 ∧ i = .int .i64 k ∧ Blk wr b_sB (kc s0) 31 ∧ Below w.heap.size w wr) (fun i _ _ _ _ _ _ _ _ _ _ => 2 - (intOf i).toNat)
  case atStart => exact ⟨0, by omega, rfl, sB, hL⟩
  case round =>
    clear sB hL
    obtain ⟨k, hk, rfl, sB, hL⟩ := hrel
    have h3 : k = 0 ∨ k = 1 ∨ k = 2 := by omega
    rcases h3 with rfl | rfl | rfl
    · have C1 := fun V => loss_any x0 hc_x0 s0 hs a3 a4 hp hn V
      have C2 := fun V => ref_loss x0 hc_x0 s0 hs a3 a4 hp hn V
      have C3 := fun V => mark_any x0 hc_x0 s0 hs a3 a4 hp hn V
      have C4 := fun V => ref_mark x0 hc_x0 s0 hs a3 a4 hp hn V
      have C5 := fun V => fall_any x0 hc_x0 s0 hs V
      have C6 := fun V => ref_fall x0 hc_x0 s0 hs V
      generalize lossK x0 s0 a3 a4 10 14 = v1 at *
      generalize lossK x0 s0 a3 a4 16 17 = v2 at *
      generalize fallK x0 s0 = v3 at *
      generalize lossB x0 s0 a3 = lb at *
      replace C1 : ∀ V, Calls Try.prog 13 #[.agg (cc x0), .agg (kc s0), .int .u64 a3, .int .u64 a4] V fun e w' => e = .returned (.tuple #[.agg (kc v1), .bool lb]) ∧ Below V.heap.size V w' := C1
      replace C2 : ∀ V, Calls Try.prog 14 #[.agg (cc x0), .agg (kc s0), .int .u64 a3, .int .u64 a4] V fun e w' => e = .returned (.tuple #[.agg (kc v1), .bool lb]) ∧ Below V.heap.size V w' := C2
      replace C3 : ∀ V, Calls Try.prog 15 #[.agg (cc x0), .agg (kc s0), .int .u64 a3, .int .u64 a4] V fun e w' => e = .returned (.tuple #[.agg (kc v2), .bool lb]) ∧ Below V.heap.size V w' := C3
      replace C4 : ∀ V, Calls Try.prog 16 #[.agg (cc x0), .agg (kc s0), .int .u64 a3, .int .u64 a4] V fun e w' => e = .returned (.tuple #[.agg (kc v2), .bool lb]) ∧ Below V.heap.size V w' := C4
      replace C5 : ∀ V, Calls Try.prog 17 #[.agg (cc x0), .agg (kc s0)] V fun e w' => e = .returned (.agg (kc v3)) ∧ Below V.heap.size V w' := C5
      replace C6 : ∀ V, Calls Try.prog 18 #[.agg (cc x0), .agg (kc s0)] V fun e w' => e = .returned (.agg (kc v3)) ∧ Below V.heap.size V w' := C6
      go_upto_region 6 with (refine wpl_val (by kernel_rfl) (idx_0 (.tmp 26) (.tmp 27) rfl (c := x0) (d := d) rfl rfl) ?_)
      refine at_any ?_
      intro X hX
      obtain ⟨cB, sB', hL'⟩ : Blk X wr.heap.size (cc x0) 24 ∧ Blk X b_sB (kc s0) 31 ∧ Below w.heap.size w X := by
        subst hX
        exact ⟨Blk.new _ _ _, sB.alloc _, hL.alloc hL.size _⟩
      have hgt0 : b_sB < wr.heap.size := sB.lt
      have hge0 : w.heap.size ≤ wr.heap.size := hL.size
      clear hX sB hL
      have sB := sB'
      have hL := hL'
      clear sB' hL'
      generalize wr.heap.size = b_cB at *
      have lt_cB := cB.lt
      have lt_sB := sB.lt
      go_upto_region 7 with (first | (refine wpl_load_row (by kernel_rfl) 24 (.tmp 12) rfl b_cB rfl 24 (cc x0) (0, 0) _ cB Try.underlying24 rfl (by kernel_rfl) ?_) | (refine wpl_load_row (by kernel_rfl) 31 (.tmp 7) rfl b_sB rfl 31 (kc s0) (0, 0) _ sB Try.underlying31 rfl (by kernel_rfl) ?_) | (go_at_call 13; (with_reducible refine (C1 _).mono ?_); rintro x' y2 ⟨rfl, L2⟩; replace cB := cB.below L2 lt_cB; replace sB := sB.below L2 lt_sB; replace hL := Base.next hL L2; replace lt_cB := cB.lt; replace lt_sB := sB.lt) | (refine wpl_store_row rfl 31 (.tmp 13) (.tmp 36) rfl (Blk.new _ _ _) (kc v1) rfl rfl (by kernel_rfl) rfl (by simp [kc, Value.oneCell']) ?_))
      refine Base.at_any ?_
      intro X hX
      have hgt_pB_cB : b_cB < y2.heap.size := cB.lt
      have hgt_pB_sB : b_sB < y2.heap.size := sB.lt
      have hge_pB : w.heap.size ≤ y2.heap.size := hL.size
      obtain ⟨pB', cB', sB', hL'⟩ : Blk X y2.heap.size (kc v1) 31 ∧ Blk X b_cB (cc x0) 24 ∧ Blk X b_sB (kc s0) 31 ∧ Below w.heap.size w X := by
        subst hX
        exact ⟨(Blk.new _ _ _).setRow _, (cB.alloc _).otherRow (show _ ≠ _ by omega) _, (sB.alloc _).otherRow (show _ ≠ _ by omega) _, below_setRow' (hL.alloc hL.size _) hge_pB⟩
      clear hX cB sB hL
      clear lt_cB lt_sB
      generalize y2.heap.size = b_pB at *
      have pB := pB'
      have cB := cB'
      have sB := sB'
      have hL := hL'
      clear pB' cB' sB' hL'
      have lt_pB := pB.lt
      have lt_cB := cB.lt
      have lt_sB := sB.lt
      go_upto_region 8 with (first | (refine wpl_load_row (by kernel_rfl) 24 (.tmp 12) rfl b_cB rfl 24 (cc x0) (0, 0) _ cB Try.underlying24 rfl (by kernel_rfl) ?_) | (refine wpl_load_row (by kernel_rfl) 31 (.tmp 7) rfl b_sB rfl 31 (kc s0) (0, 0) _ sB Try.underlying31 rfl (by kernel_rfl) ?_) | (go_at_call 14; (with_reducible refine (C2 _).mono ?_); rintro x' y3 ⟨rfl, L3⟩; replace pB := pB.below L3 lt_pB; replace cB := cB.below L3 lt_cB; replace sB := sB.below L3 lt_sB; replace hL := Base.next hL L3; replace lt_pB := pB.lt; replace lt_cB := cB.lt; replace lt_sB := sB.lt) | (refine wpl_store_row rfl 31 (.tmp 15) (.tmp 44) rfl (Blk.new _ _ _) (kc v1) rfl rfl (by kernel_rfl) rfl (by simp [kc, Value.oneCell']) ?_))
      refine Base.at_any ?_
      intro X hX
      have hgt_rB_pB : b_pB < y3.heap.size := pB.lt
      have hgt_rB_cB : b_cB < y3.heap.size := cB.lt
      have hgt_rB_sB : b_sB < y3.heap.size := sB.lt
      have hge_rB : w.heap.size ≤ y3.heap.size := hL.size
      obtain ⟨rB', pB', cB', sB', hL'⟩ : Blk X y3.heap.size (kc v1) 31 ∧ Blk X b_pB (kc v1) 31 ∧ Blk X b_cB (cc x0) 24 ∧ Blk X b_sB (kc s0) 31 ∧ Below w.heap.size w X := by
        subst hX
        exact ⟨(Blk.new _ _ _).setRow _, (pB.alloc _).otherRow (show _ ≠ _ by omega) _, (cB.alloc _).otherRow (show _ ≠ _ by omega) _, (sB.alloc _).otherRow (show _ ≠ _ by omega) _, below_setRow' (hL.alloc hL.size _) hge_rB⟩
      clear hX pB cB sB hL
      clear lt_pB lt_cB lt_sB
      generalize y3.heap.size = b_rB at *
      have rB := rB'
      have pB := pB'
      have cB := cB'
      have sB := sB'
      have hL := hL'
      clear rB' pB' cB' sB' hL'
      have lt_rB := rB.lt
      have lt_pB := pB.lt
      have lt_cB := cB.lt
      have lt_sB := sB.lt
      go_upto_region 9 with (first | (refine wpl_load_row (by kernel_rfl) 24 (.tmp 12) rfl b_cB rfl 24 (cc x0) (0, 0) _ cB Try.underlying24 rfl (by kernel_rfl) ?_) | (refine wpl_load_row (by kernel_rfl) 31 (.tmp 7) rfl b_sB rfl 31 (kc s0) (0, 0) _ sB Try.underlying31 rfl (by kernel_rfl) ?_) | (go_at_call 15; (with_reducible refine (C3 _).mono ?_); rintro x' y4 ⟨rfl, L4⟩; replace rB := rB.below L4 lt_rB; replace pB := pB.below L4 lt_pB; replace cB := cB.below L4 lt_cB; replace sB := sB.below L4 lt_sB; replace hL := Base.next hL L4; replace lt_rB := rB.lt; replace lt_pB := pB.lt; replace lt_cB := cB.lt; replace lt_sB := sB.lt) | (refine wpl_store_row rfl 31 (.tmp 17) (.tmp 52) rfl (Blk.new _ _ _) (kc v2) rfl rfl (by kernel_rfl) rfl (by simp [kc, Value.oneCell']) ?_))
      refine Base.at_any ?_
      intro X hX
      have hgt_mB_rB : b_rB < y4.heap.size := rB.lt
      have hgt_mB_pB : b_pB < y4.heap.size := pB.lt
      have hgt_mB_cB : b_cB < y4.heap.size := cB.lt
      have hgt_mB_sB : b_sB < y4.heap.size := sB.lt
      have hge_mB : w.heap.size ≤ y4.heap.size := hL.size
      obtain ⟨mB', rB', pB', cB', sB', hL'⟩ : Blk X y4.heap.size (kc v2) 31 ∧ Blk X b_rB (kc v1) 31 ∧ Blk X b_pB (kc v1) 31 ∧ Blk X b_cB (cc x0) 24 ∧ Blk X b_sB (kc s0) 31 ∧ Below w.heap.size w X := by
        subst hX
        exact ⟨(Blk.new _ _ _).setRow _, (rB.alloc _).otherRow (show _ ≠ _ by omega) _, (pB.alloc _).otherRow (show _ ≠ _ by omega) _, (cB.alloc _).otherRow (show _ ≠ _ by omega) _, (sB.alloc _).otherRow (show _ ≠ _ by omega) _, below_setRow' (hL.alloc hL.size _) hge_mB⟩
      clear hX rB pB cB sB hL
      clear lt_rB lt_pB lt_cB lt_sB
      generalize y4.heap.size = b_mB at *
      have mB := mB'
      have rB := rB'
      have pB := pB'
      have cB := cB'
      have sB := sB'
      have hL := hL'
      clear mB' rB' pB' cB' sB' hL'
      have lt_mB := mB.lt
      have lt_rB := rB.lt
      have lt_pB := pB.lt
      have lt_cB := cB.lt
      have lt_sB := sB.lt
      go_upto_region 10 with (first | (refine wpl_load_row (by kernel_rfl) 24 (.tmp 12) rfl b_cB rfl 24 (cc x0) (0, 0) _ cB Try.underlying24 rfl (by kernel_rfl) ?_) | (refine wpl_load_row (by kernel_rfl) 31 (.tmp 7) rfl b_sB rfl 31 (kc s0) (0, 0) _ sB Try.underlying31 rfl (by kernel_rfl) ?_) | (go_at_call 16; (with_reducible refine (C4 _).mono ?_); rintro x' y5 ⟨rfl, L5⟩; replace mB := mB.below L5 lt_mB; replace rB := rB.below L5 lt_rB; replace pB := pB.below L5 lt_pB; replace cB := cB.below L5 lt_cB; replace sB := sB.below L5 lt_sB; replace hL := Base.next hL L5; replace lt_mB := mB.lt; replace lt_rB := rB.lt; replace lt_pB := pB.lt; replace lt_cB := cB.lt; replace lt_sB := sB.lt) | (refine wpl_store_row rfl 31 (.tmp 19) (.tmp 60) rfl (Blk.new _ _ _) (kc v2) rfl rfl (by kernel_rfl) rfl (by simp [kc, Value.oneCell']) ?_))
      refine Base.at_any ?_
      intro X hX
      have hgt_nB_mB : b_mB < y5.heap.size := mB.lt
      have hgt_nB_rB : b_rB < y5.heap.size := rB.lt
      have hgt_nB_pB : b_pB < y5.heap.size := pB.lt
      have hgt_nB_cB : b_cB < y5.heap.size := cB.lt
      have hgt_nB_sB : b_sB < y5.heap.size := sB.lt
      have hge_nB : w.heap.size ≤ y5.heap.size := hL.size
      obtain ⟨nB', mB', rB', pB', cB', sB', hL'⟩ : Blk X y5.heap.size (kc v2) 31 ∧ Blk X b_mB (kc v2) 31 ∧ Blk X b_rB (kc v1) 31 ∧ Blk X b_pB (kc v1) 31 ∧ Blk X b_cB (cc x0) 24 ∧ Blk X b_sB (kc s0) 31 ∧ Below w.heap.size w X := by
        subst hX
        exact ⟨(Blk.new _ _ _).setRow _, (mB.alloc _).otherRow (show _ ≠ _ by omega) _, (rB.alloc _).otherRow (show _ ≠ _ by omega) _, (pB.alloc _).otherRow (show _ ≠ _ by omega) _, (cB.alloc _).otherRow (show _ ≠ _ by omega) _, (sB.alloc _).otherRow (show _ ≠ _ by omega) _, below_setRow' (hL.alloc hL.size _) hge_nB⟩
      clear hX mB rB pB cB sB hL
      clear lt_mB lt_rB lt_pB lt_cB lt_sB
      generalize y5.heap.size = b_nB at *
      have nB := nB'
      have mB := mB'
      have rB := rB'
      have pB := pB'
      have cB := cB'
      have sB := sB'
      have hL := hL'
      clear nB' mB' rB' pB' cB' sB' hL'
      have lt_nB := nB.lt
      have lt_mB := mB.lt
      have lt_rB := rB.lt
      have lt_pB := pB.lt
      have lt_cB := cB.lt
      have lt_sB := sB.lt
      refine at_any ?_
      intro Y hY
      obtain ⟨nB', mB', rB', pB', cB', sB', hL'⟩ : Blk Y b_nB (kc v2) 31 ∧ Blk Y b_mB (kc v2) 31 ∧ Blk Y b_rB (kc v1) 31 ∧ Blk Y b_pB (kc v1) 31 ∧ Blk Y b_cB (cc x0) 24 ∧ Blk Y b_sB (kc s0) 31 ∧ Below w.heap.size w Y := by
        subst hY
        exact ⟨nB, mB, rB, pB, cB, sB, hL⟩
      clear hY nB mB rB pB cB sB hL
      clear lt_nB lt_mB lt_rB lt_pB lt_cB lt_sB
      refine wp_region_in (Lt Y) (Lt.drew Y) (by kernel_rfl) (by kernel_rfl) ?_
      go_big_quiet_want
      refine quiet_row (x := .tmp 13) (cs := (kc v1)) (in_some _) rfl (in_blk pB') Try.underlying31 rfl (by kernel_rfl) ?_
      go_big_quiet_op
      go_big_quiet_on
      go_big_quiet_want
      refine quiet_row (x := .tmp 15) (cs := (kc v1)) (in_some _) rfl (in_blk rB') Try.underlying31 rfl (by kernel_rfl) ?_
      go_big_quiet_op
      go_big_quiet_on
      go_big_quiet_want
      refine quiet_val (v := .bool false) (in_some _) (fun w _ => ne_kc (s := v1) (.tmp 62) (.tmp 63) rfl (by kernel_rfl) (by kernel_rfl)) ?_
      go_big_quiet_op
      go_big_quiet_on
      go_big_quiet_want
      go_big_quiet_op
      go_big_quiet_on
      go_big_quiet_want
      go_big_quiet_op
      go_big_quiet_on
      go_big_quiet_want
      go_big_quiet_op
      go_big_quiet_on
      go_big_quiet_want
      go_big_quiet_op
      go_big_quiet_on
      go_big_quiet_want
      go_big_quiet_op
      go_big_quiet_on
      go_big_quiet_want
      go_big_quiet_op
      go_big_quiet_on
      go_big_quiet_want
      refine quiet_row (x := .tmp 17) (cs := (kc v2)) (in_some _) rfl (in_blk mB') Try.underlying31 rfl (by kernel_rfl) ?_
      go_big_quiet_op
      go_big_quiet_on
      go_big_quiet_want
      refine quiet_row (x := .tmp 19) (cs := (kc v2)) (in_some _) rfl (in_blk nB') Try.underlying31 rfl (by kernel_rfl) ?_
      go_big_quiet_op
      go_big_quiet_on
      go_big_quiet_want
      refine quiet_val (v := .bool false) (in_some _) (fun w _ => ne_kc (s := v2) (.tmp 71) (.tmp 72) rfl (by kernel_rfl) (by kernel_rfl)) ?_
      go_big_quiet_op
      go_big_quiet_on
      go_big_quiet_want
      go_big_quiet_op
      go_big_quiet_on
      go_big_quiet_want
      go_big_quiet_op
      go_big_quiet_on
      go_big_quiet_want
      go_big_quiet_op
      go_big_quiet_on
      go_big_quiet_want
      go_big_quiet_op
      go_big_quiet_on
      go_big_quiet_want
      go_big_quiet_op
      go_big_quiet_on
      go_big_quiet_want
      go_big_quiet_op
      go_big_quiet_on
      go_big_quiet_want
      go_big_quiet_op
      go_big_quiet_on
      go_big_quiet_want
      refine quiet_row (x := .tmp 12) (cs := (cc x0)) (in_some _) rfl (in_blk cB') Try.underlying24 rfl (by kernel_rfl) ?_
      go_big_quiet_op
      go_big_quiet_on
      go_big_quiet_want
      refine quiet_row (x := .tmp 7) (cs := (kc s0)) (in_some _) rfl (in_blk sB') Try.underlying31 rfl (by kernel_rfl) ?_
      go_big_quiet_op
      go_big_quiet_on
      go_big_quiet_want
      go_big_quiet_op
      go_big_quiet_call ((go_at_call 17; (with_reducible refine in_below (v := .agg (kc v3)) ?_); with_reducible exact C5 _))
      go_big_quiet_want
      refine quiet_row (x := .tmp 12) (cs := (cc x0)) (in_some _) rfl (in_blk cB') Try.underlying24 rfl (by kernel_rfl) ?_
      go_big_quiet_op
      go_big_quiet_on
      go_big_quiet_want
      refine quiet_row (x := .tmp 7) (cs := (kc s0)) (in_some _) rfl (in_blk sB') Try.underlying31 rfl (by kernel_rfl) ?_
      go_big_quiet_op
      go_big_quiet_on
      go_big_quiet_want
      go_big_quiet_op
      go_big_quiet_call ((go_at_call 18; (with_reducible refine in_below (v := .agg (kc v3)) ?_); with_reducible exact C6 _))
      go_big_quiet_want
      refine quiet_val (v := .bool false) (in_some _) (fun w _ => ne_kc (s := v3) (.tmp 83) (.tmp 86) rfl (by kernel_rfl) (by kernel_rfl)) ?_
      go_big_quiet_op
      go_big_quiet_on
      go_big_quiet_want
      go_big_quiet_op
      go_big_quiet_on
      refine wpQuiet_nil ?_
      rintro u2 ⟨⟨_, hw2⟩, rfl⟩
      have hw2 : Below Y.heap.size Y u2 := hw2
      have sB := sB'.below hw2 sB'.lt
      have hL := Base.next hL' hw2
      go_wp2
      all_goals go_roundw
      case rel => exact ⟨1, by omega, rfl, sB, hL⟩
      case measure => simp [intOf]
    · have C1 := fun V => loss_any d hc_d s0 hs a3 a4 hp hn V
      have C2 := fun V => ref_loss d hc_d s0 hs a3 a4 hp hn V
      have C3 := fun V => mark_any d hc_d s0 hs a3 a4 hp hn V
      have C4 := fun V => ref_mark d hc_d s0 hs a3 a4 hp hn V
      have C5 := fun V => fall_any d hc_d s0 hs V
      have C6 := fun V => ref_fall d hc_d s0 hs V
      generalize lossK d s0 a3 a4 10 14 = v1 at *
      generalize lossK d s0 a3 a4 16 17 = v2 at *
      generalize fallK d s0 = v3 at *
      generalize lossB d s0 a3 = lb at *
      replace C1 : ∀ V, Calls Try.prog 13 #[.agg (cc d), .agg (kc s0), .int .u64 a3, .int .u64 a4] V fun e w' => e = .returned (.tuple #[.agg (kc v1), .bool lb]) ∧ Below V.heap.size V w' := C1
      replace C2 : ∀ V, Calls Try.prog 14 #[.agg (cc d), .agg (kc s0), .int .u64 a3, .int .u64 a4] V fun e w' => e = .returned (.tuple #[.agg (kc v1), .bool lb]) ∧ Below V.heap.size V w' := C2
      replace C3 : ∀ V, Calls Try.prog 15 #[.agg (cc d), .agg (kc s0), .int .u64 a3, .int .u64 a4] V fun e w' => e = .returned (.tuple #[.agg (kc v2), .bool lb]) ∧ Below V.heap.size V w' := C3
      replace C4 : ∀ V, Calls Try.prog 16 #[.agg (cc d), .agg (kc s0), .int .u64 a3, .int .u64 a4] V fun e w' => e = .returned (.tuple #[.agg (kc v2), .bool lb]) ∧ Below V.heap.size V w' := C4
      replace C5 : ∀ V, Calls Try.prog 17 #[.agg (cc d), .agg (kc s0)] V fun e w' => e = .returned (.agg (kc v3)) ∧ Below V.heap.size V w' := C5
      replace C6 : ∀ V, Calls Try.prog 18 #[.agg (cc d), .agg (kc s0)] V fun e w' => e = .returned (.agg (kc v3)) ∧ Below V.heap.size V w' := C6
      go_upto_region 6 with (refine wpl_val (by kernel_rfl) (idx_1 (.tmp 26) (.tmp 27) rfl (c := x0) (d := d) rfl rfl) ?_)
      refine at_any ?_
      intro X hX
      obtain ⟨cB, sB', hL'⟩ : Blk X wr.heap.size (cc d) 24 ∧ Blk X b_sB (kc s0) 31 ∧ Below w.heap.size w X := by
        subst hX
        exact ⟨Blk.new _ _ _, sB.alloc _, hL.alloc hL.size _⟩
      have hgt0 : b_sB < wr.heap.size := sB.lt
      have hge0 : w.heap.size ≤ wr.heap.size := hL.size
      clear hX sB hL
      have sB := sB'
      have hL := hL'
      clear sB' hL'
      generalize wr.heap.size = b_cB at *
      have lt_cB := cB.lt
      have lt_sB := sB.lt
      go_upto_region 7 with (first | (refine wpl_load_row (by kernel_rfl) 24 (.tmp 12) rfl b_cB rfl 24 (cc d) (0, 0) _ cB Try.underlying24 rfl (by kernel_rfl) ?_) | (refine wpl_load_row (by kernel_rfl) 31 (.tmp 7) rfl b_sB rfl 31 (kc s0) (0, 0) _ sB Try.underlying31 rfl (by kernel_rfl) ?_) | (go_at_call 13; (with_reducible refine (C1 _).mono ?_); rintro x' y2 ⟨rfl, L2⟩; replace cB := cB.below L2 lt_cB; replace sB := sB.below L2 lt_sB; replace hL := Base.next hL L2; replace lt_cB := cB.lt; replace lt_sB := sB.lt) | (refine wpl_store_row rfl 31 (.tmp 13) (.tmp 36) rfl (Blk.new _ _ _) (kc v1) rfl rfl (by kernel_rfl) rfl (by simp [kc, Value.oneCell']) ?_))
      refine Base.at_any ?_
      intro X hX
      have hgt_pB_cB : b_cB < y2.heap.size := cB.lt
      have hgt_pB_sB : b_sB < y2.heap.size := sB.lt
      have hge_pB : w.heap.size ≤ y2.heap.size := hL.size
      obtain ⟨pB', cB', sB', hL'⟩ : Blk X y2.heap.size (kc v1) 31 ∧ Blk X b_cB (cc d) 24 ∧ Blk X b_sB (kc s0) 31 ∧ Below w.heap.size w X := by
        subst hX
        exact ⟨(Blk.new _ _ _).setRow _, (cB.alloc _).otherRow (show _ ≠ _ by omega) _, (sB.alloc _).otherRow (show _ ≠ _ by omega) _, below_setRow' (hL.alloc hL.size _) hge_pB⟩
      clear hX cB sB hL
      clear lt_cB lt_sB
      generalize y2.heap.size = b_pB at *
      have pB := pB'
      have cB := cB'
      have sB := sB'
      have hL := hL'
      clear pB' cB' sB' hL'
      have lt_pB := pB.lt
      have lt_cB := cB.lt
      have lt_sB := sB.lt
      go_upto_region 8 with (first | (refine wpl_load_row (by kernel_rfl) 24 (.tmp 12) rfl b_cB rfl 24 (cc d) (0, 0) _ cB Try.underlying24 rfl (by kernel_rfl) ?_) | (refine wpl_load_row (by kernel_rfl) 31 (.tmp 7) rfl b_sB rfl 31 (kc s0) (0, 0) _ sB Try.underlying31 rfl (by kernel_rfl) ?_) | (go_at_call 14; (with_reducible refine (C2 _).mono ?_); rintro x' y3 ⟨rfl, L3⟩; replace pB := pB.below L3 lt_pB; replace cB := cB.below L3 lt_cB; replace sB := sB.below L3 lt_sB; replace hL := Base.next hL L3; replace lt_pB := pB.lt; replace lt_cB := cB.lt; replace lt_sB := sB.lt) | (refine wpl_store_row rfl 31 (.tmp 15) (.tmp 44) rfl (Blk.new _ _ _) (kc v1) rfl rfl (by kernel_rfl) rfl (by simp [kc, Value.oneCell']) ?_))
      refine Base.at_any ?_
      intro X hX
      have hgt_rB_pB : b_pB < y3.heap.size := pB.lt
      have hgt_rB_cB : b_cB < y3.heap.size := cB.lt
      have hgt_rB_sB : b_sB < y3.heap.size := sB.lt
      have hge_rB : w.heap.size ≤ y3.heap.size := hL.size
      obtain ⟨rB', pB', cB', sB', hL'⟩ : Blk X y3.heap.size (kc v1) 31 ∧ Blk X b_pB (kc v1) 31 ∧ Blk X b_cB (cc d) 24 ∧ Blk X b_sB (kc s0) 31 ∧ Below w.heap.size w X := by
        subst hX
        exact ⟨(Blk.new _ _ _).setRow _, (pB.alloc _).otherRow (show _ ≠ _ by omega) _, (cB.alloc _).otherRow (show _ ≠ _ by omega) _, (sB.alloc _).otherRow (show _ ≠ _ by omega) _, below_setRow' (hL.alloc hL.size _) hge_rB⟩
      clear hX pB cB sB hL
      clear lt_pB lt_cB lt_sB
      generalize y3.heap.size = b_rB at *
      have rB := rB'
      have pB := pB'
      have cB := cB'
      have sB := sB'
      have hL := hL'
      clear rB' pB' cB' sB' hL'
      have lt_rB := rB.lt
      have lt_pB := pB.lt
      have lt_cB := cB.lt
      have lt_sB := sB.lt
      go_upto_region 9 with (first | (refine wpl_load_row (by kernel_rfl) 24 (.tmp 12) rfl b_cB rfl 24 (cc d) (0, 0) _ cB Try.underlying24 rfl (by kernel_rfl) ?_) | (refine wpl_load_row (by kernel_rfl) 31 (.tmp 7) rfl b_sB rfl 31 (kc s0) (0, 0) _ sB Try.underlying31 rfl (by kernel_rfl) ?_) | (go_at_call 15; (with_reducible refine (C3 _).mono ?_); rintro x' y4 ⟨rfl, L4⟩; replace rB := rB.below L4 lt_rB; replace pB := pB.below L4 lt_pB; replace cB := cB.below L4 lt_cB; replace sB := sB.below L4 lt_sB; replace hL := Base.next hL L4; replace lt_rB := rB.lt; replace lt_pB := pB.lt; replace lt_cB := cB.lt; replace lt_sB := sB.lt) | (refine wpl_store_row rfl 31 (.tmp 17) (.tmp 52) rfl (Blk.new _ _ _) (kc v2) rfl rfl (by kernel_rfl) rfl (by simp [kc, Value.oneCell']) ?_))
      refine Base.at_any ?_
      intro X hX
      have hgt_mB_rB : b_rB < y4.heap.size := rB.lt
      have hgt_mB_pB : b_pB < y4.heap.size := pB.lt
      have hgt_mB_cB : b_cB < y4.heap.size := cB.lt
      have hgt_mB_sB : b_sB < y4.heap.size := sB.lt
      have hge_mB : w.heap.size ≤ y4.heap.size := hL.size
      obtain ⟨mB', rB', pB', cB', sB', hL'⟩ : Blk X y4.heap.size (kc v2) 31 ∧ Blk X b_rB (kc v1) 31 ∧ Blk X b_pB (kc v1) 31 ∧ Blk X b_cB (cc d) 24 ∧ Blk X b_sB (kc s0) 31 ∧ Below w.heap.size w X := by
        subst hX
        exact ⟨(Blk.new _ _ _).setRow _, (rB.alloc _).otherRow (show _ ≠ _ by omega) _, (pB.alloc _).otherRow (show _ ≠ _ by omega) _, (cB.alloc _).otherRow (show _ ≠ _ by omega) _, (sB.alloc _).otherRow (show _ ≠ _ by omega) _, below_setRow' (hL.alloc hL.size _) hge_mB⟩
      clear hX rB pB cB sB hL
      clear lt_rB lt_pB lt_cB lt_sB
      generalize y4.heap.size = b_mB at *
      have mB := mB'
      have rB := rB'
      have pB := pB'
      have cB := cB'
      have sB := sB'
      have hL := hL'
      clear mB' rB' pB' cB' sB' hL'
      have lt_mB := mB.lt
      have lt_rB := rB.lt
      have lt_pB := pB.lt
      have lt_cB := cB.lt
      have lt_sB := sB.lt
      go_upto_region 10 with (first | (refine wpl_load_row (by kernel_rfl) 24 (.tmp 12) rfl b_cB rfl 24 (cc d) (0, 0) _ cB Try.underlying24 rfl (by kernel_rfl) ?_) | (refine wpl_load_row (by kernel_rfl) 31 (.tmp 7) rfl b_sB rfl 31 (kc s0) (0, 0) _ sB Try.underlying31 rfl (by kernel_rfl) ?_) | (go_at_call 16; (with_reducible refine (C4 _).mono ?_); rintro x' y5 ⟨rfl, L5⟩; replace mB := mB.below L5 lt_mB; replace rB := rB.below L5 lt_rB; replace pB := pB.below L5 lt_pB; replace cB := cB.below L5 lt_cB; replace sB := sB.below L5 lt_sB; replace hL := Base.next hL L5; replace lt_mB := mB.lt; replace lt_rB := rB.lt; replace lt_pB := pB.lt; replace lt_cB := cB.lt; replace lt_sB := sB.lt) | (refine wpl_store_row rfl 31 (.tmp 19) (.tmp 60) rfl (Blk.new _ _ _) (kc v2) rfl rfl (by kernel_rfl) rfl (by simp [kc, Value.oneCell']) ?_))
      refine Base.at_any ?_
      intro X hX
      have hgt_nB_mB : b_mB < y5.heap.size := mB.lt
      have hgt_nB_rB : b_rB < y5.heap.size := rB.lt
      have hgt_nB_pB : b_pB < y5.heap.size := pB.lt
      have hgt_nB_cB : b_cB < y5.heap.size := cB.lt
      have hgt_nB_sB : b_sB < y5.heap.size := sB.lt
      have hge_nB : w.heap.size ≤ y5.heap.size := hL.size
      obtain ⟨nB', mB', rB', pB', cB', sB', hL'⟩ : Blk X y5.heap.size (kc v2) 31 ∧ Blk X b_mB (kc v2) 31 ∧ Blk X b_rB (kc v1) 31 ∧ Blk X b_pB (kc v1) 31 ∧ Blk X b_cB (cc d) 24 ∧ Blk X b_sB (kc s0) 31 ∧ Below w.heap.size w X := by
        subst hX
        exact ⟨(Blk.new _ _ _).setRow _, (mB.alloc _).otherRow (show _ ≠ _ by omega) _, (rB.alloc _).otherRow (show _ ≠ _ by omega) _, (pB.alloc _).otherRow (show _ ≠ _ by omega) _, (cB.alloc _).otherRow (show _ ≠ _ by omega) _, (sB.alloc _).otherRow (show _ ≠ _ by omega) _, below_setRow' (hL.alloc hL.size _) hge_nB⟩
      clear hX mB rB pB cB sB hL
      clear lt_mB lt_rB lt_pB lt_cB lt_sB
      generalize y5.heap.size = b_nB at *
      have nB := nB'
      have mB := mB'
      have rB := rB'
      have pB := pB'
      have cB := cB'
      have sB := sB'
      have hL := hL'
      clear nB' mB' rB' pB' cB' sB' hL'
      have lt_nB := nB.lt
      have lt_mB := mB.lt
      have lt_rB := rB.lt
      have lt_pB := pB.lt
      have lt_cB := cB.lt
      have lt_sB := sB.lt
      refine at_any ?_
      intro Y hY
      obtain ⟨nB', mB', rB', pB', cB', sB', hL'⟩ : Blk Y b_nB (kc v2) 31 ∧ Blk Y b_mB (kc v2) 31 ∧ Blk Y b_rB (kc v1) 31 ∧ Blk Y b_pB (kc v1) 31 ∧ Blk Y b_cB (cc d) 24 ∧ Blk Y b_sB (kc s0) 31 ∧ Below w.heap.size w Y := by
        subst hY
        exact ⟨nB, mB, rB, pB, cB, sB, hL⟩
      clear hY nB mB rB pB cB sB hL
      clear lt_nB lt_mB lt_rB lt_pB lt_cB lt_sB
      refine wp_region_in (Lt Y) (Lt.drew Y) (by kernel_rfl) (by kernel_rfl) ?_
      go_big_quiet_want
      refine quiet_row (x := .tmp 13) (cs := (kc v1)) (in_some _) rfl (in_blk pB') Try.underlying31 rfl (by kernel_rfl) ?_
      go_big_quiet_op
      go_big_quiet_on
      go_big_quiet_want
      refine quiet_row (x := .tmp 15) (cs := (kc v1)) (in_some _) rfl (in_blk rB') Try.underlying31 rfl (by kernel_rfl) ?_
      go_big_quiet_op
      go_big_quiet_on
      go_big_quiet_want
      refine quiet_val (v := .bool false) (in_some _) (fun w _ => ne_kc (s := v1) (.tmp 62) (.tmp 63) rfl (by kernel_rfl) (by kernel_rfl)) ?_
      go_big_quiet_op
      go_big_quiet_on
      go_big_quiet_want
      go_big_quiet_op
      go_big_quiet_on
      go_big_quiet_want
      go_big_quiet_op
      go_big_quiet_on
      go_big_quiet_want
      go_big_quiet_op
      go_big_quiet_on
      go_big_quiet_want
      go_big_quiet_op
      go_big_quiet_on
      go_big_quiet_want
      go_big_quiet_op
      go_big_quiet_on
      go_big_quiet_want
      go_big_quiet_op
      go_big_quiet_on
      go_big_quiet_want
      refine quiet_row (x := .tmp 17) (cs := (kc v2)) (in_some _) rfl (in_blk mB') Try.underlying31 rfl (by kernel_rfl) ?_
      go_big_quiet_op
      go_big_quiet_on
      go_big_quiet_want
      refine quiet_row (x := .tmp 19) (cs := (kc v2)) (in_some _) rfl (in_blk nB') Try.underlying31 rfl (by kernel_rfl) ?_
      go_big_quiet_op
      go_big_quiet_on
      go_big_quiet_want
      refine quiet_val (v := .bool false) (in_some _) (fun w _ => ne_kc (s := v2) (.tmp 71) (.tmp 72) rfl (by kernel_rfl) (by kernel_rfl)) ?_
      go_big_quiet_op
      go_big_quiet_on
      go_big_quiet_want
      go_big_quiet_op
      go_big_quiet_on
      go_big_quiet_want
      go_big_quiet_op
      go_big_quiet_on
      go_big_quiet_want
      go_big_quiet_op
      go_big_quiet_on
      go_big_quiet_want
      go_big_quiet_op
      go_big_quiet_on
      go_big_quiet_want
      go_big_quiet_op
      go_big_quiet_on
      go_big_quiet_want
      go_big_quiet_op
      go_big_quiet_on
      go_big_quiet_want
      go_big_quiet_op
      go_big_quiet_on
      go_big_quiet_want
      refine quiet_row (x := .tmp 12) (cs := (cc d)) (in_some _) rfl (in_blk cB') Try.underlying24 rfl (by kernel_rfl) ?_
      go_big_quiet_op
      go_big_quiet_on
      go_big_quiet_want
      refine quiet_row (x := .tmp 7) (cs := (kc s0)) (in_some _) rfl (in_blk sB') Try.underlying31 rfl (by kernel_rfl) ?_
      go_big_quiet_op
      go_big_quiet_on
      go_big_quiet_want
      go_big_quiet_op
      go_big_quiet_call ((go_at_call 17; (with_reducible refine in_below (v := .agg (kc v3)) ?_); with_reducible exact C5 _))
      go_big_quiet_want
      refine quiet_row (x := .tmp 12) (cs := (cc d)) (in_some _) rfl (in_blk cB') Try.underlying24 rfl (by kernel_rfl) ?_
      go_big_quiet_op
      go_big_quiet_on
      go_big_quiet_want
      refine quiet_row (x := .tmp 7) (cs := (kc s0)) (in_some _) rfl (in_blk sB') Try.underlying31 rfl (by kernel_rfl) ?_
      go_big_quiet_op
      go_big_quiet_on
      go_big_quiet_want
      go_big_quiet_op
      go_big_quiet_call ((go_at_call 18; (with_reducible refine in_below (v := .agg (kc v3)) ?_); with_reducible exact C6 _))
      go_big_quiet_want
      refine quiet_val (v := .bool false) (in_some _) (fun w _ => ne_kc (s := v3) (.tmp 83) (.tmp 86) rfl (by kernel_rfl) (by kernel_rfl)) ?_
      go_big_quiet_op
      go_big_quiet_on
      go_big_quiet_want
      go_big_quiet_op
      go_big_quiet_on
      refine wpQuiet_nil ?_
      rintro u2 ⟨⟨_, hw2⟩, rfl⟩
      have hw2 : Below Y.heap.size Y u2 := hw2
      have sB := sB'.below hw2 sB'.lt
      have hL := Base.next hL' hw2
      go_wp2
      all_goals go_roundw
      case rel => exact ⟨2, by omega, rfl, sB, hL⟩
      case measure => simp [intOf]
    · go_wp2
      go_ret
      exact ⟨rfl, hL⟩

set_option maxRecDepth 100000 in
theorem lifted (os : Os) (started : os.Started) (H : Type) (enc : TypeId × Value → H) :
    ReturnsInHanded {} Try.checked os 4 .any (Rows.controlCutsSpec.pre6 enc Try.prog Try.f4 Rows.controlCutsRow.domain false) (Rows.controlCutsSpec.post enc Try.prog Try.f4 false true false false) := by
  refine returnsInHanded_of_change (C := Try.checked) own started (by kernel_rfl) Try.func4
    (ChangeSpec.witness6 (enc := enc) (C := Try.checked) false ⟨#[], #[.agg #[.int .i64 0, .int .u64 0, .int .i64 0, .int .u64 0, .int .i64 0, .int .u64 0, .int .u64 0, .int .u64 0, .int .u64 0, .int .i64 0, .int .u64 0, .int .u64 0, .int .u64 0, .int .u64 0, .int .u64 0, .int .i64 0, .int .u64 0], .slice none 0 0, .agg #[.int .u64 0, .int .u64 0, .int .u64 0, .int .u64 0, .int .u64 0, .int .u64 0, .int .u64 0, .int .u64 0, .int .u64 0], .int .u64 0, .int .u64 0], []⟩ 8 (by kernel_rfl) (by kernel_rfl) (by kernel_rfl) (by kernel_rfl)) ?_
  intro W base args ds gs before hval0 hW hcnd _
  have hval : ∀ (j : Nat) t v, Try.f4.params[j]? = some t → args[j]? = some v → Value.okWide Try.prog W .any base t v := hval0
  have hW' := hW
  obtain ⟨p, q, hA0, hV, rfl, hfz, hnd⟩ := hW
  have hA : DataW.TrodAll enc Try.prog W 0 (fun _ => true) true Try.f4.params.toList args.toList ds p := hA0
  rw [Try.params4] at hA hval
  obtain ⟨v0, vs0, d0, ds0, p0, q0, hargs, rfl, rfl, h0, r0⟩ := trodAll_cons hA
  obtain ⟨v1, vs1, d1, ds1, p1, q1, rfl, rfl, rfl, h1, r1⟩ := trodAll_cons r0
  obtain ⟨v2, vs2, d2, ds2, p2, q2, rfl, rfl, rfl, h2, r2⟩ := trodAll_cons r1
  obtain ⟨v3, vs3, d3, ds3, p3, q3, rfl, rfl, rfl, h3, r3⟩ := trodAll_cons r2
  obtain ⟨v4, vs4, d4, ds4, p4, q4, rfl, rfl, rfl, h4, r4⟩ := trodAll_cons r3
  obtain ⟨rfl, rfl, rfl⟩ := trodAll_nil r4
  obtain rfl : args = #[v0, v1, v2, v3, v4] := by cases args; simp_all
  obtain ⟨rfl, rfl⟩ := trodVars_none hV
  have k0 := h0
  have lt0 : ∀ x ∈ p0, x.block < W.heap.size := by obtain ⟨m, hm⟩ := k0; exact DataW.trod_lt m _ _ _ hm
  obtain ⟨x0, rfl, f0⟩ := open_config Try.underlying24 (by kernel_rfl) (by kernel_rfl) Try.underlying3 Try.underlying22 Try.underlying3 Try.underlying22 Try.underlying3 Try.underlying22 Try.underlying22 Try.underlying22 Try.underlying22 Try.underlying3 Try.underlying22 Try.underlying22 Try.underlying22 Try.underlying22 Try.underlying22 Try.underlying3 Try.underlying22 (hval 0 24 v0 rfl rfl) h0
  obtain ⟨a1, len1, cap1, rfl⟩ := okWide_slice Try.underlying25 (hval 1 25 v1 rfl rfl)
  have k1 := h1
  have lt1 : ∀ x ∈ p1, x.block < W.heap.size := by obtain ⟨m, hm⟩ := k1; exact DataW.trod_lt m _ _ _ hm
  obtain ⟨z1, w1, n1, m1, o1, f1⟩ : ∃ zs, Ints .u32 W a1 zs ∧ zs.length = len1 ∧ len1 ≤ cap1 ∧ cap1 ≤ maxLen ∧ (∀ x ∈ zs, (Lit.int .u32 x).wf = true) := by
    obtain ⟨fuel, hf⟩ := h1
    rcases open_ints Try.underlying25 Try.underlying49 (by kernel_rfl) hf with ⟨hcs, hx⟩ | ⟨x, l, c, zs, hcs, _, hl, hm, hz, hx, hcell, hwz⟩
    · simp [Value.cells] at hcs
      obtain ⟨rfl, rfl, rfl⟩ := hcs
      exact ⟨[], Row.nil _ _, rfl, Nat.le_refl _, Nat.zero_le _, (fun _ h => by cases h)⟩
    · simp [Value.cells] at hcs
      obtain ⟨rfl, rfl, rfl⟩ := hcs
      exact ⟨zs.take len1, ints_of hl (by simpa using hz) hcell, take_len hl (by simpa using hz), hl, hm, (fun x hx => hwz x (List.mem_of_mem_take hx))⟩
  have k2 := h2
  have lt2 : ∀ x ∈ p2, x.block < W.heap.size := by obtain ⟨m, hm⟩ := k2; exact DataW.trod_lt m _ _ _ hm
  obtain ⟨cs2, rfl, fl2⟩ := open_flat Try.underlying31 (show leaf Try.prog 6 31 = some [.int .u64, .int .u64, .int .u64, .int .u64, .int .u64, .int .u64, .int .u64, .int .u64, .int .u64] by kernel_rfl) (hval 2 31 v2 rfl rfl) h2
  obtain ⟨c2_0, us2, rfl, w2_0, fl2⟩ := fl2.int_
  obtain ⟨c2_1, us2, rfl, w2_1, fl2⟩ := fl2.int_
  obtain ⟨c2_2, us2, rfl, w2_2, fl2⟩ := fl2.int_
  obtain ⟨c2_3, us2, rfl, w2_3, fl2⟩ := fl2.int_
  obtain ⟨c2_4, us2, rfl, w2_4, fl2⟩ := fl2.int_
  obtain ⟨c2_5, us2, rfl, w2_5, fl2⟩ := fl2.int_
  obtain ⟨c2_6, us2, rfl, w2_6, fl2⟩ := fl2.int_
  obtain ⟨c2_7, us2, rfl, w2_7, fl2⟩ := fl2.int_
  obtain ⟨c2_8, us2, rfl, w2_8, fl2⟩ := fl2.int_
  obtain rfl := fl2.nil_
  obtain ⟨a3, rfl, rfl, rfl, w3⟩ := open_int Try.underlying22 (hval 3 22 v3 rfl rfl) h3
  obtain ⟨a4, rfl, rfl, rfl, w4⟩ := open_int Try.underlying22 (hval 4 22 v4 rfl rfl) h4
  clear hA0 hval0
  refine (walk x0 a1 len1 cap1 z1 c2_0 c2_1 c2_2 c2_3 c2_4 c2_5 c2_6 c2_7 c2_8 a3 a4 W f0 w1 n1 m1 o1 f1 w2_0 w2_1 w2_2 w2_3 w2_4 w2_5 w2_6 w2_7 w2_8 w3 w4).mono fun e W' ⟨he, bel⟩ => ?_
  subst he
  exact ⟨_, rfl, _, _, _, [], _, [], hW', trodAll_mk1 (shut_bool Try.underlying4 _), (trodAll_cons_mk (Below.trod laidOut (by kernel_rfl) (of_decide_eq_true (by kernel_rfl)) k0 bel lt0) (trodAll_cons_mk (Below.trod laidOut (by kernel_rfl) (of_decide_eq_true (by kernel_rfl)) k1 bel lt1) (trodAll_cons_mk (Below.trod laidOut (by kernel_rfl) (of_decide_eq_true (by kernel_rfl)) k2 bel lt2) (trodAll_cons_mk (shut_int Try.underlying22 w3) (trodAll_cons_mk (shut_int Try.underlying22 w4) trodAll_mk0))))), rfl, bel.frame _, fun h => by cases h⟩

theorem over : Rows.controlCutsRow.holds Try.pinned (OpenSpec.ofChange Rows.controlCutsSpec) :=
  OpenClaim.holds_of_wide 4 Try.f4 rfl rfl rfl rfl rfl rfl rfl ⟨rfl, rfl, rfl, rfl, rfl⟩ rfl rfl rfl rfl rfl (by kernel_rfl) Try.func4 (by kernel_rfl)
    (of_decide_eq_true (by kernel_rfl)) (by unfold Func.isWrapper; first | (rw [if_pos (by decide +kernel)]; kernel_rfl) | (rw [if_neg (by decide +kernel)]; exact ⟨rfl, rfl⟩))
    (fun os started H enc _ => lifted os started H enc)

/-- The given statement. -/
theorem proved : Rows.ControlCutsSaid :=
  over
#print axioms proved
end Go.Proofs.Ytnnpklnhdfpnjaa.controlCuts
