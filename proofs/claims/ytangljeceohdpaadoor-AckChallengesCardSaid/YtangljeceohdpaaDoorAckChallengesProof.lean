/-
  Any number's challenge, and what any bytes are as one, are as the document defines them. No conditions beside the table of math/bits, which the card ties to the program's text.
-/
import Derived.SizedLaws
import Derived.Test.YtangljeceohdpaaDoorTab
import Derived.Test.YtangljeceohdpaaDoorCards
import Derived.Test.YtangljeceohdpaaDoorTie
import Derived.SevenTiedAt
import Derived.Handed
import Derived.Test.YtangljeceohdpaaDoorRows
import Derived.Test.YtangljeceohdpaaDoorRow
import Derived.WalkKit
import Derived.ProofKit
import Derived.OpenShut
import Derived.ShutString
import Derived.ChangeOld
import Derived.Below
import Derived.Test.YtangljeceohdpaaDoorAckAlive
import Derived.Test.YtangljeceohdpaaDoorHeld
namespace Go.Proofs.YtangljeceohdpaaDoor.ackChallenges
open Go.ChangeShapes Go.WideShapes Go.ChangeAt Go.RowKit
open Go.ChangeMaps (open_string shut_string)
open Go.Proofs.YtangljeceohdpaaDoor.Base
set_option linter.unusedVariables false

theorem own : ownKnob Tryd.prog.godebug = none := by kernel_rfl
theorem laidOut : laidOutB Tryd.prog = true := by kernel_rfl

open Go.Proofs.YtangljeceohdpaaDoor.Ack Go.Proofs.YtangljeceohdpaaDoor.Oct Go.Proofs.YtangljeceohdpaaDoor.OctPlain Go.Proofs.YtangljeceohdpaaDoor.Tab
open Go.Proofs.YtangljeceohdpaaDoor.AckPlain (getNum)
theorem chal_facts {n : Int} (n0 : 0 ≤ n) (h : n ≤ 4611686018427387903) : ∃ (Q : List Int), chal n = Q ∧ [3] ++ put n = Q ∧ Bytes Q ∧ Q.length ≤ 9 ∧ getNum Q = (n, 0) := by
  refine ⟨3 :: put n, if_pos h, rfl, Bytes.cons (by decide) (put_bytes n), ?_, AckPlain.getNum_put n0 h⟩
  have := put_len n
  have := size_bd n
  rw [List.length_cons]
  omega
theorem eq_self {o : Oper} (x y : Operand) (ho : o.op = .binOp .eql 23 x y 23) {ρ : Operand → Value} {n : Int} (hx : ρ x = .int .u64 n) (hy : ρ y = .int .u64 n) (u : World) : (execOp ρ o).run Tryd.prog u = .ok (.value (.bool true)) u := by
  unfold execOp
  rw [ho]
  simp [hx, hy, go_sem]
theorem str_eq_self {o : Oper} (x y : Operand) (ho : o.op = .binOp .eql 9 x y 9) {ρ : Operand → Value} {s : ByteArray} (hx : ρ x = .string s) (hy : ρ y = .string s) (u : World) : (execOp ρ o).run Tryd.prog u = .ok (.value (.bool true)) u := by
  unfold execOp
  rw [ho]
  simp [hx, hy, go_sem]
theorem conv_str {o : Oper} (x : Operand) (ho : o.op = .convert 27 9 x) {ρ : Operand → Value} {a : Option Addr} {n c : Nat} {s : ByteArray} {u : World} (hx : ρ x = .slice a n c) (hr : (convert 27 9 (.slice a n c)).run Tryd.prog u = .ok (.string s) u) : (execOp ρ o).run Tryd.prog u = .ok (.value (.string s)) u := by
  unfold execOp
  rw [ho]
  simp [hx, hr]
theorem lit_three {o : Oper} (ho : o.op = .buildSlice 27 1 #[(0, .const (.int .u8 3))]) {ρ : Operand → Value} (hc : ρ (.const (.int .u8 3)) = .int .u8 3) (u : World) : (execOp ρ o).run Tryd.prog u = .ok (.value (.slice (some ⟨u.heap.size, 0, none⟩) 1 1)) (u.alloc (.cells #[.int .u8 3] 5)) := by
  unfold execOp
  rw [ho]
  simp [hc, go_sem]
theorem call_put {o : Oper} (x y : Operand) (ts : Array TypeId) (ho : o.op = .call { callee := .value (.func 20), args := #[x, y], argTypes := ts }) {ρ : Operand → Value} {X Y : Value} (hf : ρ (.func 20) = .func (.func 20) #[] #[]) (hx : ρ x = X) (hy : ρ y = Y) (u : World) : (execOp ρ o).run Tryd.prog u = .ok (.enter 20 #[X, Y]) u := by
  unfold execOp
  rw [ho]
  simp [hf, hx, hy, go_sem]
set_option maxHeartbeats 8000000 in
theorem walk (a0 : Int) (a1 : Option Addr) (len1 cap1 : Nat) (z1 : List Int)  (w : World) (w0 : (Lit.int .u64 a0).wf = true) (w1 : Ints .u8 w a1 z1) (n1 : z1.length = len1) (m1 : len1 ≤ cap1) (o1 : cap1 ≤ maxLen) (f1 : ∀ x ∈ z1, (Lit.int .u8 x).wf = true) (b1 : cap1 * 1 ≤ 140737488351232) (e1 : a1 = none → len1 = 0 ∧ cap1 = 0) (hT : Tab.Tab w) :
    Calls Tryd.prog 7 #[.int .u64 a0, .slice a1 len1 cap1] w fun e w' => e = .returned (.bool true) ∧ Below w.heap.size w w' := by
  obtain ⟨p0, p1⟩ := Base.u64_of w0
  subst n1
  have hb : Bytes z1 := fun x hx => Base.u8_of (f1 x hx)
  have hlen : z1.length ≤ 140737488355328 := by omega
  have C1 := fun W hz => number_any a1 z1.length cap1 z1 W rfl m1 hlen e1 hb hz
  have C2 := fun W hz => ref_getnum a1 z1.length cap1 z1 W rfl m1 hlen hb hz
  have C0 := fun W hT => challenge_any a0 W p0 p1 hT
  generalize (getNum z1).1 = x at C1 C2
  generalize (getNum z1).2 = y at C1 C2
  clear w0 f1 hb
  by_cases hn : a0 ≤ 4611686018427387903
  · obtain ⟨Q, q1, q2, q3, q4, q5⟩ := chal_facts p0 hn
    rw [q1, decide_eq_true hn] at C0
    have HQ := Lib.hid q2
    have C3 := fun a c W h1 h2 h3 h4 => number_any a Q.length c Q W rfl h1 h2 h3 q3 h4
    rw [q5] at C3
    clear q1 q2 q5 q3
    go_enter Tryd.func7, Tryd.ntmps7
    go_wp2_with (first
      | (go_at_call 8; refine (alive_ack w hT).mono ?_; rintro e wa ⟨rfl, ha⟩)
      | (go_at_call 17; refine (C0 _ (hT.below ha)).mono ?_; rintro e w1' ⟨a2, c2, rfl, h1, h2, h3, R2, L1⟩; have M1 := Base.next ha L1; clear C0)
      | (go_at_call 18; (with_reducible refine (C1 w1' (w1.below M1)).mono ?_); rintro e w2' ⟨rfl, L2⟩; have M2 := Base.next M1 L2; have R2b := R2.row.below L2; clear C1 R2)
      | (go_at_call 19; refine (C2 _ (w1.below M2)).mono ?_; rintro e w' ⟨rfl, rfl⟩; clear C2)
      | (go_at_call 18; refine (C3 a2 c2 w2' h1 (by omega) h3 R2b).mono ?_; rintro e w3' ⟨rfl, L3⟩; have M3 := Base.next M2 L3; have R2c := R2b.below L3; clear C3 R2b))
    have hS : Below w3'.heap.size w3' w3'.drew := Base.drew1 (Below.refl _ _)
    refine held_start (fun u => Below w3'.heap.size w3' u) (by kernel_rfl) ?_
    refine held_take (i := 0) (v := .bool true) rfl (by kernel_rfl) (by kernel_rfl) (by kernel_rfl) (fun _ _ _ h => h) (by kernel_rfl) hS (fun _ hu => by kernel_rfl) ?_
    refine held_take (i := 1) (v := .bool false) rfl (by kernel_rfl) (by kernel_rfl) (by kernel_rfl) (fun _ _ _ h => h) (by kernel_rfl) hS (fun _ hu => by kernel_rfl) ?_
    refine held_take (i := 2) (v := .bool false) rfl (by kernel_rfl) (by kernel_rfl) (by kernel_rfl) (fun _ _ _ h => h) (by kernel_rfl) hS (fun _ hu => by kernel_rfl) ?_
    refine held_skip (i := 3) rfl (by kernel_rfl) (by kernel_rfl) (by kernel_rfl) (fun _ _ _ h => h) (by kernel_rfl) hS ?_
    refine held_skip (i := 4) rfl (by kernel_rfl) (by kernel_rfl) (by kernel_rfl) (fun _ _ _ h => h) (by kernel_rfl) hS ?_
    refine held_skip (i := 5) rfl (by kernel_rfl) (by kernel_rfl) (by kernel_rfl) (fun _ _ _ h => h) (by kernel_rfl) hS ?_
    refine held_take (i := 6) (v := .bool false) rfl (by kernel_rfl) (by kernel_rfl) (by kernel_rfl) (fun _ _ _ h => h) (by kernel_rfl) hS (fun _ hu => by kernel_rfl) ?_
    refine held_take (i := 7) (v := .bool false) rfl (by kernel_rfl) (by kernel_rfl) (by kernel_rfl) (fun _ _ _ h => h) (by kernel_rfl) hS (fun _ hu => by kernel_rfl) ?_
    refine held_take (i := 8) (v := .bool true) rfl (by kernel_rfl) (by kernel_rfl) (by kernel_rfl) (fun _ _ _ h => h) (by kernel_rfl) hS (fun _ hu => by kernel_rfl) ?_
    refine held_take (i := 9) (v := .bool true) rfl (by kernel_rfl) (by kernel_rfl) (by kernel_rfl) (fun _ _ _ h => h) (by kernel_rfl) hS (fun _ hu => by kernel_rfl) ?_
    refine held_take (i := 10) (v := .int .u64 a0) rfl (by kernel_rfl) (by kernel_rfl) (by kernel_rfl) (fun _ _ _ h => h) (by kernel_rfl) hS (fun _ hu => by kernel_rfl) ?_
    refine held_take (i := 11) (v := .int .u64 a0) rfl (by kernel_rfl) (by kernel_rfl) (by kernel_rfl) (fun _ _ _ h => h) (by kernel_rfl) hS (fun _ hu => by kernel_rfl) ?_
    refine held_take (i := 12) (v := .bool true) rfl (by kernel_rfl) (by kernel_rfl) (by kernel_rfl) (fun _ _ _ h => h) (by kernel_rfl) hS (fun _ hu => by exact eq_self (n := a0) (.tmp 59) (.tmp 60) rfl (by kernel_rfl) (by kernel_rfl) _) ?_
    refine held_take (i := 13) (v := .bool true) rfl (by kernel_rfl) (by kernel_rfl) (by kernel_rfl) (fun _ _ _ h => h) (by kernel_rfl) hS (fun _ hu => by kernel_rfl) ?_
    refine held_take (i := 14) (v := .bool true) rfl (by kernel_rfl) (by kernel_rfl) (by kernel_rfl) (fun _ _ _ h => h) (by kernel_rfl) hS (fun _ hu => by kernel_rfl) ?_
    refine held_take (i := 15) (v := .int .i64 0) rfl (by kernel_rfl) (by kernel_rfl) (by kernel_rfl) (fun _ _ _ h => h) (by kernel_rfl) hS (fun _ hu => by kernel_rfl) ?_
    refine held_take (i := 16) (v := .bool true) rfl (by kernel_rfl) (by kernel_rfl) (by kernel_rfl) (fun _ _ _ h => h) (by kernel_rfl) hS (fun _ hu => by kernel_rfl) ?_
    refine held_take (i := 17) (v := .bool true) rfl (by kernel_rfl) (by kernel_rfl) (by kernel_rfl) (fun _ _ _ h => h) (by kernel_rfl) hS (fun _ hu => by kernel_rfl) ?_
    refine held_take (i := 18) (v := .bool true) rfl (by kernel_rfl) (by kernel_rfl) (by kernel_rfl) (fun _ _ _ h => h) (by kernel_rfl) hS (fun _ hu => by kernel_rfl) ?_
    refine held_take (i := 19) (v := .slice a2 Q.length c2) rfl (by kernel_rfl) (by kernel_rfl) (by kernel_rfl) (fun _ _ _ h => h) (by kernel_rfl) hS (fun _ hu => by kernel_rfl) ?_
    refine held_take (i := 20) (v := .string (strOfNums Q)) rfl (by kernel_rfl) (by kernel_rfl) (by kernel_rfl) (fun _ _ _ h => h) (by kernel_rfl) hS (fun _ hu => by exact conv_str (.tmp 68) rfl (by kernel_rfl) (str_of _ a2 _ c2 Q rfl (R2c.below hu))) ?_
    refine held_take (i := 22) (v := .int .u64 a0) rfl (by kernel_rfl) (by kernel_rfl) (by kernel_rfl) (fun _ _ _ h => h) (by kernel_rfl) hS (fun _ hu => by kernel_rfl) ?_
    have s0 : Below w3'.heap.size w3' (w3'.drew.alloc (.cells #[.int .u8 3] 5)) := hS.alloc (Nat.le_refl _) _
    have hO : Oct.Own w3'.heap.size (w3'.drew.alloc (.cells #[.int .u8 3] 5)) (.slice (some ⟨w3'.heap.size, 0, none⟩) 1 1) [3] := World.ownsRow_lit (base := w3'.heap.size) (size := 1) w3'.drew #[.int .u8 3] 1 (Nat.le_refl _) (by decide) rfl
    have CP := ref_put hO (by simp) (by decide) a0 p0 p1
    rw [HQ.out] at CP
    refine held_one (i := 21) (v := .slice (some ⟨w3'.heap.size, 0, none⟩) 1 1) (w' := w3'.drew.alloc (.cells #[.int .u8 3] 5)) rfl (by kernel_rfl) (by kernel_rfl) (lit_three rfl (by kernel_rfl) _) s0 ?_
    refine held_call (i := 23) (f := 20) (args := #[.slice (some ⟨w3'.heap.size, 0, none⟩) 1 1, .int .u64 a0]) rfl (by kernel_rfl) (by kernel_rfl) (call_put (.tmp 70) (.tmp 71) _ rfl (by kernel_rfl) (by kernel_rfl) (by kernel_rfl) _) ?_
    refine CP.mono ?_
    rintro e w4' ⟨v4, rfl, O4, F4⟩
    obtain ⟨a4, c4, rfl, k1, k2, k3, R4⟩ := O4.read
    have N4 : Below w3'.heap.size w3' w4' := F4.below s0 s0.size (fun _ h => h)
    refine ⟨_, rfl, N4, ?_⟩
    refine held_one (i := 24) (v := .string (strOfNums Q)) (w' := w4') rfl (by kernel_rfl) (by kernel_rfl) (conv_str (.tmp 72) rfl (by kernel_rfl) (str_of w4' a4 _ c4 Q rfl R4.row)) N4 ?_
    refine held_take (i := 25) (v := .bool true) rfl (by kernel_rfl) (by kernel_rfl) (by kernel_rfl) (fun _ _ _ h => h) (by kernel_rfl) N4 (fun _ hu => by exact str_eq_self (s := strOfNums Q) (.tmp 69) (.tmp 73) rfl (by kernel_rfl) (by kernel_rfl) _) ?_
    refine held_take (i := 26) (v := .bool true) rfl (by kernel_rfl) (by kernel_rfl) (by kernel_rfl) (fun _ _ _ h => h) (by kernel_rfl) N4 (fun _ hu => by kernel_rfl) ?_
    refine held_take (i := 27) (v := .bool true) rfl (by kernel_rfl) (by kernel_rfl) (by kernel_rfl) (fun _ _ _ h => h) (by kernel_rfl) N4 (fun _ hu => by kernel_rfl) ?_
    refine held_take (i := 28) (v := .bool true) rfl (by kernel_rfl) (by kernel_rfl) (by kernel_rfl) (fun _ _ _ h => h) (by kernel_rfl) N4 (fun _ hu => by kernel_rfl) ?_
    refine held_done (by kernel_rfl) ?_
    go_wp2
    go_ret
    exact ⟨by kernel_rfl, Base.next M3 N4⟩
  · rw [show chal a0 = [] from if_neg hn, decide_eq_false hn] at C0
    have C3 := fun a c W h1 h2 h3 h4 => number_any a 0 c [] W rfl h1 h2 h3 Bytes.nil h4
    rw [show getNum [] = (0, 2) from rfl] at C3
    simp only [List.length_nil, List.map_nil] at C0
    go_enter Tryd.func7, Tryd.ntmps7
    go_wp2_with (first
      | (go_at_call 8; refine (alive_ack w hT).mono ?_; rintro e wa ⟨rfl, ha⟩)
      | (go_at_call 17; refine (C0 _ (hT.below ha)).mono ?_; rintro e w1' ⟨a2, c2, rfl, h1, h2, h3, R2, L1⟩; have M1 := Base.next ha L1; clear C0)
      | (go_at_call 18; (with_reducible refine (C1 w1' (w1.below M1)).mono ?_); rintro e w2' ⟨rfl, L2⟩; have M2 := Base.next M1 L2; have R2b := R2.row.below L2; clear C1 R2)
      | (go_at_call 19; refine (C2 _ (w1.below M2)).mono ?_; rintro e w' ⟨rfl, rfl⟩; clear C2)
      | (go_at_call 18; refine (C3 a2 c2 w2' (Nat.zero_le _) (by decide) (fun e => by simpa using h3 e) (Ints.nil _ _ _)).mono ?_; rintro e w3' ⟨rfl, L3⟩; have M3 := Base.next M2 L3; have R2c := R2b.below L3; clear C3 R2b))
    have hS : Below w3'.heap.size w3' w3'.drew := Base.drew1 (Below.refl _ _)
    refine held_start (fun u => Below w3'.heap.size w3' u) (by kernel_rfl) ?_
    refine held_take (i := 0) (v := .bool false) rfl (by kernel_rfl) (by kernel_rfl) (by kernel_rfl) (fun _ _ _ h => h) (by kernel_rfl) hS (fun _ hu => by kernel_rfl) ?_
    refine held_take (i := 1) (v := .bool true) rfl (by kernel_rfl) (by kernel_rfl) (by kernel_rfl) (fun _ _ _ h => h) (by kernel_rfl) hS (fun _ hu => by kernel_rfl) ?_
    refine held_take (i := 2) (v := .bool true) rfl (by kernel_rfl) (by kernel_rfl) (by kernel_rfl) (fun _ _ _ h => h) (by kernel_rfl) hS (fun _ hu => by kernel_rfl) ?_
    refine held_take (i := 3) (v := .slice a2 0 c2) rfl (by kernel_rfl) (by kernel_rfl) (by kernel_rfl) (fun _ _ _ h => h) (by kernel_rfl) hS (fun _ hu => by kernel_rfl) ?_
    refine held_take (i := 4) (v := .int .i64 0) rfl (by kernel_rfl) (by kernel_rfl) (by kernel_rfl) (fun _ _ _ h => h) (by kernel_rfl) hS (fun _ hu => by kernel_rfl) ?_
    refine held_take (i := 5) (v := .bool true) rfl (by kernel_rfl) (by kernel_rfl) (by kernel_rfl) (fun _ _ _ h => h) (by kernel_rfl) hS (fun _ hu => by kernel_rfl) ?_
    refine held_take (i := 6) (v := .bool true) rfl (by kernel_rfl) (by kernel_rfl) (by kernel_rfl) (fun _ _ _ h => h) (by kernel_rfl) hS (fun _ hu => by kernel_rfl) ?_
    refine held_take (i := 7) (v := .bool true) rfl (by kernel_rfl) (by kernel_rfl) (by kernel_rfl) (fun _ _ _ h => h) (by kernel_rfl) hS (fun _ hu => by kernel_rfl) ?_
    refine held_skip (i := 8) rfl (by kernel_rfl) (by kernel_rfl) (by kernel_rfl) (fun _ _ _ h => h) (by kernel_rfl) hS ?_
    refine held_skip (i := 9) rfl (by kernel_rfl) (by kernel_rfl) (by kernel_rfl) (fun _ _ _ h => h) (by kernel_rfl) hS ?_
    refine held_skip (i := 10) rfl (by kernel_rfl) (by kernel_rfl) (by kernel_rfl) (fun _ _ _ h => h) (by kernel_rfl) hS ?_
    refine held_skip (i := 11) rfl (by kernel_rfl) (by kernel_rfl) (by kernel_rfl) (fun _ _ _ h => h) (by kernel_rfl) hS ?_
    refine held_skip (i := 12) rfl (by kernel_rfl) (by kernel_rfl) (by kernel_rfl) (fun _ _ _ h => h) (by kernel_rfl) hS ?_
    refine held_skip (i := 13) rfl (by kernel_rfl) (by kernel_rfl) (by kernel_rfl) (fun _ _ _ h => h) (by kernel_rfl) hS ?_
    refine held_skip (i := 14) rfl (by kernel_rfl) (by kernel_rfl) (by kernel_rfl) (fun _ _ _ h => h) (by kernel_rfl) hS ?_
    refine held_skip (i := 15) rfl (by kernel_rfl) (by kernel_rfl) (by kernel_rfl) (fun _ _ _ h => h) (by kernel_rfl) hS ?_
    refine held_skip (i := 16) rfl (by kernel_rfl) (by kernel_rfl) (by kernel_rfl) (fun _ _ _ h => h) (by kernel_rfl) hS ?_
    refine held_skip (i := 17) rfl (by kernel_rfl) (by kernel_rfl) (by kernel_rfl) (fun _ _ _ h => h) (by kernel_rfl) hS ?_
    refine held_skip (i := 18) rfl (by kernel_rfl) (by kernel_rfl) (by kernel_rfl) (fun _ _ _ h => h) (by kernel_rfl) hS ?_
    refine held_skip (i := 19) rfl (by kernel_rfl) (by kernel_rfl) (by kernel_rfl) (fun _ _ _ h => h) (by kernel_rfl) hS ?_
    refine held_skip (i := 20) rfl (by kernel_rfl) (by kernel_rfl) (by kernel_rfl) (fun _ _ _ h => h) (by kernel_rfl) hS ?_
    refine held_skip (i := 21) rfl (by kernel_rfl) (by kernel_rfl) (by kernel_rfl) (fun _ _ _ h => h) (by kernel_rfl) hS ?_
    refine held_skip (i := 22) rfl (by kernel_rfl) (by kernel_rfl) (by kernel_rfl) (fun _ _ _ h => h) (by kernel_rfl) hS ?_
    refine held_skip (i := 23) rfl (by kernel_rfl) (by kernel_rfl) (by kernel_rfl) (fun _ _ _ h => h) (by kernel_rfl) hS ?_
    refine held_skip (i := 24) rfl (by kernel_rfl) (by kernel_rfl) (by kernel_rfl) (fun _ _ _ h => h) (by kernel_rfl) hS ?_
    refine held_skip (i := 25) rfl (by kernel_rfl) (by kernel_rfl) (by kernel_rfl) (fun _ _ _ h => h) (by kernel_rfl) hS ?_
    refine held_skip (i := 26) rfl (by kernel_rfl) (by kernel_rfl) (by kernel_rfl) (fun _ _ _ h => h) (by kernel_rfl) hS ?_
    refine held_take (i := 27) (v := .bool true) rfl (by kernel_rfl) (by kernel_rfl) (by kernel_rfl) (fun _ _ _ h => h) (by kernel_rfl) hS (fun _ hu => by kernel_rfl) ?_
    refine held_take (i := 28) (v := .bool true) rfl (by kernel_rfl) (by kernel_rfl) (by kernel_rfl) (fun _ _ _ h => h) (by kernel_rfl) hS (fun _ hu => by kernel_rfl) ?_
    refine held_done (by kernel_rfl) ?_
    go_wp2
    go_ret
    exact ⟨by kernel_rfl, Base.drew1 M3⟩

theorem of_laid' {W : World} (h : laidMetH Tryd.prog Rows.ackChallengesRow.laid W) : Tab.Tab W := Tab.of_laid_2 h
theorem door_met (os : Os) (args : Array Value) : laidMetH Tryd.prog Rows.ackChallengesRow.laid ((World.doorLaid Tryd.prog 19 os).forCall (fun _ _ => 0) ⟨#[], args, []⟩).memory :=
  laidMetH_of_parts3 (fuel := 8) (laidMet_of_run' 8 (by kernel_rfl) (by kernel_rfl)) (by kernel_rfl) (by kernel_rfl)
set_option maxRecDepth 100000 in
theorem lifted (os : Os) (started : os.Started) (H : Type) (enc : TypeId × Value → H) :
    ReturnsInHanded {} Tryd.checked os 7 .any (fun w args => (Rows.ackChallengesSpec.pre enc Tryd.prog Tryd.f7 [] false w args ∧ laidMetH Tryd.prog Rows.ackChallengesRow.laid w) ∧ sizedMet enc Tryd.prog Tryd.f7 (OpenSpec.ofChange Rows.ackChallengesSpec) false w args) (Rows.ackChallengesSpec.post enc Tryd.prog Tryd.f7 false true false false) := by
  refine returnsInHanded_of_change_and (C := Tryd.checked) (X := fun w _ => laidMetH Tryd.prog Rows.ackChallengesRow.laid w) (fun _ _ _ hh h => h.of_heap hh) own started (by kernel_rfl) Tryd.func7
    (ChangeSpec.witness_shaped (enc := enc) (C := Tryd.checked) (os := os) (X := fun w _ => laidMetH Tryd.prog Rows.ackChallengesRow.laid w) false (World.doorLaid Tryd.prog 19 os) #[.int .u64 0, .slice none 0 0] 8 rfl (World.shaped_of_RefB (by kernel_rfl) (by kernel_rfl)) (by kernel_rfl) (by kernel_rfl) (by kernel_rfl) (door_met os _)) ?_
  intro W base args ds gs before hval0 hW _ hsz0 hL _
  have hT := of_laid' hL
  have hval : ∀ (j : Nat) t v, Tryd.f7.params[j]? = some t → args[j]? = some v → Value.okWide Tryd.prog W .any base t v := hval0
  have hW' := hW
  obtain ⟨p, q, hA0, hV, rfl, hfz, hnd⟩ := hW
  have hA : DataW.TrodAll enc Tryd.prog W 0 (fun _ => true) true Tryd.f7.params.toList args.toList ds p := hA0
  rw [Tryd.params7] at hA hval
  obtain ⟨v0, vs0, d0, ds0, p0, q0, hargs, rfl, rfl, h0, r0⟩ := trodAll_cons hA
  obtain ⟨v1, vs1, d1, ds1, p1, q1, rfl, rfl, rfl, h1, r1⟩ := trodAll_cons r0
  obtain ⟨rfl, rfl, rfl⟩ := trodAll_nil r1
  obtain rfl : args = #[v0, v1] := by cases args; simp_all
  obtain ⟨rfl, rfl⟩ := trodVars_none hV
  have hsz : (DataW.weightsEach Tryd.prog [23, 27] [d0, d1]).all (· ≤ reachBytes) = true := hsz0
  obtain ⟨a0, rfl, rfl, rfl, w0⟩ := open_int Tryd.underlying23 (hval 0 23 v0 rfl rfl) h0
  obtain ⟨a1, len1, cap1, rfl⟩ := okWide_slice Tryd.underlying27 (hval 1 27 v1 rfl rfl)
  have k1 := h1
  have lt1 : ∀ x ∈ p1, x.block < W.heap.size := by obtain ⟨m, hm⟩ := k1; exact DataW.trod_lt m _ _ _ hm
  obtain ⟨z1, w1, n1, m1, o1, f1, b1, e1⟩ : ∃ zs, Ints .u8 W a1 zs ∧ zs.length = len1 ∧ len1 ≤ cap1 ∧ cap1 ≤ maxLen ∧ (∀ x ∈ zs, (Lit.int .u8 x).wf = true) ∧ cap1 * 1 ≤ 140737488351232 ∧ (a1 = none → len1 = 0 ∧ cap1 = 0) := by
    obtain ⟨fuel, hf⟩ := h1
    rcases open_ints Tryd.underlying27 Tryd.underlying5 (by kernel_rfl) hf with ⟨hcs, hx⟩ | ⟨x, l, c, zs, hcs, _, hl, hm, hz, hx, hcell, hwz⟩
    · simp [Value.cells] at hcs
      obtain ⟨rfl, rfl, rfl⟩ := hcs
      exact ⟨[], Row.nil _ _, rfl, Nat.le_refl _, Nat.zero_le _, (fun _ h => by cases h), by decide, fun _ => ⟨rfl, rfl⟩⟩
    · simp [Value.cells] at hcs
      obtain ⟨rfl, rfl, rfl⟩ := hcs
      exact ⟨zs.take len1, ints_of hl (by simpa using hz) hcell, take_len hl (by simpa using hz), hl, hm, (fun x hx => hwz x (List.mem_of_mem_take hx)), by
          have hd := congrArg Prod.fst hx
          dsimp only at hd
          have := sized_slice hsz (j := 1) (t := 27) (e := 5) (elems := lits .u8 (zs.take len1)) (spare := lits .u8 (zs.drop len1)) rfl (by rw [← hd]; rfl) Tryd.underlying27
          rw [show Tryd.prog.bytesOf 5 = 1 by kernel_rfl] at this
          simp only [lits, List.length_map, List.length_take, List.length_drop, reachBytes] at this
          have hz2 : zs.length = cap1 := (by simpa using hz)
          omega, fun e => by cases e⟩
  clear hA0 hval0
  refine (walk a0 a1 len1 cap1 z1 W w0 w1 n1 m1 o1 f1 b1 e1 hT).mono fun e W' ⟨he, bel⟩ => ?_
  subst he
  exact ⟨_, rfl, _, _, _, [], _, [], hW', trodAll_mk1 (shut_bool Tryd.underlying4 _), (trodAll_cons_mk (shut_int Tryd.underlying23 w0) (trodAll_cons_mk (Below.trod laidOut (by kernel_rfl) (of_decide_eq_true (by kernel_rfl)) k1 bel lt1) trodAll_mk0)), rfl, bel.frame _, fun h => by cases h⟩

theorem over : Rows.ackChallengesRow.holds Tryd.pinned (OpenSpec.ofChange Rows.ackChallengesSpec) :=
  OpenClaim.holds_of_wide 7 Tryd.f7 rfl rfl rfl rfl rfl rfl rfl ⟨rfl, rfl, rfl, rfl, rfl⟩ rfl rfl rfl rfl rfl (by kernel_rfl) Tryd.func7 (by kernel_rfl)
    (of_decide_eq_true (by kernel_rfl)) (by unfold Func.isWrapper; first | (rw [if_pos (by decide +kernel)]; kernel_rfl) | (rw [if_neg (by decide +kernel)]; exact ⟨rfl, rfl⟩))
    (fun os started H enc _ => lifted os started H enc)

/-- The given statement: the row, its listed variables tied to the program's text. -/
theorem proved : Rows.AckChallengesCardSaid :=
  Claim7.holds_tied_plain_at .later [] [.data, .data] true (true, "3029f8fbe8449d87556f27ae5c2055b3a3d564e05ae1a39ffa06a42cecf980f6") false
    over (fun _ h => by cases h) (by kernel_rfl) (fun _ h => by cases h) ackChallenges_row_tie rfl ⟨rfl, rfl⟩ (by kernel_rfl) rfl
    (fun f fn hf hfn => by
      obtain rfl : f = 7 := Option.some.inj ((show Tryd.prog.funcNamed "splittally/splittallylaw9.AckChallenges" = some 7 by kernel_rfl).symm.trans hf) |>.symm
      obtain rfl : fn = Tryd.f7 := (Option.some.inj (Tryd.func7.symm.trans hfn)).symm
      exact ⟨by kernel_rfl, fun j t ht => by
        rw [Tryd.params7] at ht
        have hm : t ∈ [23, 27] := by simpa using Array.mem_of_getElem? ht
        have hall : ([23, 27].all fun u => !Tryd.prog.wantsStandIn u) = true := by kernel_rfl
        exact (show Tryd.prog.wantsStandIn t = false by simpa using List.all_eq_true.1 hall t hm)⟩)
    (by kernel_rfl)
#print axioms proved
end Go.Proofs.YtangljeceohdpaaDoor.ackChallenges
