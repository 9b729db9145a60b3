/-
  The examples of chapter 13 hold (alive), out of the contracts of the program's ledger and trigger.
-/
import Derived.Test.YtlhjnbommlaioaaTrig
import Derived.Test.YtlhjnbommlaioaaLedMake
namespace Go.Proofs.Ytlhjnbommlaioaa.Led
set_option linter.unusedVariables false
set_option maxRecDepth 20000
open Go.ChangeShapes Go.WideShapes Go.ChangeAt Go.RowKit
open Go.Proofs.Ytlhjnbommlaioaa.Base Go.Proofs.Ytlhjnbommlaioaa.LedPlain Go.Proofs.Ytlhjnbommlaioaa.SpanPlain Go.Proofs.Ytlhjnbommlaioaa.SpanRef
open Go.Proofs.Ytlhjnbommlaioaa.AckPlain (K)

def sT : Sn := { Z8 with len := 1, nonce := 77 }
def gT : Lg := sendG (madeG 4 99 []) sT
theorem exT1 : lookG gT ⟨[(0, 0)], [], 77, 0, false⟩ = (0, 0) := by decide +kernel
theorem exT2 : lookG gT ⟨[(0, 0)], [], 78, 0, false⟩ = (0, 3) := by decide +kernel
theorem exT3 : lookG gT ⟨[], [], 0, 0, false⟩ = (0, 1) := by decide +kernel
theorem len_t : gT.l.length ≤ 5 := by decide +kernel
theorem fits_one : Fits [(0, 0)] := fun s hs => by
  obtain rfl : s = (0, 0) := by simpa using hs
  decide
set_option maxHeartbeats 1000000 in
theorem alive_trig (w : World) :
    Calls Try.prog 8 #[] w fun e w' => e = .returned (.bool true) ∧ Below w.heap.size w w' := by
  have CM := make_any 4 99 (by decide) (by decide) (by decide) (by decide) none 0 0 [] w rfl (Nat.le_refl _) (Nat.zero_le _) (fun _ h => by cases h) (Deeds.nil _ _)
  go_enter Try.func8, Try.ntmps8
  go_upto_region 5 with (first
    | (go_at_call 7; refine CM.mono ?_; rintro e u1 ⟨a, b, S, rfl, P1, hS, L1⟩; have P1a := P1.led.below ((Below.refl u1.heap.size u1).alloc (Nat.le_refl _) (.cells #[.pointer (some a), .pointer (some ⟨b, 0, none⟩)] 30)); have M1 := L1.alloc L1.size (.cells #[.pointer (some a), .pointer (some ⟨b, 0, none⟩)] 30); have T1 := Blk.new u1 #[.pointer (some a), .pointer (some ⟨b, 0, none⟩)] 30; have CS := send_any P1a sT (by unfold Words sT Z8; decide) (by decide); have nc : ¬ S u1.heap.size := fun e => (by have := P1.lt _ e; omega))
    | (go_at_call 20; refine CS.mono ?_; rintro e u2 ⟨rfl, P2, F2⟩; have M2 := M1.trans (F2.toBelow' (B := w.heap.size) M1.size fun k _ hk => hS k hk); have T2 := T1.kept F2 nc))
  replace P2 : Led (Plus S (u1.alloc (.cells #[.pointer (some a), .pointer (some ⟨b, 0, none⟩)] 30)) u2) u2 a gT := P2
  clear CM CS P1 P1a M1 T1 F2 L1
  go_upto_region 8 with fail
  refine at_world ?_
  intro W hW
  obtain ⟨hR, h3, h4, hB⟩ : Blk W u2.heap.size #[.int .u64 0, .int .u64 0] 61 ∧ Blk W (u2.heap.size + 1) #[.slice (some ⟨u2.heap.size, 0, none⟩) 1 1, .slice none 0 0, .int .u64 77, .int .u64 0, .bool false] 26 ∧ Blk W (u2.heap.size + 1 + 1) #[.slice (some ⟨u2.heap.size, 0, none⟩) 1 1, .slice none 0 0, .int .u64 78, .int .u64 0, .bool false] 26 ∧ Below u2.heap.size u2 W := by
    subst hW
    exact laid3 u2 _ _ _ _ _ _
  clear hW
  have hSp : Spans W (some ⟨u2.heap.size, 0, none⟩) [(0, 0)] := fun j v hj => ⟨_, 0, rfl, hR.lt, by
    have h1 := hR.cell j
    rw [Nat.zero_add, h1]
    match j, hj with
    | 0, hj => exact hj
    | 1, hj => exact hj
    | j + 2, hj => simp [flat, cells] at hj⟩
  have T3 := T2.below hB T2.lt
  have c3 : W.cell? ⟨u1.heap.size, 0, none⟩ = some (.pointer (some a)) := T3.cell 0
  have P3 := P2.below hB
  have M3 := M2.trans (hB.mono M2.size)
  obtain ⟨x0, x1, x2, x3, x4⟩ := AckMay.blk5 h3
  have C1 := look_any P3 (by have := len_t; omega) ⟨[(0, 0)], [], 77, 0, false⟩ (some ⟨u2.heap.size, 0, none⟩) none 1 1 0 0 rfl rfl (by decide) (by decide) fits_one (fun _ h => by cases h) hSp (Spans.nil _ _)
  rw [exT1] at C1
  go_wp2_with (first
    | (go_at_call 9; (with_reducible refine C1.mono ?_); rintro e u4 ⟨rfl, L4⟩; have M4 := M3.trans (L4.mono M3.size); have T4 := T3.below L4 T3.lt; have c4 : u4.cell? ⟨u1.heap.size, 0, none⟩ = some (.pointer (some a)) := T4.cell 0; have P4 := P3.below L4; obtain ⟨y0, y1, y2, y3, y4⟩ := AckMay.blk5 (h4.below L4 h4.lt); have C2 := look_any P4 (by have := len_t; omega) ⟨[(0, 0)], [], 78, 0, false⟩ (some ⟨u2.heap.size, 0, none⟩) none 1 1 0 0 rfl rfl (by decide) (by decide) fits_one (fun _ h => by cases h) (Row.below hSp L4) (Spans.nil _ _); rw [exT2] at C2; clear C1)
    | (go_at_call 9; (with_reducible refine C2.mono ?_); rintro e u5 ⟨rfl, L5⟩; have M5 := M4.trans (L5.mono M4.size); have T5 := T4.below L5 T4.lt; have c5 : u5.cell? ⟨u1.heap.size, 0, none⟩ = some (.pointer (some a)) := T5.cell 0; have P5 := P4.below L5; have C3 := look_any P5 (by have := len_t; omega) ⟨[], [], 0, 0, false⟩ none none 0 0 0 0 rfl rfl (by decide) (by decide) (fun _ h => by cases h) (fun _ h => by cases h) (Spans.nil _ _) (Spans.nil _ _); rw [exT3] at C3; clear C2)
    | (go_at_call 9; (with_reducible refine C3.mono ?_); rintro e u6 ⟨rfl, L6⟩; have M6 := M5.trans (L6.mono M5.size); clear C3))
  go_ret
  exact ⟨rfl, M6⟩
end Go.Proofs.Ytlhjnbommlaioaa.Led
