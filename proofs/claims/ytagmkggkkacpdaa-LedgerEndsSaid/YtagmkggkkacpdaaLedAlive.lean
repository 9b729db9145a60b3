/-
  The examples of chapter 12 hold (alive), out of the contracts of the program's ledger.
-/
import Derived.Test.YtagmkggkkacpdaaLed
namespace Go.Proofs.Ytagmkggkkacpdaa.Led
set_option linter.unusedVariables false
set_option maxRecDepth 20000
open Go.ChangeShapes Go.WideShapes Go.ChangeAt Go.RowKit
open Go.Proofs.Ytagmkggkkacpdaa.Base Go.Proofs.Ytagmkggkkacpdaa.LedPlain

def sI (t : Nat) : Sn := { Z8 with len := 5, off := t }
def aG : Nat → Lg
  | 0 => newG 4 9
  | t + 1 => sendG (aG t) (sI t)
theorem aG_len : ∀ t, (aG t).l.length ≤ t
  | 0 => Nat.le_refl _
  | t + 1 => by
    have := aG_len t
    have h := send_len (aG t) (sI t)
    show (sendG (aG t) (sI t)).l.length ≤ _
    omega
theorem sI_words (t : Nat) (h : t ≤ 4) : Words (sI t) := by
  unfold Words sI Z8
  simp only
  omega
theorem aG_send : ∀ t, t < 4 → sendN (aG t) (sI t) = t ∧ sendE (aG t) (sI t) = 0
  | 0, _ => ⟨by decide +kernel, by decide +kernel⟩
  | 1, _ => ⟨by decide +kernel, by decide +kernel⟩
  | 2, _ => ⟨by decide +kernel, by decide +kernel⟩
  | 3, _ => ⟨by decide +kernel, by decide +kernel⟩
def bG : Lg := sendG (aG 4) (sI 0)
def cG : Lg := settleG bG 0 2
def dG : Lg := skipG cG
theorem ex1 : sendN (aG 4) (sI 0) = 0 ∧ sendE (aG 4) (sI 0) = 7 := ⟨by decide +kernel, by decide +kernel⟩
theorem ex2 : settleB bG 0 2 = true := by decide +kernel
theorem ex3 : giveN cG = 4 ∧ giveE cG = 0 := ⟨by decide +kernel, by decide +kernel⟩
theorem ex4 : (lowN dG : Int) = 1 := by decide +kernel
theorem ex5 : (dG.l.length : Int) = 5 := by decide +kernel
theorem ex6 : (leastN dG : Int) = 1 := by decide +kernel
theorem ex7 : flight dG = 15 := by decide +kernel
theorem ex8 : useB dG 1 = true := by decide +kernel
theorem ex9 : useB (useG dG 1) 1 = false := by decide +kernel
theorem ex10 : useB (useG (useG dG 1) 1) 4 = false := by decide +kernel
theorem ex11 : (allS (useG (useG (useG dG 1) 1) 4)).length = 4 := by decide +kernel
theorem ex0 : roomI (newG 4 9) = 4 := by decide +kernel
theorem len_b : bG.l.length ≤ 5 := by decide +kernel
theorem len_c : cG.l.length ≤ 5 := by decide +kernel
theorem len_e : (useG (useG (useG dG 1) 1) 4).l.length ≤ 5 := by decide +kernel
theorem plus_ge {S : Nat → Prop} {w w1 w2 : World} (hS : ∀ k, S k → w.heap.size ≤ k) (h : w.heap.size ≤ w1.heap.size) : ∀ k, Plus S w1 w2 k → w.heap.size ≤ k := fun k hk => by
  rcases hk with hk | hk
  · exact hS k hk
  · omega
set_option maxHeartbeats 1000000 in
theorem alive_led (w : World) :
    Calls Try.prog 10 #[] w fun e w' => e = .returned (.bool true) ∧ Below w.heap.size w w' := by
  have CN := new_any 4 9 (by decide) (by decide) (by decide) (by decide) w
  go_enter Try.func10, Try.ntmps10
  go_wp2_with (first
    | (go_at_call 8; refine CN.mono ?_; rintro e w1 ⟨a, rfl, P1, L1⟩; have CR := room_any P1; rw [ex0] at CR; clear CN)
    | (go_at_call 15; refine CR.mono ?_; rintro e w2 ⟨rfl, L2⟩; have M2 := Base.next L1 L2; have P2 := P1.below L2; clear CR))
  go_loopw [3, 4, 5] (fun i _ _ wr => ∃ (t : Nat) (S : Nat → Prop), t ≤ 4 ∧ i = .int .u64 t ∧ Led S wr a (aG t) ∧ (∀ k, S k → w.heap.size ≤ k) ∧ Below w.heap.size w wr) (fun i _ _ _ => 4 - (intOf i).toNat)
  case atStart => exact ⟨0, _, by decide, rfl, P2, fun k hk => hk.1, M2⟩
  case round =>
    obtain ⟨t, S, ht, rfl, hP, hS, hL⟩ := hrel
    clear P2 M2 P1 L1 L2
    by_cases hlt : t < 4
    · have CS := send_any hP (sI t) (sI_words t (by omega)) (by have := aG_len t; omega)
      rw [(aG_send t hlt).1, (aG_send t hlt).2] at CS
      have hltI : (t : Int) < 4 := by omega
      go_wp2_with (go_at_call 20; refine CS.mono ?_; rintro e w3 ⟨rfl, P3, F3⟩; have M3 := hL.trans (F3.toBelow' (B := w.heap.size) hL.size fun k _ hk => hS k hk))
      all_goals go_roundw
      case rel => exact ⟨t + 1, _, by omega, by go_num, P3, plus_ge hS hL.size, M3⟩
      case measure => simp [intOf]; omega
    · obtain rfl : t = 4 := by omega
      clear hlt ht
      have CS := send_any hP (sI 0) (sI_words 0 (by decide)) (by have := aG_len 4; omega)
      rw [ex1.1, ex1.2, show sendG (aG 4) (sI 0) = bG from rfl] at CS
      go_wp2_with (first
        | (go_at_call 20; refine CS.mono ?_; rintro e w3 ⟨rfl, P3, F3⟩; have M3 := hL.trans (F3.toBelow' (B := w.heap.size) hL.size fun k _ hk => hS k hk); have S3 := plus_ge (w2 := w3) hS hL.size; have C4 := settle_any P3 0 2 (by decide) (by decide) (by decide) (by decide); rw [ex2, show settleG bG 0 2 = cG from rfl] at C4; clear CS)
        | (go_at_call 23; refine C4.mono ?_; rintro e w4 ⟨rfl, P4, F4⟩; have M4 := M3.trans (F4.toBelow' (B := w.heap.size) M3.size fun k _ hk => S3 k hk); have S4 := plus_ge (w2 := w4) S3 M3.size; have C5 := skip_any P4 (by have := len_c; omega); rw [ex3.1, ex3.2, show skipG cG = dG from rfl] at C5; clear C4)
        | (go_at_call 26; refine C5.mono ?_; rintro e w5 ⟨rfl, P5, F5⟩; have M5 := M4.trans (F5.toBelow' (B := w.heap.size) M4.size fun k _ hk => S4 k hk); have S5 := plus_ge (w2 := w5) S4 M4.size; have C6 := low_any P5; rw [ex4] at C6; clear C5)
        | (go_at_call 18; refine C6.mono ?_; rintro e w6 ⟨rfl, L6⟩; have M6 := Base.next M5 L6; have P6 := P5.below L6; have C7 := next_any P6; rw [ex5] at C7; clear C6)
        | (go_at_call 19; refine C7.mono ?_; rintro e w7 ⟨rfl, L7⟩; have M7 := Base.next M6 L7; have P7 := P6.below L7; have C8 := least_any P7; rw [ex6] at C8; clear C7)
        | (go_at_call 17; refine C8.mono ?_; rintro e w8 ⟨rfl, L8⟩; have M8 := Base.next M7 L8; have P8 := P7.below L8; have C9 := flight_any P8; rw [ex7] at C9; clear C8)
        | (go_at_call 16; refine C9.mono ?_; rintro e w9 ⟨rfl, L9⟩; have M9 := Base.next M8 L9; have P9 := P8.below L9; have C10 := use_any P9 1 (by decide) (by decide); rw [ex8] at C10; clear C9)
        | (go_at_call 22; (with_reducible refine C10.mono ?_); rintro e w10 ⟨rfl, P10, F10⟩; have M10 := M9.trans (F10.toBelow' (B := w.heap.size) M9.size fun k _ hk => S5 k hk); have S10 := plus_ge (w2 := w10) S5 M9.size; have C11 := use_any P10 1 (by decide) (by decide); rw [ex9] at C11; clear C10)
        | (go_at_call 22; (with_reducible refine C11.mono ?_); rintro e w11 ⟨rfl, P11, F11⟩; have M11 := M10.trans (F11.toBelow' (B := w.heap.size) M10.size fun k _ hk => S10 k hk); have S11 := plus_ge (w2 := w11) S10 M10.size; have C12 := use_any P11 4 (by decide) (by decide); rw [ex10] at C12; clear C11)
        | (go_at_call 22; (with_reducible refine C12.mono ?_); rintro e w12 ⟨rfl, P12, F12⟩; have M12 := M11.trans (F12.toBelow' (B := w.heap.size) M11.size fun k _ hk => S11 k hk); have C13 := all_any P12 (by have := len_e; omega); rw [ex11] at C13; clear C12)
        | (go_at_call 14; refine C13.mono ?_; rintro e w13 ⟨p, cap, rfl, k1, k2, _, L13⟩; have M13 := Base.next M12 L13; clear C13))
      go_ret
      exact ⟨rfl, M13⟩
end Go.Proofs.Ytagmkggkkacpdaa.Led
