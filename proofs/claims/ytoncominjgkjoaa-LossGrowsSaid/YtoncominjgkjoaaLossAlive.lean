/-
  The examples of chapter 18 hold (alive), out of the contracts of the program's ledger and loss.
-/
import Derived.Test.YtoncominjgkjoaaLoss
import Derived.Test.YtoncominjgkjoaaLedMake
set_option linter.unusedSimpArgs false
set_option linter.unusedVariables false
namespace Go.Proofs.Ytoncominjgkjoaa.Loss
set_option linter.unusedVariables false
set_option maxRecDepth 20000
open Go.ChangeShapes Go.WideShapes Go.ChangeAt Go.RowKit
open Go.Proofs.Ytoncominjgkjoaa.Base Go.Proofs.Ytoncominjgkjoaa.LedPlain Go.Proofs.Ytoncominjgkjoaa.LossPlain Go.Proofs.Ytoncominjgkjoaa.Led

def sA : Sn := { Z8 with len := 1 }
def sB : Sn := { Z8 with len := 1, time := 50 }
def g1 : Lg := madeG 8 99 []
def g2 : Lg := sendG g1 sA
def g3 : Lg := sendG g2 sB
theorem exL1 : lostL 9 9 9 (allS g1) = [] := by decide +kernel
theorem exL2 : nextT 9 9 9 (allS g1) = 18446744073709551615 := by decide +kernel
theorem exL3 : lostL 2 100 100 (allS g3) = [0] := by decide +kernel
theorem exL4 : nextT 2 100 100 (allS g3) = 150 := by decide +kernel
theorem lenL : g1.l.length ≤ 5 ∧ g2.l.length ≤ 5 ∧ g3.l.length ≤ 5 := by decide +kernel
set_option maxHeartbeats 2000000 in
theorem alive_loss (w : World) :
    Calls Try.prog 8 #[] w fun e w' => e = .returned (.bool true) ∧ Below w.heap.size w w' := by
  have CM := make_any 8 99 (by decide) (by decide) (by decide) (by decide) none 0 0 [] w rfl (Nat.le_refl _) (Nat.zero_le _) (fun _ h => by cases h) (Deeds.nil _ _)
  obtain ⟨n1, n2, n3⟩ := lenL
  go_enter Try.func8, Try.ntmps8
  go_upto_region 4 with (go_at_call 7; refine CM.mono ?_; rintro e u1 ⟨a, b, S, rfl, P1, hS, L1⟩)
  refine at_any ?_
  intro W hW
  obtain ⟨T1, hM, hP, hSn⟩ : Blk W u1.heap.size #[.pointer (some a), .pointer (some ⟨b, 0, none⟩)] 27 ∧ Below w.heap.size w W ∧ Led S W a g1 ∧ ¬ S u1.heap.size := by
    subst hW
    exact ⟨Blk.new _ _ _, L1.alloc L1.size _, P1.led.below ((Below.refl u1.heap.size u1).alloc (Nat.le_refl _) _), fun e => by have := P1.lt _ e; omega⟩
  clear hW CM P1 L1
  generalize u1.heap.size = tb at *
  have c1 : W.cell? ⟨tb, 0, none⟩ = some (.pointer (some a)) := T1.cell 0
  have hlt := T1.lt
  have C1 := find_any hP (by omega) 9 9 9 (by decide) (by decide) (by decide) (by decide) (by decide) (by decide)
  rw [exL1, exL2] at C1
  go_upto_region 5 with (go_at_call 10; refine C1.mono ?_; rintro e y1 ⟨p1, q1, rfl, _, _, _, _, L1⟩)
  have P2 := hP.below L1
  have T2 := T1.below L1 T1.lt
  have M2 := Base.next hM L1
  clear hP T1 hM L1 c1 hlt C1
  have c1 : y1.cell? ⟨tb, 0, none⟩ = some (.pointer (some a)) := T2.cell 0
  have hlt := T2.lt
  have C2 := send_any P2 sA (by unfold Words sA Z8; decide) (by omega)
  go_upto_region 6 with (go_at_call 20; refine C2.mono ?_; rintro e y2 ⟨rfl, P3, F3⟩)
  have T3 := T2.kept F3 hSn
  have M3 := M2.trans (F3.toBelow' (B := w.heap.size) M2.size fun k _ hk => hS k hk)
  have hSn3 : ¬ Plus S y1 y2 tb := fun h => h.elim hSn fun h => by omega
  have hS3 : ∀ k, Plus S y1 y2 k → w.heap.size ≤ k := fun k h => h.elim (hS k) fun h => by have := M2.size; omega
  replace P3 : Led (Plus S y1 y2) y2 a g2 := P3
  clear P2 T2 M2 F3 c1 hlt C2 hSn hS
  generalize Plus S y1 y2 = S3 at *
  have c1 : y2.cell? ⟨tb, 0, none⟩ = some (.pointer (some a)) := T3.cell 0
  have hlt := T3.lt
  have C2 := send_any P3 sB (by unfold Words sB Z8; decide) (by omega)
  go_upto_region 7 with (go_at_call 20; refine C2.mono ?_; rintro e y3 ⟨rfl, P4, F4⟩)
  have T4 := T3.kept F4 hSn3
  have M4 := M3.trans (F4.toBelow' (B := w.heap.size) M3.size fun k _ hk => hS3 k hk)
  replace P4 : Led (Plus S3 y2 y3) y3 a g3 := P4
  clear P3 T3 M3 F4 c1 hlt C2 hSn3 hS3
  have c1 : y3.cell? ⟨tb, 0, none⟩ = some (.pointer (some a)) := T4.cell 0
  have hlt := T4.lt
  have C3 := find_any P4 (by omega) 2 100 100 (by decide) (by decide) (by decide) (by decide) (by decide) (by decide)
  rw [exL3, exL4] at C3
  go_upto_region 8 with (go_at_call 10; refine C3.mono ?_; rintro e y4 ⟨p4, q4, rfl, _, _, _, R4, L4⟩)
  have M5 := Base.next M4 L4
  have hz : Ints .u64 y4 p4 [0] := R4.row
  have hL5 := (Below.refl y4.heap.size y4).alloc (Nat.le_refl _) (.cells #[.int .u64 0] 23)
  have CS := Fold.ref_same p4 (some ⟨y4.heap.size, 0, none⟩) 1 q4 1 [0] (y4.alloc (.cells #[.int .u64 0] 23)) rfl (by decide) (hz.below hL5) (Row.lit y4 _ [.int .u64 0])
  clear c1 hlt C3 R4 hz T4 P4
  go_wp2_with (go_at_call 12; refine CS.mono ?_; rintro e y5 ⟨rfl, L5⟩)
  all_goals go_ret
  all_goals exact ⟨rfl, M5.trans ((Base.next hL5 L5).mono M5.size)⟩
end Go.Proofs.Ytoncominjgkjoaa.Loss
