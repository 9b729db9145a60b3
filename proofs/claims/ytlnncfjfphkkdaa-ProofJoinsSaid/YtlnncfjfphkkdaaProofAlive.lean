/-
  The examples of chapter 14 hold (alive), out of the contracts of the program's ledger and proof.
-/
import Derived.Test.YtlnncfjfphkkdaaProof
import Derived.Test.YtlnncfjfphkkdaaM9
set_option linter.unusedSimpArgs false
set_option linter.unusedVariables false
namespace Go.Proofs.Ytlnncfjfphkkdaa.Led
set_option linter.unusedVariables false
set_option maxRecDepth 20000
open Go.ChangeShapes Go.WideShapes Go.ChangeAt Go.RowKit
open Go.Proofs.Ytlnncfjfphkkdaa.Base Go.Proofs.Ytlnncfjfphkkdaa.LedPlain Go.Proofs.Ytlnncfjfphkkdaa.SpanPlain Go.Proofs.Ytlnncfjfphkkdaa.SpanRef
open Go.Proofs.Ytlnncfjfphkkdaa.AckPlain (K)

def sP1 : Sn := { Z8 with len := 1, nonce := 6, coin := true }
def sP2 : Sn := { Z8 with len := 1, nonce := 5, coin := true }
def gP0 : Lg := madeG 4 99 []
def gP1 : Lg := sendG gP0 sP1
def gP2 : Lg := sendG gP1 sP2
def gP3 : Lg := skipG gP2
theorem exP1 : sumG gP3 [(0, 1)] [] = (3, false, true) := by decide +kernel
theorem exP2 : sumG gP3 [(0, 2)] [] = (0, false, false) := by decide +kernel
theorem exP3 : sumG gP3 [] [] = (0, false, true) := by decide +kernel
theorem exP4 : checkG gP3 ⟨[(0, 1)], [], 0, 3, false⟩ = (0, 0) := by decide +kernel
theorem exP5 : checkG gP3 ⟨[(1, 2)], [], 0, 0, false⟩ = (5, 2) := by decide +kernel
theorem exP6 : checkG gP3 ⟨[(1, 9)], [], 0, 0, false⟩ = (4, 3) := by decide +kernel
theorem len_p3 : gP3.l.length ≤ 9 := by decide +kernel
theorem len_p2 : gP2.l.length ≤ 9 := by decide +kernel
theorem len_p1 : gP1.l.length ≤ 9 := by decide +kernel
theorem len_p0 : gP0.l.length ≤ 9 := by decide +kernel
theorem fits_lit {lo hi : Int} (h0 : 0 ≤ lo ∧ lo ≤ 18446744073709551615) (h1 : 0 ≤ hi ∧ hi ≤ 18446744073709551615) : Fits [(lo, hi)] := fun s hs => by
  obtain rfl : s = (lo, hi) := by simpa using hs
  exact ⟨h0, h1⟩
theorem spans_lit (u : World) (lo hi : Int) (T : TypeId) : Spans (u.alloc (.cells #[.int .u64 lo, .int .u64 hi] T)) (some ⟨u.heap.size, 0, none⟩) [(lo, hi)] := Row.lit u T [.int .u64 lo, .int .u64 hi]
set_option maxHeartbeats 2000000 in
theorem alive_proof (w : World) :
    Calls Try.prog 9 #[] w fun e w' => e = .returned (.bool true) ∧ Below w.heap.size w w' := by
  have CM := make_any 4 99 (by decide) (by decide) (by decide) (by decide) none 0 0 [] w rfl (Nat.le_refl _) (Nat.zero_le _) (fun _ h => by cases h) (Deeds.nil _ _)
  go_enter Try.func9, Try.ntmps9
  go_upto_region 4 with (go_at_call 8; refine CM.mono ?_; rintro e u1 ⟨a, b, S2, rfl, P1, hS2, L1⟩)
  refine at_world ?_
  intro u2 hu2
  obtain ⟨T2, P2, M2⟩ : Blk u2 u1.heap.size #[.pointer (some a), .pointer (some ⟨b, 0, none⟩)] 27 ∧ Led S2 u2 a gP0 ∧ Below w.heap.size w u2 := by
    subst hu2
    exact ⟨Blk.new _ _ _, P1.led.below ((Below.refl _ _).alloc (Nat.le_refl _) _), L1.alloc L1.size _⟩
  have nc2 : ¬ S2 u1.heap.size := fun e => (by have := P1.lt _ e; omega)
  have c2 : u2.cell? ⟨u1.heap.size, 0, none⟩ = some (.pointer (some a)) := T2.cell 0
  clear hu2 CM P1 L1
  have CS2 := send_any P2 sP1 (by unfold Words sP1 Z8; decide) (by have := len_p0; omega)
  go_upto_region 5 with (go_at_call 27; refine CS2.mono ?_; rintro e u3 ⟨rfl, P3, F3⟩)
  have T3 := T2.kept F3 nc2
  have M3 := M2.trans (F3.toBelow' (B := w.heap.size) M2.size fun k _ hk => hS2 k hk)
  have q3 := F3.size
  have nc3 : ¬ Plus S2 u2 u3 u1.heap.size := fun e => by
    rcases e with e | e
    · exact nc2 e
    · have := T2.lt
      omega
  have hS3 : ∀ k, Plus S2 u2 u3 k → w.heap.size ≤ k := fun k e => by
    rcases e with e | e
    · exact hS2 k e
    · exact Nat.le_trans M2.size e.1
  generalize Plus S2 u2 u3 = S3 at *
  have c3 : u3.cell? ⟨u1.heap.size, 0, none⟩ = some (.pointer (some a)) := T3.cell 0
  replace P3 : Led S3 u3 a gP1 := P3
  clear T2 M2 F3 nc2 hS2 c2
  have CS3 := send_any P3 sP2 (by unfold Words sP2 Z8; decide) (by have := len_p1; omega)
  go_upto_region 6 with (go_at_call 27; refine CS3.mono ?_; rintro e u4 ⟨rfl, P4, F4⟩)
  have T4 := T3.kept F4 nc3
  have M4 := M3.trans (F4.toBelow' (B := w.heap.size) M3.size fun k _ hk => hS3 k hk)
  have q4 := F4.size
  have nc4 : ¬ Plus S3 u3 u4 u1.heap.size := fun e => by
    rcases e with e | e
    · exact nc3 e
    · have := T3.lt
      omega
  have hS4 : ∀ k, Plus S3 u3 u4 k → w.heap.size ≤ k := fun k e => by
    rcases e with e | e
    · exact hS3 k e
    · exact Nat.le_trans M3.size e.1
  generalize Plus S3 u3 u4 = S4 at *
  have c4 : u4.cell? ⟨u1.heap.size, 0, none⟩ = some (.pointer (some a)) := T4.cell 0
  replace P4 : Led S4 u4 a gP2 := P4
  clear T3 M3 F4 nc3 hS3 c3
  have CS4 := skip_any P4 (by have := len_p2; omega)
  go_upto_region 7 with (go_at_call 28; refine CS4.mono ?_; rintro e u5 ⟨rfl, P5, F5⟩)
  have T5 := T4.kept F5 nc4
  have M5 := M4.trans (F5.toBelow' (B := w.heap.size) M4.size fun k _ hk => hS4 k hk)
  have q5 := F5.size
  have nc5 : ¬ Plus S4 u4 u5 u1.heap.size := fun e => by
    rcases e with e | e
    · exact nc4 e
    · have := T4.lt
      omega
  have hS5 : ∀ k, Plus S4 u4 u5 k → w.heap.size ≤ k := fun k e => by
    rcases e with e | e
    · exact hS4 k e
    · exact Nat.le_trans M4.size e.1
  generalize Plus S4 u4 u5 = S5 at *
  have c5 : u5.cell? ⟨u1.heap.size, 0, none⟩ = some (.pointer (some a)) := T5.cell 0
  replace P5 : Led S5 u5 a gP3 := P5
  clear T4 M4 F5 nc4 hS4 c4
  clear CS2 CS3 CS4
  go_upto_region 8 with fail
  refine at_world ?_
  intro W hW
  obtain ⟨T6, P6, M6, s6⟩ : Blk W u1.heap.size #[.pointer (some a), .pointer (some ⟨b, 0, none⟩)] 27 ∧ Led S5 W a gP3 ∧ Below w.heap.size w W ∧ Spans W (some ⟨u5.heap.size, 0, none⟩) [(0, 1)] := by
    subst hW
    exact ⟨T5.alloc _, P5.below ((Below.refl _ _).alloc (Nat.le_refl _) _), M5.alloc M5.size _, spans_lit _ _ _ _⟩
  clear hW T5 P5 M5 nc5 hS5 c5
  have hgl : gP3.l.length ≤ 1000000 := by have := len_p3; omega
  have hal := fun (V : World) (hV : Below W.heap.size W V) (o : Obj) => hV.alloc hV.size o
  have cT := fun (V : World) (hV : Below W.heap.size W V) => show V.cell? ⟨u1.heap.size, 0, none⟩ = some (.pointer (some a)) from (T6.below hV T6.lt).cell 0
  have C1 := fun (V : World) (hV : Below W.heap.size W V) => sum_any (P6.below hV) hgl (some ⟨u5.heap.size, 0, none⟩) none 1 1 0 0 [(0, 1)] [] rfl rfl (by decide) (by decide) (fits_lit (by decide) (by decide)) Fits.nil (Row.below s6 hV) (Spans.nil _ _)
  have C2 := fun (V : World) (hV : Below W.heap.size W V) => sum_any (P6.below (hal V hV _)) hgl (some ⟨V.heap.size, 0, none⟩) none 1 1 0 0 [(0, 2)] [] rfl rfl (by decide) (by decide) (fits_lit (by decide) (by decide)) Fits.nil (spans_lit V 0 2 53) (Spans.nil _ _)
  have C3 := fun (V : World) (hV : Below W.heap.size W V) => sum_any (P6.below hV) hgl none none 0 0 0 0 [] [] rfl rfl (by decide) (by decide) Fits.nil Fits.nil (Spans.nil _ _) (Spans.nil _ _)
  have C4 := fun (V : World) (hV : Below W.heap.size W V) => check_any (P6.below hV) hgl ⟨[(0, 1)], [], 0, 3, false⟩ (some ⟨u5.heap.size, 0, none⟩) none 1 1 0 0 rfl rfl (by decide) (by decide) (fits_lit (by decide) (by decide)) Fits.nil (Row.below s6 hV) (Spans.nil _ _)
  have C5 := fun (V : World) (hV : Below W.heap.size W V) => check_any (P6.below (hal V hV _)) hgl ⟨[(1, 2)], [], 0, 0, false⟩ (some ⟨V.heap.size, 0, none⟩) none 1 1 0 0 rfl rfl (by decide) (by decide) (fits_lit (by decide) (by decide)) Fits.nil (spans_lit V 1 2 53) (Spans.nil _ _)
  have C6 := fun (V : World) (hV : Below W.heap.size W V) => check_any (P6.below (hal V hV _)) hgl ⟨[(1, 9)], [], 0, 0, false⟩ (some ⟨V.heap.size, 0, none⟩) none 1 1 0 0 rfl rfl (by decide) (by decide) (fits_lit (by decide) (by decide)) Fits.nil (spans_lit V 1 9 53) (Spans.nil _ _)
  rw [exP1] at C1
  rw [exP2] at C2
  rw [exP3] at C3
  rw [exP4] at C4
  rw [exP5] at C5
  rw [exP6] at C6
  have x6 := cT W (Below.refl _ _)
  have N6 : Below W.heap.size W W := Below.refl _ _
  go_wp2_with (first
    | (go_at_call 10; (with_reducible refine (C1 _ N6).mono ?_); rintro e v1 ⟨rfl, L1⟩; have N1 := N6.trans (L1.mono N6.size); have x1 := cT _ N1; clear C1)
    | (go_at_call 10; (with_reducible refine (C2 _ N1).mono ?_); rintro e v2 ⟨rfl, L2⟩; have N2 := (hal _ N1 _).trans (L2.mono (hal _ N1 _).size); have x2 := cT _ N2; clear C2)
    | (go_at_call 10; (with_reducible refine (C3 _ N2).mono ?_); rintro e v3 ⟨rfl, L3⟩; have N3 := N2.trans (L3.mono N2.size); have x3 := cT _ N3; clear C3)
    | (go_at_call 14; (with_reducible refine (C4 _ N3).mono ?_); rintro e v4 ⟨rfl, L4⟩; have N4 := N3.trans (L4.mono N3.size); have x4 := cT _ N4; clear C4)
    | (go_at_call 14; (with_reducible refine (C5 _ N4).mono ?_); rintro e v5 ⟨rfl, L5⟩; have N5 := (hal _ N4 _).trans (L5.mono (hal _ N4 _).size); have x5 := cT _ N5; clear C5)
    | (go_at_call 14; (with_reducible refine (C6 _ N5).mono ?_); rintro e v6 ⟨rfl, L6⟩; have N7 := (hal _ N5 _).trans (L6.mono (hal _ N5 _).size); clear C6))
  go_ret
  exact ⟨rfl, M6.trans (N7.mono M6.size)⟩
end Go.Proofs.Ytlnncfjfphkkdaa.Led
