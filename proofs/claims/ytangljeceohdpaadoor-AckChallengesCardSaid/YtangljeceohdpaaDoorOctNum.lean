/-
  Contracts of a reader's Num.
-/
import Derived.Test.YtangljeceohdpaaDoorRows
import Derived.Test.YtangljeceohdpaaDoorFr
import Derived.Test.YtangljeceohdpaaDoorOctPlain
import Derived.Test.YtangljeceohdpaaDoorTab
import Derived.Test.YtangljeceohdpaaDoorOct
import Derived.WalkKit
import Derived.ProofKit
import Derived.OpenShut
import Derived.WalkSpells
import Derived.Deep.RegionWith
import Derived.LoopTactic
import Derived.Lib.Hide
import Derived.OwnWalk
import Derived.Deep.OwnRows
namespace Go.Proofs.YtangljeceohdpaaDoor.Oct
set_option linter.unusedVariables false
open Go.ChangeShapes Go.WideShapes Go.ChangeAt Go.RowKit
open Go.Proofs.YtangljeceohdpaaDoor.Base Go.Proofs.YtangljeceohdpaaDoor.OctPlain Go.Proofs.YtangljeceohdpaaDoor.Tab

theorem num_nil {S : Nat → Prop} {w : World} {b : Nat} (h : Rd S w b []) :
    Calls Tryd.prog 39 #[.pointer (some ⟨b, 0, none⟩)] w fun e w' => e = .returned (.tuple #[.int .u64 0, .int .i64 2]) ∧ w = w' := by
  obtain ⟨hS, a, cap, hB, hlc, hcm, h0, hR⟩ := h
  have c0 : w.cell? ⟨b, 0, none⟩ = some (.slice a 0 cap) := hB.cell 0
  go_enter Tryd.func39, Tryd.ntmps39
  go_wp2
  all_goals go_ret2
  all_goals exact ⟨rfl, rfl⟩
theorem num_short {S : Nat → Prop} {w : World} {b : Nat} {x : Int} {r : List Int} (h : Rd S w b (x :: r)) (hx : 0 ≤ x ∧ x ≤ 255) (hl : r.length + 1 < need x) :
    Calls Tryd.prog 39 #[.pointer (some ⟨b, 0, none⟩)] w fun e w' => e = .returned (.tuple #[.int .u64 0, .int .i64 2]) ∧ w = w' := by
  obtain ⟨hS, a, cap, hB, hlc, hcm, h0, hR⟩ := h
  have c0 : w.cell? ⟨b, 0, none⟩ = some (.slice a (r.length + 1) cap) := hB.cell 0
  obtain ⟨g, off, rfl, ⟨hg, hgb⟩, hgl, hc⟩ := hR 0 (.int .u8 x) rfl
  have cx : w.cell? ⟨g, off, none⟩ = some (.int .u8 x) := hc
  have hlen : r.length + 1 ≤ cap := hlc
  have hw := need_pow hx
  have nb := need_bd x
  generalize need x = k at hw nb hl
  obtain ⟨x0, x1⟩ := hx
  go_enter Tryd.func39, Tryd.ntmps39
  go_wp2
  all_goals go_ret2
  all_goals exact ⟨rfl, rfl⟩
set_option maxHeartbeats 1000000 in
theorem num_long {S : Nat → Prop} {w : World} {b : Nat} {x : Int} {r : List Int} (h : Rd S w b (x :: r)) (hb : Bytes (x :: r)) (hl : need x ≤ r.length + 1) (hr : r.length < 140737488355328) :
    Calls Tryd.prog 39 #[.pointer (some ⟨b, 0, none⟩)] w fun e w' => e = .returned (.tuple #[.int .u64 (num (x :: r)).1, .int .i64 (num (x :: r)).2.2]) ∧ Rd S w' b ((x :: r).drop (num (x :: r)).2.1) ∧ Fr (fun k => k = b) w w' := by
  have h' := h
  obtain ⟨hS, a, cap, hB, hlc, hcm, h0, hR⟩ := h
  have c0 : w.cell? ⟨b, 0, none⟩ = some (.slice a (r.length + 1) cap) := hB.cell 0
  have f0 := hB.free 0
  obtain ⟨g, off, rfl, ⟨hg, hgb⟩, hgl, hc⟩ := hR 0 (.int .u8 x) rfl
  have cx : w.cell? ⟨g, off, none⟩ = some (.int .u8 x) := hc
  have hlen : r.length + 1 ≤ cap := hlc
  have hw := need_pow hb.head
  have nb := need_bd x
  have hN : num (x :: r) = if size (val (x % 64 :: r.take (need x - 1))) = need x then (val (x % 64 :: r.take (need x - 1)), need x, 0) else (0, 0, 5) := by
    rw [num_cons, if_neg (by simp only [List.length_cons]; omega)]
  have hcut := val_cut hb.head (hb.tail.take (need x - 1))
  have hrl : (r.take (need x - 1)).length = need x - 1 := by rw [List.length_take]; omega
  rw [hrl] at hcut
  have hT : (x :: r).take (need x) = x :: r.take (need x - 1) := by
    obtain ⟨j, hj⟩ : ∃ j, need x = j + 1 := ⟨need x - 1, by omega⟩
    rw [hj]; rfl
  have hbT : Bytes (x :: r.take (need x - 1)) := Bytes.cons hb.head (hb.tail.take _)
  have hv := val_bd8 hbT (by rw [List.length_cons, hrl]; omega)
  have hm := and_mask hv.1 hv.2 nb.1 nb.2
  rw [← hcut] at hm
  have hI : Ints .u8 w (some ⟨g, off, none⟩) (x :: r.take (need x - 1)) := by
    rw [← hT]
    show Row w _ (((x :: r).take (need x)).map _)
    rw [List.map_take]
    exact hR.row.take _
  have hj := fun w1 hI => join_any (some ⟨g, off, none⟩) (need x) cap (x :: r.take (need x - 1)) w1 (by rw [List.length_cons, hrl]; omega) nb.2 hbT hI
  have hnb := val_bd8 (l := x % 64 :: r.take (need x - 1)) (Bytes.cons (by omega) (hb.tail.take _)) (by rw [List.length_cons, hrl]; omega)
  rw [hN]
  clear hN hcut hrl hT hbT hc hv
  generalize val (x :: r.take (need x - 1)) = v at *
  generalize val (x % 64 :: r.take (need x - 1)) = n at *
  generalize need x = k at *
  obtain ⟨x0, x1⟩ := hb.head
  have hsz := size_any n hnb.1
  have e1 : IntKind.i64.wrap (8 * (k : Int)) = 8 * (k : Int) := by rw [IntKind.wrap_i64]; omega
  have e2 : IntKind.i64.wrap (8 * (k : Int) - 2) = 8 * (k : Int) - 2 := by rw [IntKind.wrap_i64]; omega
  have e3 : Op.shift .shl .u64 1 .i64 (8 * (k : Int) - 2) = pure (.int .u64 (IntKind.u64.wrap (2 ^ (8 * k - 2)))) := by
    rw [← show (8 * (k : Int) - 2).toNat = 8 * k - 2 by omega, shift_shl _ _ _ _ (by omega) (by show _ ≤ ((64 : Nat) : Int); omega), Int.one_mul]
  by_cases hs : size n = k
  · rw [if_pos hs]
    rw [hs] at hsz
    go_enter Tryd.func39, Tryd.ntmps39
    go_wp2
    go_region_with (go_at_call 55; refine (hj _ hI.drew).mono ?_; rintro e w' ⟨rfl, rfl⟩)
    all_goals go_wp2_with (go_at_call 52; (with_reducible refine (hsz _).mono ?_); rintro e w' ⟨rfl, rfl⟩)
    all_goals go_ret2
    · have X := rd_step (l := x :: r) (a' := some ⟨g, off, none⟩) (cap' := 0) hS hB (Below.refl _ _) hlc hcm h0 hR hl (.inl ⟨by assumption, rfl, rfl⟩)
      exact ⟨rfl, X.1.drew, X.2.1.drew⟩
    · have X := rd_step (l := x :: r) (a' := Option.map (fun x : Addr => x.add k) (some ⟨g, off, none⟩)) (cap' := cap - k) hS hB (Below.refl _ _) hlc hcm h0 hR hl (.inr ⟨by assumption, rfl, rfl⟩)
      have e : Option.map (fun x : Addr => x.add k) (some (⟨g, off, none⟩ : Addr)) = some ⟨g, off + k, none⟩ := by simp [add_plain]
      rw [e] at X
      exact ⟨rfl, X.1.drew, X.2.1.drew⟩
  · rw [if_neg hs]
    go_enter Tryd.func39, Tryd.ntmps39
    go_wp2
    go_region_with (go_at_call 55; refine (hj _ hI.drew).mono ?_; rintro e w' ⟨rfl, rfl⟩)
    all_goals go_wp2_with (go_at_call 52; (with_reducible refine (hsz _).mono ?_); rintro e w' ⟨rfl, rfl⟩)
    all_goals go_ret2
    all_goals exact ⟨rfl, h'.drew, (Fr.refl _ _).drew⟩
theorem num_any {S : Nat → Prop} {w : World} {b : Nat} {l : List Int} (h : Rd S w b l) (hb : Bytes l) (hr : l.length ≤ 140737488355328) :
    Calls Tryd.prog 39 #[.pointer (some ⟨b, 0, none⟩)] w fun e w' => e = .returned (.tuple #[.int .u64 (num l).1, .int .i64 (num l).2.2]) ∧ Rd S w' b (l.drop (num l).2.1) ∧ Fr (fun k => k = b) w w' := by
  cases l with
  | nil => exact (num_nil h).mono fun e w' ⟨he, hw⟩ => by subst hw; exact ⟨he, h, Fr.refl _ _⟩
  | cons x r =>
    by_cases hl : need x ≤ r.length + 1
    · exact num_long h hb hl (by simp only [List.length_cons] at hr; omega)
    · have hN : num (x :: r) = (0, 0, 2) := by rw [num_cons, if_pos (by simp only [List.length_cons]; omega)]
      rw [hN]
      exact (num_short h hb.head (by omega)).mono fun e w' ⟨he, hw⟩ => by subst hw; exact ⟨he, h, Fr.refl _ _⟩
end Go.Proofs.YtangljeceohdpaaDoor.Oct
