/-
  Contracts of the laws' At and Conf.
-/
import Derived.Test.YtnnpklnhdfpnjaaRows
import Derived.Test.YtnnpklnhdfpnjaaFr
import Derived.Test.YtnnpklnhdfpnjaaRowSt
import Derived.Test.YtnnpklnhdfpnjaaConfPlain
import Derived.WalkKit
import Derived.ProofKit
import Derived.OpenShut
import Derived.WalkSpells
import Derived.LoopTactic
import Derived.Lib.Hide
import Derived.Deep.Cut
import Derived.Deep.RegionWith
import Derived.BigQuiet
import Derived.StillTailTactics
set_option linter.unusedSimpArgs false
set_option linter.unusedVariables false
namespace Go.Proofs.Ytnnpklnhdfpnjaa.Conf
set_option linter.unusedVariables false
set_option maxRecDepth 20000
open Go.ChangeShapes Go.WideShapes Go.ChangeAt Go.RowKit
open Go.Proofs.Ytnnpklnhdfpnjaa.Base Go.Proofs.Ytnnpklnhdfpnjaa.ConfPlain

/-- Numbers that may be, each in its range. -/
def Made (c : C) : Prop := 1 ≤ c.bits ∧ c.bits ≤ 64 ∧ 0 ≤ c.one ∧ c.one ≠ 1 ∧ c.one ≤ 40 ∧ 4 ≤ c.ring ∧ c.ring ≤ 43 ∧ 0 ≤ c.limit ∧ c.limit ≤ 4611686018427387903 ∧ 1 ≤ c.room ∧ c.room ≤ 300 ∧ 1 ≤ c.mss ∧ c.mss ≤ 40 ∧ 2 * c.mss ≤ c.least ∧ c.least ≤ c.initial ∧ c.initial ≤ c.most ∧ c.most ≤ 630 ∧ 1 ≤ c.algo ∧ c.algo ≤ 2 ∧
  1 ≤ c.first ∧ c.first ≤ 200000 ∧ 1 ≤ c.grain ∧ c.grain ≤ c.cap ∧ c.cap ≤ 402000 ∧ c.mss ≤ c.burst ∧ c.burst ≤ 440 ∧ 1 ≤ c.slowest ∧ c.slowest ≤ 100000 ∧ 0 ≤ c.chal ∧ c.chal ≤ 4 ∧ 1 ≤ c.every ∧ c.every ≤ 100000
theorem wrap64 {n : Int} (h0 : 0 ≤ n) (h1 : n ≤ 18446744073709551615) : IntKind.u64.wrap n = n := IntWalk.u64_in n ⟨h0, h1⟩
theorem at_any (a : Option Addr) (n cap : Nat) (z : List Int) (i x : Int) (w : World) (hn : z.length = n) (hm : n ≤ maxLen) (i0 : 0 ≤ i) (i1 : i ≤ 100) (hb : ∀ x ∈ z, 0 ≤ x ∧ x ≤ 4294967295) (hx : z.getD i.toNat 0 = x) (hz : Ints .u32 w a z) :
    Calls Try.prog 19 #[.slice a n cap, .int .i64 i] w fun e w' => e = .returned (.int .u64 x) ∧ w = w' := by
  subst hn
  obtain ⟨k, rfl⟩ := Int.eq_ofNat_of_zero_le i0
  rw [Int.toNat_natCast] at hx
  unfold maxLen at hm
  by_cases hlt : k < z.length
  · have hkI : (k : Int) < (z.length : Int) := by omega
    obtain ⟨b, off, rfl, hbl, hcell⟩ := hz.at_ hlt
    obtain ⟨x0, x1⟩ : 0 ≤ x ∧ x ≤ 4294967295 := by
      rw [← hx, List.getD_eq_getElem?_getD, List.getElem?_eq_getElem hlt]
      exact hb _ (List.getElem_mem hlt)
    rw [hx] at hcell
    clear hx hb
    go_enter Try.func19, Try.ntmps19
    go_wp2
    go_ret
    exact ⟨rfl, rfl⟩
  · have hkI : ¬ (k : Int) < (z.length : Int) := by omega
    obtain rfl : x = 0 := by
      rw [← hx, List.getD_eq_getElem?_getD, List.getElem?_eq_none (by omega)]
      rfl
    clear hx hb
    go_enter Try.func19, Try.ntmps19
    go_wp2
    go_ret
    exact ⟨rfl, rfl⟩
theorem at_some (a : Option Addr) (n cap : Nat) (z : List Int) (i : Int) (hn : z.length = n) (hm : n ≤ maxLen) (i0 : 0 ≤ i) (i1 : i ≤ 100) (hb : ∀ x ∈ z, 0 ≤ x ∧ x ≤ 4294967295) :
    ∃ x : Int, (∀ W, Ints .u32 W a z → Calls Try.prog 19 #[.slice a n cap, .int .i64 i] W fun e w' => e = .returned (.int .u64 x) ∧ W = w') ∧ 0 ≤ x ∧ x ≤ 4294967295 := by
  refine ⟨z.getD i.toNat 0, fun W hz => at_any a n cap z i _ W hn hm i0 i1 hb rfl hz, ?_⟩
  rw [List.getD_eq_getElem?_getD]
  cases hx : z[i.toNat]? with
  | none => exact ⟨Int.le_refl _, by decide⟩
  | some x => exact hb x (List.mem_of_getElem? hx)
-- CONF
set_option maxHeartbeats 4000000 in
theorem conf_any (a : Option Addr) (n cap : Nat) (z : List Int) (w : World) (hn : z.length = n) (hm : n ≤ maxLen) (hb : ∀ x ∈ z, 0 ≤ x ∧ x ≤ 4294967295) (hz : Ints .u32 w a z) :
    Calls Try.prog 7 #[.slice a n cap] w fun e w' => ∃ c : C, e = .returned (.agg #[.int .i64 c.bits, .int .u64 c.one, .int .i64 c.ring, .int .u64 c.limit, .int .i64 c.room, .int .u64 c.mss, .int .u64 c.initial, .int .u64 c.least, .int .u64 c.most, .int .i64 c.algo, .int .u64 c.first, .int .u64 c.grain, .int .u64 c.cap, .int .u64 c.burst, .int .u64 c.slowest, .int .i64 c.chal, .int .u64 c.every]) ∧ Made c ∧ Below w.heap.size w w' := by
  obtain ⟨x0, H0, l0, u0⟩ : ∃ x : Int, (∀ W, Ints .u32 W a z → Calls Try.prog 19 #[.slice a n cap, .int .i64 0] W fun e w' => e = .returned (.int .u64 x) ∧ W = w') ∧ 0 ≤ x ∧ x ≤ 4294967295 := at_some a n cap z 0 hn hm (by decide) (by decide) hb
  obtain ⟨x1, H1, l1, u1⟩ : ∃ x : Int, (∀ W, Ints .u32 W a z → Calls Try.prog 19 #[.slice a n cap, .int .i64 1] W fun e w' => e = .returned (.int .u64 x) ∧ W = w') ∧ 0 ≤ x ∧ x ≤ 4294967295 := at_some a n cap z 1 hn hm (by decide) (by decide) hb
  obtain ⟨x2, H2, l2, u2⟩ : ∃ x : Int, (∀ W, Ints .u32 W a z → Calls Try.prog 19 #[.slice a n cap, .int .i64 2] W fun e w' => e = .returned (.int .u64 x) ∧ W = w') ∧ 0 ≤ x ∧ x ≤ 4294967295 := at_some a n cap z 2 hn hm (by decide) (by decide) hb
  obtain ⟨x3, H3, l3, u3⟩ : ∃ x : Int, (∀ W, Ints .u32 W a z → Calls Try.prog 19 #[.slice a n cap, .int .i64 3] W fun e w' => e = .returned (.int .u64 x) ∧ W = w') ∧ 0 ≤ x ∧ x ≤ 4294967295 := at_some a n cap z 3 hn hm (by decide) (by decide) hb
  obtain ⟨x4, H4, l4, u4⟩ : ∃ x : Int, (∀ W, Ints .u32 W a z → Calls Try.prog 19 #[.slice a n cap, .int .i64 4] W fun e w' => e = .returned (.int .u64 x) ∧ W = w') ∧ 0 ≤ x ∧ x ≤ 4294967295 := at_some a n cap z 4 hn hm (by decide) (by decide) hb
  obtain ⟨x5, H5, l5, u5⟩ : ∃ x : Int, (∀ W, Ints .u32 W a z → Calls Try.prog 19 #[.slice a n cap, .int .i64 5] W fun e w' => e = .returned (.int .u64 x) ∧ W = w') ∧ 0 ≤ x ∧ x ≤ 4294967295 := at_some a n cap z 5 hn hm (by decide) (by decide) hb
  obtain ⟨x6, H6, l6, u6⟩ : ∃ x : Int, (∀ W, Ints .u32 W a z → Calls Try.prog 19 #[.slice a n cap, .int .i64 6] W fun e w' => e = .returned (.int .u64 x) ∧ W = w') ∧ 0 ≤ x ∧ x ≤ 4294967295 := at_some a n cap z 6 hn hm (by decide) (by decide) hb
  obtain ⟨x7, H7, l7, u7⟩ : ∃ x : Int, (∀ W, Ints .u32 W a z → Calls Try.prog 19 #[.slice a n cap, .int .i64 7] W fun e w' => e = .returned (.int .u64 x) ∧ W = w') ∧ 0 ≤ x ∧ x ≤ 4294967295 := at_some a n cap z 7 hn hm (by decide) (by decide) hb
  obtain ⟨x8, H8, l8, u8⟩ : ∃ x : Int, (∀ W, Ints .u32 W a z → Calls Try.prog 19 #[.slice a n cap, .int .i64 8] W fun e w' => e = .returned (.int .u64 x) ∧ W = w') ∧ 0 ≤ x ∧ x ≤ 4294967295 := at_some a n cap z 8 hn hm (by decide) (by decide) hb
  obtain ⟨x9, H9, l9, u9⟩ : ∃ x : Int, (∀ W, Ints .u32 W a z → Calls Try.prog 19 #[.slice a n cap, .int .i64 9] W fun e w' => e = .returned (.int .u64 x) ∧ W = w') ∧ 0 ≤ x ∧ x ≤ 4294967295 := at_some a n cap z 9 hn hm (by decide) (by decide) hb
  obtain ⟨x10, H10, l10, u10⟩ : ∃ x : Int, (∀ W, Ints .u32 W a z → Calls Try.prog 19 #[.slice a n cap, .int .i64 10] W fun e w' => e = .returned (.int .u64 x) ∧ W = w') ∧ 0 ≤ x ∧ x ≤ 4294967295 := at_some a n cap z 10 hn hm (by decide) (by decide) hb
  obtain ⟨x11, H11, l11, u11⟩ : ∃ x : Int, (∀ W, Ints .u32 W a z → Calls Try.prog 19 #[.slice a n cap, .int .i64 11] W fun e w' => e = .returned (.int .u64 x) ∧ W = w') ∧ 0 ≤ x ∧ x ≤ 4294967295 := at_some a n cap z 11 hn hm (by decide) (by decide) hb
  obtain ⟨x12, H12, l12, u12⟩ : ∃ x : Int, (∀ W, Ints .u32 W a z → Calls Try.prog 19 #[.slice a n cap, .int .i64 12] W fun e w' => e = .returned (.int .u64 x) ∧ W = w') ∧ 0 ≤ x ∧ x ≤ 4294967295 := at_some a n cap z 12 hn hm (by decide) (by decide) hb
  obtain ⟨x13, H13, l13, u13⟩ : ∃ x : Int, (∀ W, Ints .u32 W a z → Calls Try.prog 19 #[.slice a n cap, .int .i64 13] W fun e w' => e = .returned (.int .u64 x) ∧ W = w') ∧ 0 ≤ x ∧ x ≤ 4294967295 := at_some a n cap z 13 hn hm (by decide) (by decide) hb
  obtain ⟨x14, H14, l14, u14⟩ : ∃ x : Int, (∀ W, Ints .u32 W a z → Calls Try.prog 19 #[.slice a n cap, .int .i64 14] W fun e w' => e = .returned (.int .u64 x) ∧ W = w') ∧ 0 ≤ x ∧ x ≤ 4294967295 := at_some a n cap z 14 hn hm (by decide) (by decide) hb
  obtain ⟨x15, H15, l15, u15⟩ : ∃ x : Int, (∀ W, Ints .u32 W a z → Calls Try.prog 19 #[.slice a n cap, .int .i64 15] W fun e w' => e = .returned (.int .u64 x) ∧ W = w') ∧ 0 ≤ x ∧ x ≤ 4294967295 := at_some a n cap z 15 hn hm (by decide) (by decide) hb
  obtain ⟨x16, H16, l16, u16⟩ : ∃ x : Int, (∀ W, Ints .u32 W a z → Calls Try.prog 19 #[.slice a n cap, .int .i64 16] W fun e w' => e = .returned (.int .u64 x) ∧ W = w') ∧ 0 ≤ x ∧ x ≤ 4294967295 := at_some a n cap z 16 hn hm (by decide) (by decide) hb
  clear hb hn hm
  go_enter Try.func7, Try.ntmps7
  go_upto_region 2 with fail
  have hB := Blk.new (w.alloc (.cells #[.int .i64 0, .int .u64 0, .int .i64 0, .int .u64 0, .int .i64 0, .int .u64 0, .int .u64 0, .int .u64 0, .int .u64 0, .int .i64 0, .int .u64 0, .int .u64 0, .int .u64 0, .int .u64 0, .int .u64 0, .int .i64 0, .int .u64 0] 24)) #[.int .i64 0, .int .u64 0, .int .i64 0, .int .u64 0, .int .i64 0, .int .u64 0, .int .u64 0, .int .u64 0, .int .u64 0, .int .i64 0, .int .u64 0, .int .u64 0, .int .u64 0, .int .u64 0, .int .u64 0, .int .i64 0, .int .u64 0] 24
  have hL : Below w.heap.size w ((w.alloc (.cells #[.int .i64 0, .int .u64 0, .int .i64 0, .int .u64 0, .int .i64 0, .int .u64 0, .int .u64 0, .int .u64 0, .int .u64 0, .int .i64 0, .int .u64 0, .int .u64 0, .int .u64 0, .int .u64 0, .int .u64 0, .int .i64 0, .int .u64 0] 24)).alloc (.cells #[.int .i64 0, .int .u64 0, .int .i64 0, .int .u64 0, .int .i64 0, .int .u64 0, .int .u64 0, .int .u64 0, .int .u64 0, .int .i64 0, .int .u64 0, .int .u64 0, .int .u64 0, .int .u64 0, .int .u64 0, .int .i64 0, .int .u64 0] 24)) := ((Below.refl _ _).alloc (Nat.le_refl _) _).alloc (by simp) _
  rw [World.size_alloc] at hB
  have hR := (Blk.new w #[.int .i64 0, .int .u64 0, .int .i64 0, .int .u64 0, .int .i64 0, .int .u64 0, .int .u64 0, .int .u64 0, .int .u64 0, .int .i64 0, .int .u64 0, .int .u64 0, .int .u64 0, .int .u64 0, .int .u64 0, .int .i64 0, .int .u64 0] 24).alloc (.cells #[.int .i64 0, .int .u64 0, .int .i64 0, .int .u64 0, .int .i64 0, .int .u64 0, .int .u64 0, .int .u64 0, .int .u64 0, .int .i64 0, .int .u64 0, .int .u64 0, .int .u64 0, .int .u64 0, .int .u64 0, .int .i64 0, .int .u64 0] 24)
  generalize (w.alloc (.cells #[.int .i64 0, .int .u64 0, .int .i64 0, .int .u64 0, .int .i64 0, .int .u64 0, .int .u64 0, .int .u64 0, .int .u64 0, .int .i64 0, .int .u64 0, .int .u64 0, .int .u64 0, .int .u64 0, .int .u64 0, .int .i64 0, .int .u64 0] 24)).alloc (.cells #[.int .i64 0, .int .u64 0, .int .i64 0, .int .u64 0, .int .i64 0, .int .u64 0, .int .u64 0, .int .u64 0, .int .u64 0, .int .i64 0, .int .u64 0, .int .u64 0, .int .u64 0, .int .u64 0, .int .u64 0, .int .i64 0, .int .u64 0] 24) = W at hB hR hL ⊢
  have hzW := hz.below hL
  have c5 : W.cell? ⟨w.heap.size + 1, 5, none⟩ = some (.int .u64 0) := hB.cell 5
  have f5 := hB.free 5
  go_upto_region 3 with (go_at_call 19; (with_reducible refine (H0 _ hzW).mono ?_); rintro e w0 ⟨rfl, rfl⟩)
  generalize hv5 : 1 + x0 % 40 = v5 at *
  obtain ⟨b5x, b5y⟩ : 1 ≤ v5 ∧ v5 ≤ 40 := by omega
  clear hv5
  replace hB : Blk (W.setCell ⟨w.heap.size + 1, 5, none⟩ (.int .u64 v5)) (w.heap.size + 1) #[.int .i64 0, .int .u64 0, .int .i64 0, .int .u64 0, .int .i64 0, .int .u64 v5, .int .u64 0, .int .u64 0, .int .u64 0, .int .i64 0, .int .u64 0, .int .u64 0, .int .u64 0, .int .u64 0, .int .u64 0, .int .i64 0, .int .u64 0] 24 := hB.set 5 _
  replace hR : Blk (W.setCell ⟨w.heap.size + 1, 5, none⟩ (.int .u64 v5)) w.heap.size #[.int .i64 0, .int .u64 0, .int .i64 0, .int .u64 0, .int .i64 0, .int .u64 0, .int .u64 0, .int .u64 0, .int .u64 0, .int .i64 0, .int .u64 0, .int .u64 0, .int .u64 0, .int .u64 0, .int .u64 0, .int .i64 0, .int .u64 0] 24 := hR.other (by simp) _
  replace hL : Below w.heap.size w (W.setCell ⟨w.heap.size + 1, 5, none⟩ (.int .u64 v5)) := hL.setCell (by simp) _
  clear hzW c5 f5
  generalize W.setCell ⟨w.heap.size + 1, 5, none⟩ (.int .u64 v5) = W' at *
  clear W
  rename World => W
  have hzW := hz.below hL
  have c5 : W.cell? ⟨w.heap.size + 1, 5, none⟩ = some (.int .u64 v5) := hB.cell 5
  have c7 : W.cell? ⟨w.heap.size + 1, 7, none⟩ = some (.int .u64 0) := hB.cell 7
  have f7 := hB.free 7
  have em : Int.tmod x1 50 = x1 % 50 := Int.tmod_eq_emod_of_nonneg l1
  have ew : IntKind.u64.wrap (2 * v5) = 2 * v5 := wrap64 (by omega) (by omega)
  have es : IntKind.u64.wrap (2 * v5 + x1 % 50) = 2 * v5 + x1 % 50 := wrap64 (by omega) (by omega)
  go_still_tail 8, (by kernel_rfl)
  still_call ((H1 W.drew (Ints.drew hzW)).mono fun e w' h => ⟨h.1, h.2.symm⟩)
  repeat still_step
  refine wpStill_nil ?_
  change wpList _ _ _ _ _ W.drew
  clear em es ew
  go_upto_region 4 with fail
  generalize hv7 : 2 * v5 + x1 % 50 = v7 at *
  obtain ⟨b7x, b7y⟩ : 2 * v5 ≤ v7 ∧ v7 ≤ 130 := by omega
  clear hv7
  replace hB : Blk ((W.setCell ⟨w.heap.size + 1, 7, none⟩ (.int .u64 v7)).drew) (w.heap.size + 1) #[.int .i64 0, .int .u64 0, .int .i64 0, .int .u64 0, .int .i64 0, .int .u64 v5, .int .u64 0, .int .u64 v7, .int .u64 0, .int .i64 0, .int .u64 0, .int .u64 0, .int .u64 0, .int .u64 0, .int .u64 0, .int .i64 0, .int .u64 0] 24 := (hB.set 7 _).drew
  replace hR : Blk ((W.setCell ⟨w.heap.size + 1, 7, none⟩ (.int .u64 v7)).drew) w.heap.size #[.int .i64 0, .int .u64 0, .int .i64 0, .int .u64 0, .int .i64 0, .int .u64 0, .int .u64 0, .int .u64 0, .int .u64 0, .int .i64 0, .int .u64 0, .int .u64 0, .int .u64 0, .int .u64 0, .int .u64 0, .int .i64 0, .int .u64 0] 24 := (hR.other (by simp) _).drew
  replace hL : Below w.heap.size w ((W.setCell ⟨w.heap.size + 1, 7, none⟩ (.int .u64 v7)).drew) := Base.drew1 (hL.setCell (by simp) _)
  clear hzW c5 c7 f7
  generalize (W.setCell ⟨w.heap.size + 1, 7, none⟩ (.int .u64 v7)).drew = W' at *
  clear W
  rename World => W
  have hzW := hz.below hL
  have c7 : W.cell? ⟨w.heap.size + 1, 7, none⟩ = some (.int .u64 v7) := hB.cell 7
  have c6 : W.cell? ⟨w.heap.size + 1, 6, none⟩ = some (.int .u64 0) := hB.cell 6
  have f6 := hB.free 6
  have em : Int.tmod x2 100 = x2 % 100 := Int.tmod_eq_emod_of_nonneg l2
  have es : IntKind.u64.wrap (v7 + x2 % 100) = v7 + x2 % 100 := wrap64 (by omega) (by omega)
  go_still_tail 7, (by kernel_rfl)
  still_call ((H2 W.drew (Ints.drew hzW)).mono fun e w' h => ⟨h.1, h.2.symm⟩)
  repeat still_step
  refine wpStill_nil ?_
  change wpList _ _ _ _ _ W.drew
  clear em es
  go_upto_region 5 with fail
  generalize hv6 : v7 + x2 % 100 = v6 at *
  obtain ⟨b6x, b6y⟩ : v7 ≤ v6 ∧ v6 ≤ 230 := by omega
  clear hv6
  replace hB : Blk ((W.setCell ⟨w.heap.size + 1, 6, none⟩ (.int .u64 v6)).drew) (w.heap.size + 1) #[.int .i64 0, .int .u64 0, .int .i64 0, .int .u64 0, .int .i64 0, .int .u64 v5, .int .u64 v6, .int .u64 v7, .int .u64 0, .int .i64 0, .int .u64 0, .int .u64 0, .int .u64 0, .int .u64 0, .int .u64 0, .int .i64 0, .int .u64 0] 24 := (hB.set 6 _).drew
  replace hR : Blk ((W.setCell ⟨w.heap.size + 1, 6, none⟩ (.int .u64 v6)).drew) w.heap.size #[.int .i64 0, .int .u64 0, .int .i64 0, .int .u64 0, .int .i64 0, .int .u64 0, .int .u64 0, .int .u64 0, .int .u64 0, .int .i64 0, .int .u64 0, .int .u64 0, .int .u64 0, .int .u64 0, .int .u64 0, .int .i64 0, .int .u64 0] 24 := (hR.other (by simp) _).drew
  replace hL : Below w.heap.size w ((W.setCell ⟨w.heap.size + 1, 6, none⟩ (.int .u64 v6)).drew) := Base.drew1 (hL.setCell (by simp) _)
  clear hzW c7 c6 f6
  generalize (W.setCell ⟨w.heap.size + 1, 6, none⟩ (.int .u64 v6)).drew = W' at *
  clear W
  rename World => W
  have hzW := hz.below hL
  have c6 : W.cell? ⟨w.heap.size + 1, 6, none⟩ = some (.int .u64 v6) := hB.cell 6
  have c8 : W.cell? ⟨w.heap.size + 1, 8, none⟩ = some (.int .u64 0) := hB.cell 8
  have f8 := hB.free 8
  have em : Int.tmod x3 400 = x3 % 400 := Int.tmod_eq_emod_of_nonneg l3
  have es : IntKind.u64.wrap (v6 + x3 % 400) = v6 + x3 % 400 := wrap64 (by omega) (by omega)
  go_still_tail 7, (by kernel_rfl)
  still_call ((H3 W.drew (Ints.drew hzW)).mono fun e w' h => ⟨h.1, h.2.symm⟩)
  repeat still_step
  refine wpStill_nil ?_
  change wpList _ _ _ _ _ W.drew
  clear em es
  go_upto_region 6 with fail
  generalize hv8 : v6 + x3 % 400 = v8 at *
  obtain ⟨b8x, b8y⟩ : v6 ≤ v8 ∧ v8 ≤ 630 := by omega
  clear hv8
  replace hB : Blk ((W.setCell ⟨w.heap.size + 1, 8, none⟩ (.int .u64 v8)).drew) (w.heap.size + 1) #[.int .i64 0, .int .u64 0, .int .i64 0, .int .u64 0, .int .i64 0, .int .u64 v5, .int .u64 v6, .int .u64 v7, .int .u64 v8, .int .i64 0, .int .u64 0, .int .u64 0, .int .u64 0, .int .u64 0, .int .u64 0, .int .i64 0, .int .u64 0] 24 := (hB.set 8 _).drew
  replace hR : Blk ((W.setCell ⟨w.heap.size + 1, 8, none⟩ (.int .u64 v8)).drew) w.heap.size #[.int .i64 0, .int .u64 0, .int .i64 0, .int .u64 0, .int .i64 0, .int .u64 0, .int .u64 0, .int .u64 0, .int .u64 0, .int .i64 0, .int .u64 0, .int .u64 0, .int .u64 0, .int .u64 0, .int .u64 0, .int .i64 0, .int .u64 0] 24 := (hR.other (by simp) _).drew
  replace hL : Below w.heap.size w ((W.setCell ⟨w.heap.size + 1, 8, none⟩ (.int .u64 v8)).drew) := Base.drew1 (hL.setCell (by simp) _)
  clear hzW c6 c8 f8
  generalize (W.setCell ⟨w.heap.size + 1, 8, none⟩ (.int .u64 v8)).drew = W' at *
  clear W
  rename World => W
  have hzW := hz.below hL
  have c0 : W.cell? ⟨w.heap.size + 1, 0, none⟩ = some (.int .i64 0) := hB.cell 0
  have f0 := hB.free 0
  go_upto_region 7 with fail
  replace hB : Blk (W.setCell ⟨w.heap.size + 1, 0, none⟩ (.int .i64 64)) (w.heap.size + 1) #[.int .i64 64, .int .u64 0, .int .i64 0, .int .u64 0, .int .i64 0, .int .u64 v5, .int .u64 v6, .int .u64 v7, .int .u64 v8, .int .i64 0, .int .u64 0, .int .u64 0, .int .u64 0, .int .u64 0, .int .u64 0, .int .i64 0, .int .u64 0] 24 := hB.set 0 _
  replace hR : Blk (W.setCell ⟨w.heap.size + 1, 0, none⟩ (.int .i64 64)) w.heap.size #[.int .i64 0, .int .u64 0, .int .i64 0, .int .u64 0, .int .i64 0, .int .u64 0, .int .u64 0, .int .u64 0, .int .u64 0, .int .i64 0, .int .u64 0, .int .u64 0, .int .u64 0, .int .u64 0, .int .u64 0, .int .i64 0, .int .u64 0] 24 := hR.other (by simp) _
  replace hL : Below w.heap.size w (W.setCell ⟨w.heap.size + 1, 0, none⟩ (.int .i64 64)) := hL.setCell (by simp) _
  clear hzW c0 f0
  generalize W.setCell ⟨w.heap.size + 1, 0, none⟩ (.int .i64 64) = W' at *
  clear W
  rename World => W
  have hzW := hz.below hL
  go_upto_if 35 with (go_at_call 19; (with_reducible refine (H4 _ hzW).mono ?_); rintro e w4 ⟨rfl, rfl⟩)
  go_cut [] from 34 (fun wc => ∃ v0 : Int, (1 ≤ v0 ∧ v0 ≤ 64) ∧ Blk wc (w.heap.size + 1) #[.int .i64 v0, .int .u64 0, .int .i64 0, .int .u64 0, .int .i64 0, .int .u64 v5, .int .u64 v6, .int .u64 v7, .int .u64 v8, .int .i64 0, .int .u64 0, .int .u64 0, .int .u64 0, .int .u64 0, .int .u64 0, .int .i64 0, .int .u64 0] 24 ∧ Blk wc w.heap.size #[.int .i64 0, .int .u64 0, .int .i64 0, .int .u64 0, .int .i64 0, .int .u64 0, .int .u64 0, .int .u64 0, .int .u64 0, .int .i64 0, .int .u64 0, .int .u64 0, .int .u64 0, .int .u64 0, .int .u64 0, .int .i64 0, .int .u64 0] 24 ∧ Below w.heap.size w wc)
  case first =>
    by_cases ht : x4 % 4 = 1
    · have c0 : W.cell? ⟨w.heap.size + 1, 0, none⟩ = some (.int .i64 64) := hB.cell 0
      have f0 := hB.free 0
      go_wp2_with (go_at_call 19; (with_reducible refine (H4 _ hzW).mono ?_); rintro e w4 ⟨rfl, rfl⟩)
      go_meet
      exact ⟨1 + x4 / 4 % 64, by omega, hB.set 0 _, hR.other (by simp) _, hL.setCell (by simp) _⟩
    · go_wp2
      go_meet
      exact ⟨64, by omega, hB, hR, hL⟩
  clear hB hR hL hzW W
  obtain ⟨v0, B0, hB, hR, hL⟩ := hcut
  rename World => W
  have hzW := hz.below hL
  go_upto_if 46 with (go_at_call 19; (with_reducible refine (H5 _ hzW).mono ?_); rintro e w5 ⟨rfl, rfl⟩)
  go_cut [] from 45 (fun wc => ∃ v1 : Int, (0 ≤ v1 ∧ v1 ≠ 1 ∧ v1 ≤ 40) ∧ Blk wc (w.heap.size + 1) #[.int .i64 v0, .int .u64 v1, .int .i64 0, .int .u64 0, .int .i64 0, .int .u64 v5, .int .u64 v6, .int .u64 v7, .int .u64 v8, .int .i64 0, .int .u64 0, .int .u64 0, .int .u64 0, .int .u64 0, .int .u64 0, .int .i64 0, .int .u64 0] 24 ∧ Blk wc w.heap.size #[.int .i64 0, .int .u64 0, .int .i64 0, .int .u64 0, .int .i64 0, .int .u64 0, .int .u64 0, .int .u64 0, .int .u64 0, .int .i64 0, .int .u64 0, .int .u64 0, .int .u64 0, .int .u64 0, .int .u64 0, .int .i64 0, .int .u64 0] 24 ∧ Below w.heap.size w wc)
  case first =>
    by_cases ht : x5 % 4 > 0
    · have c1 : W.cell? ⟨w.heap.size + 1, 1, none⟩ = some (.int .u64 0) := hB.cell 1
      have f1 := hB.free 1
      go_wp2_with (go_at_call 19; (with_reducible refine (H5 _ hzW).mono ?_); rintro e w5 ⟨rfl, rfl⟩)
      go_meet
      exact ⟨2 + x5 / 4 % 30, by omega, hB.set 1 _, hR.other (by simp) _, hL.setCell (by simp) _⟩
    · go_wp2
      go_meet
      exact ⟨0, by omega, hB, hR, hL⟩
  clear hB hR hL hzW W
  obtain ⟨v1, B1, hB, hR, hL⟩ := hcut
  rename World => W
  have hzW := hz.below hL
  have c2 : W.cell? ⟨w.heap.size + 1, 2, none⟩ = some (.int .i64 0) := hB.cell 2
  have f2 := hB.free 2
  go_upto_region 12 with (go_at_call 19; (with_reducible refine (H6 _ hzW).mono ?_); rintro e w6 ⟨rfl, rfl⟩)
  generalize hv2 : 4 + x6 % 40 = v2 at *
  obtain ⟨b2x, b2y⟩ : 4 ≤ v2 ∧ v2 ≤ 43 := by omega
  clear hv2
  replace hB : Blk (W.setCell ⟨w.heap.size + 1, 2, none⟩ (.int .i64 v2)) (w.heap.size + 1) #[.int .i64 v0, .int .u64 v1, .int .i64 v2, .int .u64 0, .int .i64 0, .int .u64 v5, .int .u64 v6, .int .u64 v7, .int .u64 v8, .int .i64 0, .int .u64 0, .int .u64 0, .int .u64 0, .int .u64 0, .int .u64 0, .int .i64 0, .int .u64 0] 24 := hB.set 2 _
  replace hR : Blk (W.setCell ⟨w.heap.size + 1, 2, none⟩ (.int .i64 v2)) w.heap.size #[.int .i64 0, .int .u64 0, .int .i64 0, .int .u64 0, .int .i64 0, .int .u64 0, .int .u64 0, .int .u64 0, .int .u64 0, .int .i64 0, .int .u64 0, .int .u64 0, .int .u64 0, .int .u64 0, .int .u64 0, .int .i64 0, .int .u64 0] 24 := hR.other (by simp) _
  replace hL : Below w.heap.size w (W.setCell ⟨w.heap.size + 1, 2, none⟩ (.int .i64 v2)) := hL.setCell (by simp) _
  clear hzW c2 f2
  generalize W.setCell ⟨w.heap.size + 1, 2, none⟩ (.int .i64 v2) = W' at *
  clear W
  rename World => W
  have hzW := hz.below hL
  have c3 : W.cell? ⟨w.heap.size + 1, 3, none⟩ = some (.int .u64 0) := hB.cell 3
  have f3 := hB.free 3
  go_upto_region 13 with fail
  replace hB : Blk (W.setCell ⟨w.heap.size + 1, 3, none⟩ (.int .u64 4611686018427387903)) (w.heap.size + 1) #[.int .i64 v0, .int .u64 v1, .int .i64 v2, .int .u64 4611686018427387903, .int .i64 0, .int .u64 v5, .int .u64 v6, .int .u64 v7, .int .u64 v8, .int .i64 0, .int .u64 0, .int .u64 0, .int .u64 0, .int .u64 0, .int .u64 0, .int .i64 0, .int .u64 0] 24 := hB.set 3 _
  replace hR : Blk (W.setCell ⟨w.heap.size + 1, 3, none⟩ (.int .u64 4611686018427387903)) w.heap.size #[.int .i64 0, .int .u64 0, .int .i64 0, .int .u64 0, .int .i64 0, .int .u64 0, .int .u64 0, .int .u64 0, .int .u64 0, .int .i64 0, .int .u64 0, .int .u64 0, .int .u64 0, .int .u64 0, .int .u64 0, .int .i64 0, .int .u64 0] 24 := hR.other (by simp) _
  replace hL : Below w.heap.size w (W.setCell ⟨w.heap.size + 1, 3, none⟩ (.int .u64 4611686018427387903)) := hL.setCell (by simp) _
  clear hzW c3 f3
  generalize W.setCell ⟨w.heap.size + 1, 3, none⟩ (.int .u64 4611686018427387903) = W' at *
  clear W
  rename World => W
  have hzW := hz.below hL
  go_upto_if 63 with (go_at_call 19; (with_reducible refine (H7 _ hzW).mono ?_); rintro e w7 ⟨rfl, rfl⟩)
  go_cut [] from 62 (fun wc => ∃ v3 : Int, (0 ≤ v3 ∧ v3 ≤ 4611686018427387903) ∧ Blk wc (w.heap.size + 1) #[.int .i64 v0, .int .u64 v1, .int .i64 v2, .int .u64 v3, .int .i64 0, .int .u64 v5, .int .u64 v6, .int .u64 v7, .int .u64 v8, .int .i64 0, .int .u64 0, .int .u64 0, .int .u64 0, .int .u64 0, .int .u64 0, .int .i64 0, .int .u64 0] 24 ∧ Blk wc w.heap.size #[.int .i64 0, .int .u64 0, .int .i64 0, .int .u64 0, .int .i64 0, .int .u64 0, .int .u64 0, .int .u64 0, .int .u64 0, .int .i64 0, .int .u64 0, .int .u64 0, .int .u64 0, .int .u64 0, .int .u64 0, .int .i64 0, .int .u64 0] 24 ∧ Below w.heap.size w wc)
  case first =>
    by_cases ht : x7 % 4 = 1
    · have c3 : W.cell? ⟨w.heap.size + 1, 3, none⟩ = some (.int .u64 4611686018427387903) := hB.cell 3
      have f3 := hB.free 3
      go_wp2_with (go_at_call 19; (with_reducible refine (H7 _ hzW).mono ?_); rintro e w7 ⟨rfl, rfl⟩)
      go_meet
      exact ⟨x7 / 4 % 60, by omega, hB.set 3 _, hR.other (by simp) _, hL.setCell (by simp) _⟩
    · go_wp2
      go_meet
      exact ⟨4611686018427387903, by omega, hB, hR, hL⟩
  clear hB hR hL hzW W
  obtain ⟨v3, B3, hB, hR, hL⟩ := hcut
  rename World => W
  have hzW := hz.below hL
  have c4 : W.cell? ⟨w.heap.size + 1, 4, none⟩ = some (.int .i64 0) := hB.cell 4
  have f4 := hB.free 4
  go_upto_region 16 with (go_at_call 19; (with_reducible refine (H8 _ hzW).mono ?_); rintro e w8 ⟨rfl, rfl⟩)
  generalize hv4 : 1 + x8 % 300 = v4 at *
  obtain ⟨b4x, b4y⟩ : 1 ≤ v4 ∧ v4 ≤ 300 := by omega
  clear hv4
  replace hB : Blk (W.setCell ⟨w.heap.size + 1, 4, none⟩ (.int .i64 v4)) (w.heap.size + 1) #[.int .i64 v0, .int .u64 v1, .int .i64 v2, .int .u64 v3, .int .i64 v4, .int .u64 v5, .int .u64 v6, .int .u64 v7, .int .u64 v8, .int .i64 0, .int .u64 0, .int .u64 0, .int .u64 0, .int .u64 0, .int .u64 0, .int .i64 0, .int .u64 0] 24 := hB.set 4 _
  replace hR : Blk (W.setCell ⟨w.heap.size + 1, 4, none⟩ (.int .i64 v4)) w.heap.size #[.int .i64 0, .int .u64 0, .int .i64 0, .int .u64 0, .int .i64 0, .int .u64 0, .int .u64 0, .int .u64 0, .int .u64 0, .int .i64 0, .int .u64 0, .int .u64 0, .int .u64 0, .int .u64 0, .int .u64 0, .int .i64 0, .int .u64 0] 24 := hR.other (by simp) _
  replace hL : Below w.heap.size w (W.setCell ⟨w.heap.size + 1, 4, none⟩ (.int .i64 v4)) := hL.setCell (by simp) _
  clear hzW c4 f4
  generalize W.setCell ⟨w.heap.size + 1, 4, none⟩ (.int .i64 v4) = W' at *
  clear W
  rename World => W
  have hzW := hz.below hL
  have c9 : W.cell? ⟨w.heap.size + 1, 9, none⟩ = some (.int .i64 0) := hB.cell 9
  have f9 := hB.free 9
  go_upto_region 17 with (go_at_call 19; (with_reducible refine (H9 _ hzW).mono ?_); rintro e w9 ⟨rfl, rfl⟩)
  generalize hv9 : 1 + x9 % 2 = v9 at *
  obtain ⟨b9x, b9y⟩ : 1 ≤ v9 ∧ v9 ≤ 2 := by omega
  clear hv9
  replace hB : Blk (W.setCell ⟨w.heap.size + 1, 9, none⟩ (.int .i64 v9)) (w.heap.size + 1) #[.int .i64 v0, .int .u64 v1, .int .i64 v2, .int .u64 v3, .int .i64 v4, .int .u64 v5, .int .u64 v6, .int .u64 v7, .int .u64 v8, .int .i64 v9, .int .u64 0, .int .u64 0, .int .u64 0, .int .u64 0, .int .u64 0, .int .i64 0, .int .u64 0] 24 := hB.set 9 _
  replace hR : Blk (W.setCell ⟨w.heap.size + 1, 9, none⟩ (.int .i64 v9)) w.heap.size #[.int .i64 0, .int .u64 0, .int .i64 0, .int .u64 0, .int .i64 0, .int .u64 0, .int .u64 0, .int .u64 0, .int .u64 0, .int .i64 0, .int .u64 0, .int .u64 0, .int .u64 0, .int .u64 0, .int .u64 0, .int .i64 0, .int .u64 0] 24 := hR.other (by simp) _
  replace hL : Below w.heap.size w (W.setCell ⟨w.heap.size + 1, 9, none⟩ (.int .i64 v9)) := hL.setCell (by simp) _
  clear hzW c9 f9
  generalize W.setCell ⟨w.heap.size + 1, 9, none⟩ (.int .i64 v9) = W' at *
  clear W
  rename World => W
  have hzW := hz.below hL
  have c10 : W.cell? ⟨w.heap.size + 1, 10, none⟩ = some (.int .u64 0) := hB.cell 10
  have f10 := hB.free 10
  go_upto_region 18 with (go_at_call 19; (with_reducible refine (H10 _ hzW).mono ?_); rintro e w10 ⟨rfl, rfl⟩)
  generalize hv10 : 1 + x10 % 200000 = v10 at *
  obtain ⟨b10x, b10y⟩ : 1 ≤ v10 ∧ v10 ≤ 200000 := by omega
  clear hv10
  replace hB : Blk (W.setCell ⟨w.heap.size + 1, 10, none⟩ (.int .u64 v10)) (w.heap.size + 1) #[.int .i64 v0, .int .u64 v1, .int .i64 v2, .int .u64 v3, .int .i64 v4, .int .u64 v5, .int .u64 v6, .int .u64 v7, .int .u64 v8, .int .i64 v9, .int .u64 v10, .int .u64 0, .int .u64 0, .int .u64 0, .int .u64 0, .int .i64 0, .int .u64 0] 24 := hB.set 10 _
  replace hR : Blk (W.setCell ⟨w.heap.size + 1, 10, none⟩ (.int .u64 v10)) w.heap.size #[.int .i64 0, .int .u64 0, .int .i64 0, .int .u64 0, .int .i64 0, .int .u64 0, .int .u64 0, .int .u64 0, .int .u64 0, .int .i64 0, .int .u64 0, .int .u64 0, .int .u64 0, .int .u64 0, .int .u64 0, .int .i64 0, .int .u64 0] 24 := hR.other (by simp) _
  replace hL : Below w.heap.size w (W.setCell ⟨w.heap.size + 1, 10, none⟩ (.int .u64 v10)) := hL.setCell (by simp) _
  clear hzW c10 f10
  generalize W.setCell ⟨w.heap.size + 1, 10, none⟩ (.int .u64 v10) = W' at *
  clear W
  rename World => W
  have hzW := hz.below hL
  have c11 : W.cell? ⟨w.heap.size + 1, 11, none⟩ = some (.int .u64 0) := hB.cell 11
  have f11 := hB.free 11
  go_upto_region 19 with (go_at_call 19; (with_reducible refine (H11 _ hzW).mono ?_); rintro e w11 ⟨rfl, rfl⟩)
  generalize hv11 : 1 + x11 % 2000 = v11 at *
  obtain ⟨b11x, b11y⟩ : 1 ≤ v11 ∧ v11 ≤ 2000 := by omega
  clear hv11
  replace hB : Blk (W.setCell ⟨w.heap.size + 1, 11, none⟩ (.int .u64 v11)) (w.heap.size + 1) #[.int .i64 v0, .int .u64 v1, .int .i64 v2, .int .u64 v3, .int .i64 v4, .int .u64 v5, .int .u64 v6, .int .u64 v7, .int .u64 v8, .int .i64 v9, .int .u64 v10, .int .u64 v11, .int .u64 0, .int .u64 0, .int .u64 0, .int .i64 0, .int .u64 0] 24 := hB.set 11 _
  replace hR : Blk (W.setCell ⟨w.heap.size + 1, 11, none⟩ (.int .u64 v11)) w.heap.size #[.int .i64 0, .int .u64 0, .int .i64 0, .int .u64 0, .int .i64 0, .int .u64 0, .int .u64 0, .int .u64 0, .int .u64 0, .int .i64 0, .int .u64 0, .int .u64 0, .int .u64 0, .int .u64 0, .int .u64 0, .int .i64 0, .int .u64 0] 24 := hR.other (by simp) _
  replace hL : Below w.heap.size w (W.setCell ⟨w.heap.size + 1, 11, none⟩ (.int .u64 v11)) := hL.setCell (by simp) _
  clear hzW c11 f11
  generalize W.setCell ⟨w.heap.size + 1, 11, none⟩ (.int .u64 v11) = W' at *
  clear W
  rename World => W
  have hzW := hz.below hL
  have c11 : W.cell? ⟨w.heap.size + 1, 11, none⟩ = some (.int .u64 v11) := hB.cell 11
  have c12 : W.cell? ⟨w.heap.size + 1, 12, none⟩ = some (.int .u64 0) := hB.cell 12
  have f12 := hB.free 12
  have em : Int.tmod x12 400000 = x12 % 400000 := Int.tmod_eq_emod_of_nonneg l12
  have es : IntKind.u64.wrap (v11 + x12 % 400000) = v11 + x12 % 400000 := wrap64 (by omega) (by omega)
  go_still_tail 7, (by kernel_rfl)
  still_call ((H12 W.drew (Ints.drew hzW)).mono fun e w' h => ⟨h.1, h.2.symm⟩)
  repeat still_step
  refine wpStill_nil ?_
  change wpList _ _ _ _ _ W.drew
  clear em es
  go_upto_region 20 with fail
  generalize hv12 : v11 + x12 % 400000 = v12 at *
  obtain ⟨b12x, b12y⟩ : v11 ≤ v12 ∧ v12 ≤ 402000 := by omega
  clear hv12
  replace hB : Blk ((W.setCell ⟨w.heap.size + 1, 12, none⟩ (.int .u64 v12)).drew) (w.heap.size + 1) #[.int .i64 v0, .int .u64 v1, .int .i64 v2, .int .u64 v3, .int .i64 v4, .int .u64 v5, .int .u64 v6, .int .u64 v7, .int .u64 v8, .int .i64 v9, .int .u64 v10, .int .u64 v11, .int .u64 v12, .int .u64 0, .int .u64 0, .int .i64 0, .int .u64 0] 24 := (hB.set 12 _).drew
  replace hR : Blk ((W.setCell ⟨w.heap.size + 1, 12, none⟩ (.int .u64 v12)).drew) w.heap.size #[.int .i64 0, .int .u64 0, .int .i64 0, .int .u64 0, .int .i64 0, .int .u64 0, .int .u64 0, .int .u64 0, .int .u64 0, .int .i64 0, .int .u64 0, .int .u64 0, .int .u64 0, .int .u64 0, .int .u64 0, .int .i64 0, .int .u64 0] 24 := (hR.other (by simp) _).drew
  replace hL : Below w.heap.size w ((W.setCell ⟨w.heap.size + 1, 12, none⟩ (.int .u64 v12)).drew) := Base.drew1 (hL.setCell (by simp) _)
  clear hzW c11 c12 f12
  generalize (W.setCell ⟨w.heap.size + 1, 12, none⟩ (.int .u64 v12)).drew = W' at *
  clear W
  rename World => W
  have hzW := hz.below hL
  have c5 : W.cell? ⟨w.heap.size + 1, 5, none⟩ = some (.int .u64 v5) := hB.cell 5
  have c13 : W.cell? ⟨w.heap.size + 1, 13, none⟩ = some (.int .u64 0) := hB.cell 13
  have f13 := hB.free 13
  have em : Int.tmod x13 400 = x13 % 400 := Int.tmod_eq_emod_of_nonneg l13
  have es : IntKind.u64.wrap (v5 + x13 % 400) = v5 + x13 % 400 := wrap64 (by omega) (by omega)
  go_still_tail 7, (by kernel_rfl)
  still_call ((H13 W.drew (Ints.drew hzW)).mono fun e w' h => ⟨h.1, h.2.symm⟩)
  repeat still_step
  refine wpStill_nil ?_
  change wpList _ _ _ _ _ W.drew
  clear em es
  go_upto_region 21 with fail
  generalize hv13 : v5 + x13 % 400 = v13 at *
  obtain ⟨b13x, b13y⟩ : v5 ≤ v13 ∧ v13 ≤ 440 := by omega
  clear hv13
  replace hB : Blk ((W.setCell ⟨w.heap.size + 1, 13, none⟩ (.int .u64 v13)).drew) (w.heap.size + 1) #[.int .i64 v0, .int .u64 v1, .int .i64 v2, .int .u64 v3, .int .i64 v4, .int .u64 v5, .int .u64 v6, .int .u64 v7, .int .u64 v8, .int .i64 v9, .int .u64 v10, .int .u64 v11, .int .u64 v12, .int .u64 v13, .int .u64 0, .int .i64 0, .int .u64 0] 24 := (hB.set 13 _).drew
  replace hR : Blk ((W.setCell ⟨w.heap.size + 1, 13, none⟩ (.int .u64 v13)).drew) w.heap.size #[.int .i64 0, .int .u64 0, .int .i64 0, .int .u64 0, .int .i64 0, .int .u64 0, .int .u64 0, .int .u64 0, .int .u64 0, .int .i64 0, .int .u64 0, .int .u64 0, .int .u64 0, .int .u64 0, .int .u64 0, .int .i64 0, .int .u64 0] 24 := (hR.other (by simp) _).drew
  replace hL : Below w.heap.size w ((W.setCell ⟨w.heap.size + 1, 13, none⟩ (.int .u64 v13)).drew) := Base.drew1 (hL.setCell (by simp) _)
  clear hzW c5 c13 f13
  generalize (W.setCell ⟨w.heap.size + 1, 13, none⟩ (.int .u64 v13)).drew = W' at *
  clear W
  rename World => W
  have hzW := hz.below hL
  have c14 : W.cell? ⟨w.heap.size + 1, 14, none⟩ = some (.int .u64 0) := hB.cell 14
  have f14 := hB.free 14
  go_upto_region 22 with (go_at_call 19; (with_reducible refine (H14 _ hzW).mono ?_); rintro e w14 ⟨rfl, rfl⟩)
  generalize hv14 : 1 + x14 % 100000 = v14 at *
  obtain ⟨b14x, b14y⟩ : 1 ≤ v14 ∧ v14 ≤ 100000 := by omega
  clear hv14
  replace hB : Blk (W.setCell ⟨w.heap.size + 1, 14, none⟩ (.int .u64 v14)) (w.heap.size + 1) #[.int .i64 v0, .int .u64 v1, .int .i64 v2, .int .u64 v3, .int .i64 v4, .int .u64 v5, .int .u64 v6, .int .u64 v7, .int .u64 v8, .int .i64 v9, .int .u64 v10, .int .u64 v11, .int .u64 v12, .int .u64 v13, .int .u64 v14, .int .i64 0, .int .u64 0] 24 := hB.set 14 _
  replace hR : Blk (W.setCell ⟨w.heap.size + 1, 14, none⟩ (.int .u64 v14)) w.heap.size #[.int .i64 0, .int .u64 0, .int .i64 0, .int .u64 0, .int .i64 0, .int .u64 0, .int .u64 0, .int .u64 0, .int .u64 0, .int .i64 0, .int .u64 0, .int .u64 0, .int .u64 0, .int .u64 0, .int .u64 0, .int .i64 0, .int .u64 0] 24 := hR.other (by simp) _
  replace hL : Below w.heap.size w (W.setCell ⟨w.heap.size + 1, 14, none⟩ (.int .u64 v14)) := hL.setCell (by simp) _
  clear hzW c14 f14
  generalize W.setCell ⟨w.heap.size + 1, 14, none⟩ (.int .u64 v14) = W' at *
  clear W
  rename World => W
  have hzW := hz.below hL
  have c15 : W.cell? ⟨w.heap.size + 1, 15, none⟩ = some (.int .i64 0) := hB.cell 15
  have f15 := hB.free 15
  go_upto_region 23 with (go_at_call 19; (with_reducible refine (H15 _ hzW).mono ?_); rintro e w15 ⟨rfl, rfl⟩)
  generalize hv15 : x15 % 5 = v15 at *
  obtain ⟨b15x, b15y⟩ : 0 ≤ v15 ∧ v15 ≤ 4 := by omega
  clear hv15
  replace hB : Blk (W.setCell ⟨w.heap.size + 1, 15, none⟩ (.int .i64 v15)) (w.heap.size + 1) #[.int .i64 v0, .int .u64 v1, .int .i64 v2, .int .u64 v3, .int .i64 v4, .int .u64 v5, .int .u64 v6, .int .u64 v7, .int .u64 v8, .int .i64 v9, .int .u64 v10, .int .u64 v11, .int .u64 v12, .int .u64 v13, .int .u64 v14, .int .i64 v15, .int .u64 0] 24 := hB.set 15 _
  replace hR : Blk (W.setCell ⟨w.heap.size + 1, 15, none⟩ (.int .i64 v15)) w.heap.size #[.int .i64 0, .int .u64 0, .int .i64 0, .int .u64 0, .int .i64 0, .int .u64 0, .int .u64 0, .int .u64 0, .int .u64 0, .int .i64 0, .int .u64 0, .int .u64 0, .int .u64 0, .int .u64 0, .int .u64 0, .int .i64 0, .int .u64 0] 24 := hR.other (by simp) _
  replace hL : Below w.heap.size w (W.setCell ⟨w.heap.size + 1, 15, none⟩ (.int .i64 v15)) := hL.setCell (by simp) _
  clear hzW c15 f15
  generalize W.setCell ⟨w.heap.size + 1, 15, none⟩ (.int .i64 v15) = W' at *
  clear W
  rename World => W
  have hzW := hz.below hL
  have c16 : W.cell? ⟨w.heap.size + 1, 16, none⟩ = some (.int .u64 0) := hB.cell 16
  have f16 := hB.free 16
  go_upto_region 24 with (go_at_call 19; (with_reducible refine (H16 _ hzW).mono ?_); rintro e w16 ⟨rfl, rfl⟩)
  generalize hv16 : 1 + x16 % 100000 = v16 at *
  obtain ⟨b16x, b16y⟩ : 1 ≤ v16 ∧ v16 ≤ 100000 := by omega
  clear hv16
  replace hB : Blk (W.setCell ⟨w.heap.size + 1, 16, none⟩ (.int .u64 v16)) (w.heap.size + 1) #[.int .i64 v0, .int .u64 v1, .int .i64 v2, .int .u64 v3, .int .i64 v4, .int .u64 v5, .int .u64 v6, .int .u64 v7, .int .u64 v8, .int .i64 v9, .int .u64 v10, .int .u64 v11, .int .u64 v12, .int .u64 v13, .int .u64 v14, .int .i64 v15, .int .u64 v16] 24 := hB.set 16 _
  replace hR : Blk (W.setCell ⟨w.heap.size + 1, 16, none⟩ (.int .u64 v16)) w.heap.size #[.int .i64 0, .int .u64 0, .int .i64 0, .int .u64 0, .int .i64 0, .int .u64 0, .int .u64 0, .int .u64 0, .int .u64 0, .int .i64 0, .int .u64 0, .int .u64 0, .int .u64 0, .int .u64 0, .int .u64 0, .int .i64 0, .int .u64 0] 24 := hR.other (by simp) _
  replace hL : Below w.heap.size w (W.setCell ⟨w.heap.size + 1, 16, none⟩ (.int .u64 v16)) := hL.setCell (by simp) _
  clear hzW c16 f16
  generalize W.setCell ⟨w.heap.size + 1, 16, none⟩ (.int .u64 v16) = W' at *
  clear W
  rename World => W
  have hzW := hz.below hL
  go_wp2_with (first | (refine wpList_load_row rfl 24 (.tmp 3) rfl (w.heap.size + 1) rfl 24 _ (0, 0) _ hB Try.underlying24 rfl (by kernel_rfl) ?_) | (refine wpl_store_row rfl 24 (.tmp 2) (.tmp 120) rfl hR #[.int .i64 v0, .int .u64 v1, .int .i64 v2, .int .u64 v3, .int .i64 v4, .int .u64 v5, .int .u64 v6, .int .u64 v7, .int .u64 v8, .int .i64 v9, .int .u64 v10, .int .u64 v11, .int .u64 v12, .int .u64 v13, .int .u64 v14, .int .i64 v15, .int .u64 v16] rfl rfl (by kernel_rfl) rfl (by simp [Value.oneCell']) ?_))
  refine bodyPost_ret (results_cell_row rfl _ _ w.heap.size 24 #[.int .i64 v0, .int .u64 v1, .int .i64 v2, .int .u64 v3, .int .i64 v4, .int .u64 v5, .int .u64 v6, .int .u64 v7, .int .u64 v8, .int .i64 v9, .int .u64 v10, .int .u64 v11, .int .u64 v12, .int .u64 v13, .int .u64 v14, .int .i64 v15, .int .u64 v16] (0, 0) _ rfl (hR.setRow _) Try.underlying24 rfl (by kernel_rfl)) rfl ?_
  exact ⟨⟨v0, v1, v2, v3, v4, v5, v6, v7, v8, v9, v10, v11, v12, v13, v14, v15, v16⟩, rfl, by unfold Made; dsimp only; omega, below_setRow' hL (Nat.le_refl _)⟩
end Go.Proofs.Ytnnpklnhdfpnjaa.Conf
