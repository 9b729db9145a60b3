/-
  Make by contract: both ledgers behind deeds of drawn numbers.
-/
import Derived.Test.YtoncominjgkjoaaLedDo
import Derived.Test.YtoncominjgkjoaaDeeds
set_option linter.unusedSimpArgs false
set_option linter.unusedVariables false
namespace Go.Proofs.Ytoncominjgkjoaa.Led
set_option linter.unusedVariables false
set_option maxRecDepth 20000
open Go.ChangeShapes Go.WideShapes Go.ChangeAt Go.RowKit
open Go.Proofs.Ytoncominjgkjoaa.Base Go.Proofs.Ytoncominjgkjoaa.LedPlain

/-- One deed more, near what there is. -/
def deedG (g : Lg) (d : Dd) : Lg := doG g false (d.1 % 9) d.2.1 d.2.2
/-- The ledger behind the first eighty deeds. -/
def madeG (ring limit : Int) (l : List Dd) : Lg := (l.take 80).foldl deedG (newG ring limit)
def upG (ring limit : Int) (l : List Dd) (t : Nat) : Lg := (l.take t).foldl deedG (newG ring limit)
theorem up_succ {ring limit : Int} {l : List Dd} {t : Nat} (h : t < l.length) : upG ring limit l (t + 1) = deedG (upG ring limit l t) (l.getD t (0, 0, 0)) := by
  unfold upG
  rw [List.take_add_one, List.foldl_append, show l[t]? = some (l.getD t (0, 0, 0)) by simp [List.getD, h]]
  rfl
theorem up_len (ring limit : Int) (l : List Dd) : ∀ t, (upG ring limit l t).l.length ≤ t
  | 0 => by simp [upG, newG]
  | t + 1 => by
    have ih := up_len ring limit l t
    by_cases h : t < l.length
    · rw [up_succ h]
      have := doG_len (upG ring limit l t) false ((l.getD t (0, 0, 0)).1 % 9) (l.getD t (0, 0, 0)).2.1 (l.getD t (0, 0, 0)).2.2
      unfold deedG
      omega
    · have e : upG ring limit l (t + 1) = upG ring limit l t := by
        unfold upG
        rw [List.take_of_length_le (by omega), List.take_of_length_le (by omega)]
      rw [e]
      omega
theorem up_made {ring limit : Int} {l : List Dd} {t : Nat} (h : t = 80 ∨ t = l.length) (h80 : t ≤ 80) (hl : t ≤ l.length) : upG ring limit l t = madeG ring limit l := by
  unfold upG madeG
  rcases h with rfl | rfl
  · rfl
  · rw [List.take_of_length_le (Nat.le_refl _), List.take_of_length_le h80]
theorem made_len (ring limit : Int) (l : List Dd) : (madeG ring limit l).l.length ≤ 80 := up_len ring limit l 80
theorem kind9 (k : Int) : (k.tmod 9 + 9).tmod 9 = k % 9 := by
  have h1 := Int.emod_nonneg k (show (9 : Int) ≠ 0 by decide)
  have h2 := Int.emod_lt_of_pos k (show (0 : Int) < 9 by decide)
  rcases Int.le_total 0 k with h | h
  · rw [Int.tmod_eq_emod_of_nonneg h, Int.tmod_eq_emod_of_nonneg (by omega)]
    omega
  · have h3 : k.tmod 9 = -((-k).tmod 9) := by rw [Int.neg_tmod]; omega
    have h4 : (-k).tmod 9 = (-k) % 9 := Int.tmod_eq_emod_of_nonneg (by omega)
    rw [h3, h4, Int.tmod_eq_emod_of_nonneg (by omega)]
    omega
theorem kind9w (k : Int) : (wrap64 (k.tmod 9 + 9)).tmod 9 = k % 9 := by
  have h1 : k.tmod 9 < 9 := Int.tmod_lt_of_pos k (by decide)
  have h2 : -9 < k.tmod 9 := by
    have h3 := Int.tmod_lt_of_pos (-k) (show (0 : Int) < 9 by decide)
    rw [Int.neg_tmod] at h3
    omega
  have h4 : wrap64 (k.tmod 9 + 9) = k.tmod 9 + 9 := by
    unfold wrap64
    omega
  rw [h4, kind9]
set_option maxHeartbeats 2000000 in
theorem make_any (ring limit : Int) (r0 : -9223372036854775808 ≤ ring) (r1 : ring ≤ 9223372036854775807) (l0 : 0 ≤ limit) (l1 : limit ≤ 18446744073709551615) (x : Option Addr) (n cap : Nat) (l : List Dd) (w : World) (hn : l.length = n) (hm : n ≤ cap) (hc : cap ≤ maxLen) (hf : ∀ d ∈ l, Fit d) (hz : Deeds w x l) :
    Calls Try.prog 7 #[.int .i64 ring, .int .u64 limit, .slice x n cap] w fun e w' => ∃ a b S, e = .returned (.tuple #[.agg #[.pointer (some a), .pointer (some ⟨b, 0, none⟩)], .bool true]) ∧ Pair S w' a b (madeG ring limit l) ∧ (∀ k, S k → w.heap.size ≤ k) ∧ Below w.heap.size w w' := by
  subst hn
  unfold maxLen at hc
  go_enter Try.func7, Try.ntmps7
  go_upto_region 1 with fail
  have hX := Blk.new w #[.pointer none, .pointer none] 27
  have hL := (Below.refl w.heap.size w).alloc (Nat.le_refl _) (.cells #[.pointer none, .pointer none] 27)
  have hsz : (w.alloc (.cells #[.pointer none, .pointer none] 27)).heap.size = w.heap.size + 1 := by simp
  generalize w.alloc (.cells #[.pointer none, .pointer none] 27) = W at hX hL hsz ⊢
  have CP := new_any ring limit r0 r1 l0 l1 W
  have CR := fun V => ref_new ring limit r0 r1 l0 l1 V
  go_upto_region 4 with (first
    | (go_at_call 17; refine CP.mono ?_; rintro e w1 ⟨a, rfl, P1, L1⟩; have M1 := Base.next hL L1; clear CP)
    | (go_at_call 18; refine (CR w1).mono ?_; rintro e w2 ⟨rfl, R2, L2⟩; have M2 := Base.next M1 L2; clear CR))
  have hC := Blk.new w2 #[.pointer (some a), .pointer (some ⟨w1.heap.size, 0, none⟩)] 27
  have hL3 := M2.alloc M2.size (.cells #[.pointer (some a), .pointer (some ⟨w1.heap.size, 0, none⟩)] 27)
  have hX3 := ((hX.below L1 hX.lt).below L2 (by have := (hX.below L1 hX.lt).lt; omega)).alloc (.cells #[.pointer (some a), .pointer (some ⟨w1.heap.size, 0, none⟩)] 27)
  have zs1 := L1.size
  have zs2 := L2.size
  have P2 := P1.below L2
  have hP3 : Pair (fun k => W.heap.size ≤ k ∧ k < w2.heap.size) (w2.alloc (.cells #[.pointer (some a), .pointer (some ⟨w1.heap.size, 0, none⟩)] 27)) a w1.heap.size (newG ring limit) :=
    Pair.below ⟨⟨_, _, P2, R2, fun k hk => ⟨hk.1, by omega⟩, fun k hk => ⟨by omega, hk.2⟩, fun k h1 h2 => by omega⟩, fun k hk => hk.2⟩ ((Below.refl _ _).alloc (Nat.le_refl _) _)
  generalize hc2 : w2.heap.size = c at *
  have hsz3 : (w2.alloc (.cells #[.pointer (some a), .pointer (some ⟨w1.heap.size, 0, none⟩)] 27)).heap.size = c + 1 := by simp [hc2]
  generalize w2.alloc (.cells #[.pointer (some a), .pointer (some ⟨w1.heap.size, 0, none⟩)] 27) = V at *
  have HU := Lib.hid (fun t => up_made (ring := ring) (limit := limit) (l := l) (t := t))
  have h0 : upG ring limit l 0 = newG ring limit := rfl
  rw [← h0] at hP3
  clear P1 R2 P2 L1 L2 M1 M2 hL hX hc2 h0
  generalize w1.heap.size = b at *
  go_wp2
  go_loopw [9] (fun i wr => ∃ (t : Nat) (S : Nat → Prop), t ≤ l.length ∧ t ≤ 80 ∧ i = .int .i64 t ∧ Pair S wr a b (upG ring limit l t) ∧ (∀ k, S k → w.heap.size < k ∧ k ≠ c) ∧ Blk wr c #[.pointer (some a), .pointer (some ⟨b, 0, none⟩)] 27 ∧ Blk wr w.heap.size #[.pointer none, .pointer none] 27 ∧ Below w.heap.size w wr) (fun i _ => 80 - (intOf i).toNat)
  case atStart => exact ⟨0, _, Nat.zero_le _, Nat.zero_le _, rfl, hP3, fun k hk => by omega, hC, hX3, hL3⟩
  case round =>
    obtain ⟨t, S, ht, ht8, rfl, hP, hS, hC, hX, hL⟩ := hrel
    have c0 : wr.cell? ⟨c, 0, none⟩ = some (.pointer (some a)) := hC.cell 0
    have c1 : wr.cell? ⟨c, 1, none⟩ = some (.pointer (some ⟨b, 0, none⟩)) := hC.cell 1
    have hcl := hC.lt
    clear hP3 hL3 hX3
    by_cases hlt : t < l.length ∧ t < 80
    · obtain ⟨hlt, hlt8⟩ := hlt
      have hlI : (t : Int) < (l.length : Int) := by omega
      obtain ⟨bz, off, rfl, hbz, d0, d1, d2⟩ := (hz.below hL).at_ hlt
      have hU := Lib.hid (up_succ (ring := ring) (limit := limit) hlt)
      have hFit := hf (l.getD t (0, 0, 0)) (by simp [List.getD, hlt])
      generalize l.getD t (0, 0, 0) = d at *
      obtain ⟨k, A, B⟩ := d
      obtain ⟨f0, f1, f2⟩ := hFit
      simp only at d0 d1 d2 f0 f1 f2
      obtain ⟨k0, k1⟩ := Base.i64_of f0
      obtain ⟨A0, A1⟩ := Base.u64_of f1
      obtain ⟨B0, B1⟩ := Base.u64_of f2
      have hul := up_len ring limit l t
      go_upto_region 9 with fail
      rw [kind9w]
      have CD := two_do_fit (hP.below ((Below.refl _ _).alloc (Nat.le_refl _) (.cells #[.int .i64 (k % 9), .int .u64 A, .int .u64 B] 52))) (by omega) (k % 9) A B A0 A1 B0 B1
      have hC1 := hC.alloc (.cells #[.int .i64 (k % 9), .int .u64 A, .int .u64 B] 52)
      have hX1 := hX.alloc (.cells #[.int .i64 (k % 9), .int .u64 A, .int .u64 B] 52)
      have hL1 := hL.alloc hL.size (.cells #[.int .i64 (k % 9), .int .u64 A, .int .u64 B] 52)
      go_wp2_with (go_at_call 19; refine CD.mono ?_; rintro e w5 ⟨rfl, P5, F5⟩; have C5 := hC1.kept F5 (fun e => (hS _ e).2 rfl); have X5 := hX1.kept F5 (fun e => by have := (hS _ e).1; omega); have L5 := hL1.trans (F5.toBelow' (B := w.heap.size) hL1.size fun k _ hk => by have := (hS k hk).1; omega); have z5 := F5.size)
      all_goals go_roundw
      case rel => exact ⟨t + 1, _, by omega, by omega, by go_num, (by rw [hU.out]; exact P5), fun k hk => (by rcases hk with hk | hk; exact hS k hk; have := hL.size; simp at hk; omega), C5, X5, L5⟩
      case measure => simp [intOf]; omega
    · have hlt2 : t = 80 ∨ t = l.length := by omega
      by_cases hl1 : t < l.length
      · have hl8 : ¬ t < 80 := fun e => hlt ⟨hl1, e⟩
        have hT : upG ring limit l t = madeG ring limit l := HU.out t (by omega) ht8 ht
        have hul := up_len ring limit l t
        rw [hT] at hP hul
        have CS := fun V hV => two_same (hP.below (w' := V) hV) (by omega)
        have x0 : wr.cell? ⟨w.heap.size, 0, none⟩ = some (.pointer none) := hX.cell 0
        have x1 : wr.cell? ⟨w.heap.size, 1, none⟩ = some (.pointer none) := hX.cell 1
        go_upto_region 11 with fail
        have S0 : Below wr.heap.size wr wr.drew := Base.drew1 (Below.refl _ _)
        go_region_with (go_at_call 13; refine (CS _ S0).mono ?_; rintro e w6 ⟨rfl, L6⟩; have M6 := Base.undrew L6; have c06 := keepCell M6 c0; have c16 := keepCell M6 c1; have x06 := keepCell M6 x0; have x16 := keepCell M6 x1; have X6 := hX.below M6 hX.lt; have f06 := X6.free 0; have f16 := X6.free 1; have P6 := hP.below M6; have L7 := hL.trans (M6.mono hL.size))
        all_goals go_wp2
        all_goals refine bodyPost_ret (results_rowT rfl _ _ w.heap.size 27 #[.pointer (some a), .pointer (some ⟨b, 0, none⟩)] _ rfl ((X6.set 0 _).set 1 _) Try.underlying27 rfl (by kernel_rfl)) rfl ?_
        all_goals exact ⟨a, b, S, rfl, (P6.kept (T := fun k => k = w.heap.size) (((Fr.of_below (S := fun k => k = w.heap.size) (Below.refl _ w6)).setCell (p := ⟨w.heap.size, 0, none⟩) (fun _ => rfl) _).setCell (p := ⟨w.heap.size, 1, none⟩) (fun _ => rfl) _) fun k hk e => by have := (hS k hk).1; omega), fun k hk => by have := (hS k hk).1; omega, (L7.setCell (Nat.le_refl _) _).setCell (Nat.le_refl _) _⟩
      · have hl2 : t = l.length := by omega
        subst hl2
        have hT : upG ring limit l l.length = madeG ring limit l := HU.out l.length (by omega) ht8 ht
        have hul := up_len ring limit l l.length
        rw [hT] at hP hul
        have CS := fun V hV => two_same (hP.below (w' := V) hV) (by omega)
        have x0 : wr.cell? ⟨w.heap.size, 0, none⟩ = some (.pointer none) := hX.cell 0
        have x1 : wr.cell? ⟨w.heap.size, 1, none⟩ = some (.pointer none) := hX.cell 1
        go_upto_region 11 with fail
        have S0 : Below wr.heap.size wr wr.drew := Base.drew1 (Below.refl _ _)
        go_region_with (go_at_call 13; refine (CS _ S0).mono ?_; rintro e w6 ⟨rfl, L6⟩; have M6 := Base.undrew L6; have c06 := keepCell M6 c0; have c16 := keepCell M6 c1; have x06 := keepCell M6 x0; have x16 := keepCell M6 x1; have X6 := hX.below M6 hX.lt; have f06 := X6.free 0; have f16 := X6.free 1; have P6 := hP.below M6; have L7 := hL.trans (M6.mono hL.size))
        all_goals go_wp2
        all_goals refine bodyPost_ret (results_rowT rfl _ _ w.heap.size 27 #[.pointer (some a), .pointer (some ⟨b, 0, none⟩)] _ rfl ((X6.set 0 _).set 1 _) Try.underlying27 rfl (by kernel_rfl)) rfl ?_
        all_goals exact ⟨a, b, S, rfl, (P6.kept (T := fun k => k = w.heap.size) (((Fr.of_below (S := fun k => k = w.heap.size) (Below.refl _ w6)).setCell (p := ⟨w.heap.size, 0, none⟩) (fun _ => rfl) _).setCell (p := ⟨w.heap.size, 1, none⟩) (fun _ => rfl) _) fun k hk e => by have := (hS k hk).1; omega), fun k hk => by have := (hS k hk).1; omega, (L7.setCell (Nat.le_refl _) _).setCell (Nat.le_refl _) _⟩
end Go.Proofs.Ytoncominjgkjoaa.Led
