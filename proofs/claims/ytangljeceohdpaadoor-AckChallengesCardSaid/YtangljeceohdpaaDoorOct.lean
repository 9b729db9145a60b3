/-
  Contracts of octet's functions, and of the reference's.
-/
import Derived.Test.YtangljeceohdpaaDoorRows
import Derived.Test.YtangljeceohdpaaDoorFr
import Derived.Test.YtangljeceohdpaaDoorOctPlain
import Derived.Test.YtangljeceohdpaaDoorTab
import Derived.WalkKit
import Derived.ProofKit
import Derived.OpenShut
import Derived.WalkSpells
import Derived.Deep.RegionWith
import Derived.LoopTactic
import Derived.Lib.Hide
import Derived.OwnWalk
import Derived.Deep.OwnRows
namespace Go.Proofs.YtangljeceohdpaaDoor.Oct
set_option linter.unusedVariables false
open Go.ChangeShapes Go.WideShapes Go.ChangeAt Go.RowKit
open Go.Proofs.YtangljeceohdpaaDoor.Base Go.Proofs.YtangljeceohdpaaDoor.OctPlain Go.Proofs.YtangljeceohdpaaDoor.Tab

theorem size_any (n : Int) (n0 : 0 ≤ n) (w : World) :
    Calls Tryd.prog 52 #[.int .u64 n] w fun e w' => e = .returned (.int .i64 (size n)) ∧ w = w' := by
  go_enter Tryd.func52, Tryd.ntmps52
  go_wp2
  all_goals go_ret
  all_goals exact ⟨ret_i64 (by unfold size; (repeat' split) <;> omega), rfl⟩
theorem ref_size (n : Int) (n0 : 0 ≤ n) (w : World) :
    Calls Tryd.prog 41 #[.int .u64 n] w fun e w' => e = .returned (.int .i64 (size n)) ∧ w = w' := by
  go_enter Tryd.func41, Tryd.ntmps41
  go_wp2
  all_goals go_ret
  all_goals exact ⟨ret_i64 (by unfold size; (repeat' split) <;> omega), rfl⟩
theorem join_any (a : Option Addr) (n cap : Nat) (l : List Int) (w : World) (hn : l.length = n) (h8 : n ≤ 8) (hb : Bytes l) (hr : Ints .u8 w a l) :
    Calls Tryd.prog 55 #[.slice a n cap] w fun e w' => e = .returned (.int .u64 (val l)) ∧ w = w' := by
  subst hn
  go_enter Tryd.func55, Tryd.ntmps55
  go_wp2
  go_loop [3, 8] (fun x i => ∃ k : Nat, k ≤ l.length ∧ i = .int .i64 k ∧ x = .int .u64 (val (l.take k))) (fun _ i => l.length - (intOf i).toNat)
  case atStart => exact ⟨0, Nat.zero_le _, rfl, rfl⟩
  case round =>
    obtain ⟨k, hk, rfl, rfl⟩ := hrel
    by_cases hlt : k < l.length
    · obtain ⟨b, off, rfl, hbl, hcell⟩ := hr.at_ hlt
      have hl := val_take hlt
      have hx := hb.at k
      have hv := val_bd7 (hb.take k) (by rw [List.length_take]; omega)
      generalize l.getD k 0 = x at hcell hl hx
      have H := Lib.hid hl
      clear hl
      generalize val (l.take k) = v at hv H
      obtain ⟨x0, x1⟩ := hx
      obtain ⟨v0, v1⟩ := hv
      go_wp2
      all_goals go_round
      case rel => exact ⟨k + 1, by omega, by go_num, by rw [or_byte v0 v1 x0 x1, H.out]⟩
      case measure => simp [intOf]; omega
    · have H := Lib.hid (show l.take k = l by rw [List.take_of_length_le (by omega)])
      go_wp2
      go_ret
      exact ⟨Base.ret_u64 (by rw [H.out]), rfl⟩
/-- How many zeros a length ends in. -/
theorem tz_one {w : World} (h : Tab w) : Calls Tryd.prog 61 #[.int .u64 1] w fun e w' => e = .returned (.int .i64 0) ∧ w = w' := by
  obtain ⟨c0, c1, c3, c7⟩ := h
  have e0 : bits .and .u64 1 (IntKind.u64.wrap (-1)) = 1 := by decide +kernel
  have e1 : IntKind.u64.wrap 285870213051353865 = 285870213051353865 := by decide +kernel
  go_enter Tryd.func61, Tryd.ntmps61
  go_wp2
  all_goals go_ret
  all_goals exact ⟨rfl, rfl⟩
theorem ntz_one {w : World} (h : Tab w) : Calls Tryd.prog 53 #[.int .u64 1] w fun e w' => e = .returned (.int .i64 0) ∧ w = w' := by
  go_enter Tryd.func53, Tryd.ntmps53
  go_wp2_with (go_at_call 61; refine (tz_one h).mono ?_; rintro e w' ⟨rfl, rfl⟩)
  all_goals go_ret
  all_goals exact ⟨rfl, rfl⟩
theorem tz_two {w : World} (h : Tab w) : Calls Tryd.prog 61 #[.int .u64 2] w fun e w' => e = .returned (.int .i64 1) ∧ w = w' := by
  obtain ⟨c0, c1, c3, c7⟩ := h
  have e0 : bits .and .u64 2 (IntKind.u64.wrap (-2)) = 2 := by decide +kernel
  have e1 : IntKind.u64.wrap 571740426102707730 = 571740426102707730 := by decide +kernel
  go_enter Tryd.func61, Tryd.ntmps61
  go_wp2
  all_goals go_ret
  all_goals exact ⟨rfl, rfl⟩
theorem ntz_two {w : World} (h : Tab w) : Calls Tryd.prog 53 #[.int .u64 2] w fun e w' => e = .returned (.int .i64 1) ∧ w = w' := by
  go_enter Tryd.func53, Tryd.ntmps53
  go_wp2_with (go_at_call 61; refine (tz_two h).mono ?_; rintro e w' ⟨rfl, rfl⟩)
  all_goals go_ret
  all_goals exact ⟨rfl, rfl⟩
theorem tz_four {w : World} (h : Tab w) : Calls Tryd.prog 61 #[.int .u64 4] w fun e w' => e = .returned (.int .i64 2) ∧ w = w' := by
  obtain ⟨c0, c1, c3, c7⟩ := h
  have e0 : bits .and .u64 4 (IntKind.u64.wrap (-4)) = 4 := by decide +kernel
  have e1 : IntKind.u64.wrap 1143480852205415460 = 1143480852205415460 := by decide +kernel
  go_enter Tryd.func61, Tryd.ntmps61
  go_wp2
  all_goals go_ret
  all_goals exact ⟨rfl, rfl⟩
theorem ntz_four {w : World} (h : Tab w) : Calls Tryd.prog 53 #[.int .u64 4] w fun e w' => e = .returned (.int .i64 2) ∧ w = w' := by
  go_enter Tryd.func53, Tryd.ntmps53
  go_wp2_with (go_at_call 61; refine (tz_four h).mono ?_; rintro e w' ⟨rfl, rfl⟩)
  all_goals go_ret
  all_goals exact ⟨rfl, rfl⟩
theorem tz_eight {w : World} (h : Tab w) : Calls Tryd.prog 61 #[.int .u64 8] w fun e w' => e = .returned (.int .i64 3) ∧ w = w' := by
  obtain ⟨c0, c1, c3, c7⟩ := h
  have e0 : bits .and .u64 8 (IntKind.u64.wrap (-8)) = 8 := by decide +kernel
  have e1 : IntKind.u64.wrap 2286961704410830920 = 2286961704410830920 := by decide +kernel
  go_enter Tryd.func61, Tryd.ntmps61
  go_wp2
  all_goals go_ret
  all_goals exact ⟨rfl, rfl⟩
theorem ntz_eight {w : World} (h : Tab w) : Calls Tryd.prog 53 #[.int .u64 8] w fun e w' => e = .returned (.int .i64 3) ∧ w = w' := by
  go_enter Tryd.func53, Tryd.ntmps53
  go_wp2_with (go_at_call 61; refine (tz_eight h).mono ?_; rintro e w' ⟨rfl, rfl⟩)
  all_goals go_ret
  all_goals exact ⟨rfl, rfl⟩
theorem info : (Tryd.prog.info? 5).map (fun i => (i.zero, i.size, i.bytes)) = some (some (.int .u8 0), 1, 1) := by kernel_rfl
theorem split_any (n : Int) (k : Nat) (s : Int) (w : World) (hs : s = k) (h8 : k ≤ 8) (n0 : 0 ≤ n) (n1 : n ≤ 18446744073709551615) :
    Calls Tryd.prog 44 #[.int .u64 n, .int .i64 s] w fun e w' => ∃ b, e = .returned (.slice (some ⟨b, 0, none⟩) k k) ∧ w.heap.size ≤ b ∧ Blk w' b ((be k n).map (Value.int .u8)).toArray 5 ∧ Below w.heap.size w w' := by
  subst hs
  have hmk := run_make_row' (P := Tryd.prog) 27 5 (.int .u8 0) 1 Tryd.underlying27 info rfl .i64 .i64 k (by omega) (by omega)
  go_enter Tryd.func44, Tryd.ntmps44
  go_wp2
  have hz : (madeCells #[Value.int .u8 0] k) = ((row k n 0).map (Value.int .u8)).toArray := by
    rw [row_zero]
    exact Array.ext (by simp [madeCells]) (fun i h1 h2 => by simp [madeCells, Nat.mod_one])
  rw [hz]
  have hB0 := Blk.new w ((row k n 0).map (Value.int .u8)).toArray 5
  have hL0 : Below w.heap.size w (w.alloc (.cells ((row k n 0).map (Value.int .u8)).toArray 5)) := (Below.refl _ _).alloc (Nat.le_refl _) _
  go_loopw [11] (fun i wr => ∃ j : Nat, j ≤ k ∧ i = .int .i64 j ∧ Blk wr w.heap.size ((row k n j).map (Value.int .u8)).toArray 5 ∧ Below w.heap.size w wr) (fun i _ => k - (intOf i).toNat)
  case atStart => exact ⟨0, Nat.zero_le _, rfl, hB0, hL0⟩
  case round =>
    obtain ⟨j, hj, rfl, hB, hL⟩ := hrel
    clear hB0 hL0 hz hmk
    by_cases hlt : j < k
    · have hf := hB.free j
      obtain ⟨u, hu⟩ : ∃ u, wr.cell? ⟨w.heap.size, j, none⟩ = some u := ⟨_, by rw [hB.cell]; exact Array.getElem?_eq_getElem (by simp [row_len n hj, hlt])⟩
      have hp := pow_byte hlt
      have hs := row_put n hlt (Value.int .u8)
      go_wp2
      all_goals go_roundw
      case rel =>
        have h2 := hB.set j (.int .u8 (n / 256 ^ (k - 1 - j) % 256))
        rw [hs] at h2
        exact ⟨j + 1, by omega, by go_num, h2, (Fr.setCell (S := fun i => w.heap.size ≤ i) (Fr.refl _ _) (p := ⟨w.heap.size, j, none⟩) (fun _ => Nat.le_refl _) _).below hL hL.size (fun _ h => h)⟩
      case measure => simp [intOf]; omega
    · obtain rfl : j = k := by omega
      rw [row_full] at hB
      go_wp2
      go_ret
      exact ⟨_, rfl, Nat.le_refl _, hB, hL⟩
set_option maxHeartbeats 1000000 in
theorem put_at (n c : Int) (j : Nat) (w : World) (n0 : 0 ≤ n) (n1 : n ≤ 18446744073709551615) (hs : size n = (j : Int) + 1) (hj : j ≤ 7) (c0 : 0 ≤ c) (c1 : c ≤ 3) (hx : n / 256 ^ j % 256 < 64) (hT : Tab w)
    (hz : ∀ w1, Tab w1 → Calls Tryd.prog 53 #[.int .u64 ((j : Int) + 1)] w1 fun e w' => e = .returned (.int .i64 c) ∧ w1 = w') :
    Calls Tryd.prog 37 #[.int .u64 n] w fun e w' => ∃ b, e = .returned (.tuple #[.slice (some ⟨b, 0, none⟩) (j + 1) (j + 1), .bool true]) ∧ w.heap.size ≤ b ∧
      Blk w' b (((n / 256 ^ j % 256 + c * 64) :: be j n).map (Value.int .u8)).toArray 5 ∧ Below w.heap.size w w' := by
  have hsz := size_any n n0
  rw [hs] at hsz
  have hsp := split_any n (j + 1) (j + 1 : Nat) w rfl (by omega) n0 n1
  have x0 : 0 ≤ n / 256 ^ j % 256 := by omega
  rw [be] at hsp
  have ho := or_tag c0 c1 x0 hx
  generalize n / 256 ^ j % 256 = x at *
  go_enter Tryd.func37, Tryd.ntmps37
  go_wp2_with (first
    | (go_at_call 52; refine (hsz _).mono ?_; rintro e w' ⟨rfl, rfl⟩)
    | (go_at_call 44; refine hsp.mono ?_; rintro e w1 ⟨b, rfl, hb1, hB1, hL1⟩))
  have hT1 := (hT.below hL1).drew
  have hc : w1.cell? ⟨b, 0, none⟩ = some (.int .u8 x) := hB1.cell 0
  have hf := hB1.free 0
  have e1 : IntKind.u64.wrap ((j : Int) + 1) = (j : Int) + 1 := by rw [IntKind.wrap_u64]; omega
  have e2 : IntKind.u8.wrap c = c := by rw [IntKind.wrap_u8]; omega
  have e3 : IntKind.u8.wrap (c * 64) = c * 64 := by rw [IntKind.wrap_u8]; omega
  have hB2 : Blk (w1.setCell ⟨b, 0, none⟩ (.int .u8 (x + c * 64))) b (((x + c * 64) :: be j n).map (Value.int .u8)).toArray 5 := by
    have := hB1.set 0 (.int .u8 (x + c * 64))
    simpa using this
  have hL2 : Below w.heap.size w (w1.setCell ⟨b, 0, none⟩ (.int .u8 (x + c * 64))) := hL1.setCell (p := ⟨b, 0, none⟩) hb1 _
  clear hT hL1 hsp hsz hB1
  go_region_with (go_at_call 53; refine (hz _ hT1).mono ?_; rintro e w' ⟨rfl, rfl⟩)
  all_goals go_wp2
  all_goals go_ret2
  all_goals exact ⟨b, rfl, hb1, hB2, hL2.os, hL2.tape, hL2.output, hL2.size, hL2.block⟩
theorem rowIn_blk {S : Nat → Prop} {w : World} {b : Nat} {xs : List Value} {T : TypeId} (h : Blk w b xs.toArray T) (hb : S b) : RowIn S w (some ⟨b, 0, none⟩) xs := fun i u hu => ⟨b, 0, rfl, hb, h.lt, by rw [Nat.zero_add, h.cell]; simpa using hu⟩
theorem put_any (n : Int) (w : World) (n0 : 0 ≤ n) (n1 : n ≤ 18446744073709551615) (hT : Tab w) :
    Calls Tryd.prog 37 #[.int .u64 n] w fun e w' => ∃ a cap, e = .returned (.tuple #[.slice a (put n).length cap, .bool (decide (n ≤ 4611686018427387903))]) ∧
      (put n).length ≤ cap ∧ cap ≤ 8 ∧ (a = none → (put n).length = 0 ∧ cap = 0) ∧ RowIn (fun k => w.heap.size ≤ k) w' a ((put n).map (.int .u8)) ∧ Below w.heap.size w w' := by
  by_cases h : n ≤ 4611686018427387903
  · obtain ⟨j, c, hjc, hs, hx, hp⟩ := put_form n0 h
    have hz : ∀ w1, Tab w1 → Calls Tryd.prog 53 #[.int .u64 ((j : Int) + 1)] w1 fun e w' => e = .returned (.int .i64 (c : Int)) ∧ w1 = w' := fun w1 h1 => by
      rcases hjc with ⟨rfl, rfl⟩ | ⟨rfl, rfl⟩ | ⟨rfl, rfl⟩ | ⟨rfl, rfl⟩
      · exact ntz_one h1
      · exact ntz_two h1
      · exact ntz_four h1
      · exact ntz_eight h1
    refine (put_at n c j w n0 n1 hs (by omega) (by omega) (by omega) hx hT hz).mono ?_
    rintro e w' ⟨b, rfl, hb, hB, hL⟩
    rw [hp, decide_eq_true h]
    have hl : ((n / 256 ^ j % 256 + (c : Int) * 64) :: be j n).length = j + 1 := by rw [List.length_cons, be_len]
    exact ⟨_, _, by rw [hl], by rw [hl]; exact Nat.le_refl _, (show j + 1 ≤ 8 by omega), (fun e => by cases e), rowIn_blk hB hb, hL⟩
  · obtain ⟨hp, hs⟩ := put_none (n := n) (by omega)
    have hsz := size_any n n0
    rw [hs] at hsz
    rw [hp, decide_eq_false h]
    clear hp hs
    go_enter Tryd.func37, Tryd.ntmps37
    go_wp2_with (go_at_call 52; refine (hsz _).mono ?_; rintro e w' ⟨rfl, rfl⟩)
    go_ret2
    exact ⟨none, 0, rfl, Nat.zero_le _, Nat.zero_le _, (fun _ => by simp), RowIn.nil _ _ _, Below.refl _ _⟩
theorem eight_any (n : Int) (w : World) (n0 : 0 ≤ n) (n1 : n ≤ 18446744073709551615) :
    Calls Tryd.prog 22 #[.int .u64 n] w fun e w' => ∃ b, e = .returned (.slice (some ⟨b, 0, none⟩) 8 8) ∧ w.heap.size ≤ b ∧ Blk w' b ((be 8 n).map (Value.int .u8)).toArray 5 ∧ Below w.heap.size w w' := by
  have hsp := split_any n 8 8 w rfl (Nat.le_refl _) n0 n1
  go_enter Tryd.func22, Tryd.ntmps22
  go_wp2_with (go_at_call 44; refine hsp.mono ?_; rintro e w1 ⟨b, rfl, hb1, hB1, hL1⟩)
  go_ret
  exact ⟨b, rfl, hb1, hB1, hL1⟩
theorem clone_any (a : Option Addr) (n cap : Nat) (l : List Int) (w : World) (hn : l.length = n) (hc : n ≤ cap) (hr : n ≤ 140737488355328) (h0 : a = none → n = 0 ∧ cap = 0) (hz : Ints .u8 w a l) :
    Calls Tryd.prog 46 #[.slice a n cap] w fun e w' => ∃ a' cap', e = .returned (.slice a' n cap') ∧ n ≤ cap' ∧ cap' ≤ maxLen ∧ (a' = none → n = 0 ∧ cap' = 0) ∧ RowIn (fun k => w.heap.size ≤ k) w' a' (l.map (.int .u8)) ∧ Below w.heap.size w w' := by
  obtain ⟨i0, hi0, hz0, hz1, hz2⟩ := info_parts info
  have qT : ∀ (w : World) (a : Option Addr) (n c : Nat), (binOp .eql 27 (.slice a n c) (.slice none 0 0)).run Tryd.prog w = .ok (.bool a.isNone) w := fun w a n c => Lib.run_eql_slice_nil w _ _ a n c 0 0 Tryd.underlying27
  cases a with
  | none =>
    obtain ⟨rfl, rfl⟩ := h0 rfl
    obtain rfl : l = [] := List.eq_nil_of_length_eq_zero hn
    go_enter Tryd.func46, Tryd.ntmps46
    go_wp2
    all_goals go_ret
    all_goals exact ⟨none, 0, rfl, Nat.zero_le _, (fun _ => rfl), RowIn.nil _ _ _, Below.refl _ _⟩
  | some ad =>
    subst hn
    have hM : l.length ≤ maxLen := by unfold maxLen; omega
    go_enter Tryd.func46, Tryd.ntmps46
    go_wp2_with (at_builtin; refine wpl_append_row _ rfl (.tmp 5) (.tmp 6) _ rfl w.heap.size 5 i0 _ 1 1 Tryd.underlying27 hi0 hz0 hz1 hz2 rfl (by omega) (.slice (some ⟨w.heap.size, 0, none⟩) 0 0) 0 [] rfl (World.ownsRow_lit w #[] 0 (Nat.le_refl _) (Nat.zero_le _) rfl) (some ad) l.length cap (l.map (Value.int .u8)) rfl (by simp) (Row.alloc hz _) (ints_oneCell _ _) (by omega) (by omega) (by simp) ?_; intro v1 w1 hown1 hg1 hat1; have hb1 : Below w.heap.size w w1 := ((Below.refl _ _).alloc (Nat.le_refl _) _).grown hg1 (by simp) (by simp [Value.ownBlock]); obtain ⟨a1, cap1, rfl, hn1, hc1, hz1', R1⟩ := rowIn_of_own Nat.one_pos hown1)
    all_goals go_ret
    all_goals exact ⟨a1, cap1, by simp, by omega, hc1, by simpa using hz1', by simpa using R1, hb1⟩
/-- The reader at block b has the bytes l left. -/
def Rd (S : Nat → Prop) (w : World) (b : Nat) (l : List Int) : Prop :=
  S b ∧ ∃ a cap, Blk w b #[.slice a l.length cap] 80 ∧ l.length ≤ cap ∧ cap ≤ maxLen ∧ (a = none → l.length = 0 ∧ cap = 0) ∧ RowIn (fun k => S k ∧ k ≠ b) w a (l.map (.int .u8))
theorem Rd.kept {S T : Nat → Prop} {w w' : World} {b : Nat} {l : List Int} (h : Rd S w b l) (hf : Fr T w w') (hn : ∀ k, S k → ¬ T k) : Rd S w' b l := by
  obtain ⟨hS, a, cap, h1, h2, h3, h0, h4⟩ := h
  exact ⟨hS, a, cap, h1.kept hf (hn b hS), h2, h3, h0, h4.kept hf fun k hk => hn k hk.1⟩
theorem Rd.drew {S : Nat → Prop} {w : World} {b : Nat} {l : List Int} (h : Rd S w b l) : Rd S w.drew b l := h
theorem Rd.drewN {S : Nat → Prop} {w : World} {b : Nat} {l : List Int} (h : Rd S w b l) (n : Nat) : Rd S (w.drewN n) b l := h
theorem Rd.below {S : Nat → Prop} {B : Nat} {w w' : World} {b : Nat} {l : List Int} (h : Rd S w b l) (hf : Below B w w') (hn : ∀ k, S k → k < B) : Rd S w' b l := by
  obtain ⟨hS, a, cap, h1, h2, h3, h0, h4⟩ := h
  exact ⟨hS, a, cap, h1.below hf (hn b hS), h2, h3, h0, h4.below hf fun k hk => hn k hk.1⟩
theorem new_any (a : Option Addr) (n cap : Nat) (l : List Int) (w : World) (hn : l.length = n) (hc : n ≤ cap) (hr : n ≤ 140737488355328) (h0 : a = none → n = 0 ∧ cap = 0) (hz : Ints .u8 w a l) :
    Calls Tryd.prog 29 #[.slice a n cap] w fun e w' => ∃ b, e = .returned (.pointer (some ⟨b, 0, none⟩)) ∧ Rd (fun k => w.heap.size ≤ k ∧ k < w'.heap.size) w' b l ∧ Below w.heap.size w w' := by
  go_enter Tryd.func29, Tryd.ntmps29
  go_wp2_with (go_at_call 46; refine (clone_any a n cap l w hn hc hr h0 hz).mono ?_; rintro e w1 ⟨a1, cap1, rfl, hn1, hc1, hz1, R1, hb1⟩)
  all_goals go_ret
  subst hn
  have hsz := World.size_alloc (w := w1) (o := .cells #[.slice a1 l.length cap1] 80)
  refine ⟨w1.heap.size, rfl, ⟨⟨hb1.size, by rw [hsz]; omega⟩, a1, cap1, Blk.new _ _ _, hn1, hc1, hz1, ?_⟩, hb1.alloc hb1.size _⟩
  exact (R1.alloc _).mono fun k _ hk => ⟨⟨hk.1, by rw [hsz]; omega⟩, by omega⟩
theorem left_any {S : Nat → Prop} {w : World} {b : Nat} {l : List Int} (h : Rd S w b l) :
    Calls Tryd.prog 31 #[.pointer (some ⟨b, 0, none⟩)] w fun e w' => e = .returned (.int .i64 l.length) ∧ w = w' := by
  obtain ⟨hS, a, cap, hB, _⟩ := h
  have c0 : w.cell? ⟨b, 0, none⟩ = some (.slice a l.length cap) := hB.cell 0
  go_enter Tryd.func31, Tryd.ntmps31
  go_wp2
  all_goals go_ret
  all_goals exact ⟨rfl, rfl⟩
/-- The reader behind a store of what is left behind n bytes. -/
theorem rd_step {S : Nat → Prop} {w w1 : World} {b n cap cap' : Nat} {a a' : Option Addr} {l : List Int} (hS : S b) (hB : Blk w b #[.slice a l.length cap] 80) (hb1 : Below w.heap.size w w1) (hlc : l.length ≤ cap) (hcm : cap ≤ 2 ^ 63 - 1)
    (h0 : a = none → l.length = 0 ∧ cap = 0) (hR : RowIn (fun k => S k ∧ k ≠ b) w a (l.map (.int .u8))) (hn : n ≤ l.length)
    (hc : (cap = n ∧ a' = a ∧ cap' = 0) ∨ (¬ cap = n ∧ a' = Option.map (fun x => x.add n) a ∧ cap' = cap - n)) :
    Rd S (w1.setCell ⟨b, 0, none⟩ (.slice a' (l.length - n) cap')) b (l.drop n) ∧ Fr (fun k => k = b) w (w1.setCell ⟨b, 0, none⟩ (.slice a' (l.length - n) cap')) ∧
      Fr (fun k => k = b) w1 (w1.setCell ⟨b, 0, none⟩ (.slice a' (l.length - n) cap')) := by
  have F1 : Fr (fun k => k = b) w1 (w1.setCell ⟨b, 0, none⟩ (.slice a' (l.length - n) cap')) := Fr.setCell (S := fun k => k = b) (Fr.refl _ _) (p := ⟨b, 0, none⟩) (fun _ => rfl) _
  have F : Fr (fun k => k = b) w (w1.setCell ⟨b, 0, none⟩ (.slice a' (l.length - n) cap')) := (Fr.of_below (S := fun k => k = b) hb1).trans F1 fun _ _ h => h
  have hB1 := (hB.below hb1 hB.lt).set 0 (.slice a' (l.length - n) cap')
  have hl : (l.drop n).length = l.length - n := List.length_drop
  refine ⟨⟨hS, a', cap', by rw [hl]; exact hB1, ?_, ?_, ?_, ?_⟩, F, F1⟩
  · rw [hl]; omega
  · unfold maxLen; omega
  · rw [hl]
    rcases hc with ⟨h1, h2, h3⟩ | ⟨h1, rfl, h3⟩
    · intro _; omega
    · intro e
      cases a with
      | none => have := h0 rfl; omega
      | some ad => cases e
  · rcases hc with ⟨h1, h2, h3⟩ | ⟨h1, rfl, h3⟩
    · rw [List.drop_eq_nil_of_le (by omega)]
      exact RowIn.nil _ _ _
    · cases l with
      | nil => rw [List.drop_nil]; exact RowIn.nil _ _ _
      | cons x r =>
        obtain ⟨g, off, rfl, _, _, _⟩ := hR 0 (.int .u8 x) rfl
        rw [List.map_drop]
        have := hR.drop n
        have e : Option.map (fun x => x.add n) (some (⟨g, off, none⟩ : Addr)) = some ⟨g, off + n, none⟩ := by simp [add_plain]
        rw [e] at F ⊢
        exact this.kept F fun k hk => hk.2
theorem take_any {S : Nat → Prop} {w : World} {b : Nat} {l : List Int} (h : Rd S w b l) (m : Int) (n : Nat) (hm : m = n) (hn : n ≤ l.length) (hr : l.length ≤ 140737488355328) :
    Calls Tryd.prog 59 #[.pointer (some ⟨b, 0, none⟩), .int .i64 m] w fun e w' => ∃ a cap, e = .returned (.tuple #[.slice a n cap, .int .i64 0]) ∧
      n ≤ cap ∧ cap ≤ maxLen ∧ (a = none → n = 0 ∧ cap = 0) ∧ RowIn (fun k => w.heap.size ≤ k) w' a ((l.take n).map (.int .u8)) ∧ Rd S w' b (l.drop n) ∧ Fr (fun k => k = b) w w' := by
  subst hm
  obtain ⟨hS, a, cap, hB, hlc, hcm, h0, hR⟩ := h
  have c0 : w.cell? ⟨b, 0, none⟩ = some (.slice a l.length cap) := hB.cell 0
  have f0 := hB.free 0
  unfold maxLen at hcm
  have hI : Ints .u8 w a (l.take n) := by
    show Row w a ((l.take n).map _)
    rw [List.map_take]
    exact hR.row.take n
  have h0' : a = none → n = 0 ∧ cap = 0 := fun e => by have := h0 e; omega
  go_enter Tryd.func59, Tryd.ntmps59
  go_wp2_with (go_at_call 46; refine (clone_any a n cap (l.take n) w (by rw [List.length_take]; omega) (by omega) (by omega) h0' hI).mono ?_; rintro e w1 ⟨a1, cap1, rfl, hn1, hc1, hz1, R1, hb1⟩; have c1 : w1.cell? ⟨b, 0, none⟩ = some (.slice a l.length cap) := (hb1.cell (p := ⟨b, 0, none⟩) hB.lt).trans c0; have f1 : w1.frozen? ⟨b, 0, none⟩ = false := (hb1.frozen (p := ⟨b, 0, none⟩) hB.lt).trans f0)
  all_goals go_ret2
  · have X := rd_step (a' := a) (cap' := 0) hS hB hb1 hlc hcm h0 hR hn (.inl ⟨by assumption, rfl, rfl⟩)
    exact ⟨a1, cap1, rfl, hn1, hc1, hz1, by rw [← List.map_take]; exact R1.kept (T := fun k => k = b) X.2.2 (fun k hk e => by have := hB.lt; omega), X.1, X.2.1⟩
  · have X := rd_step (a' := Option.map (fun x => x.add n) a) (cap' := cap - n) hS hB hb1 hlc hcm h0 hR hn (.inr ⟨by assumption, rfl, rfl⟩)
    exact ⟨a1, cap1, rfl, hn1, hc1, hz1, by rw [← List.map_take]; exact R1.kept (T := fun k => k = b) X.2.2 (fun k hk e => by have := hB.lt; omega), X.1, X.2.1⟩
theorem take_short {S : Nat → Prop} {w : World} {b : Nat} {l : List Int} (h : Rd S w b l) (m : Int) (hm : (l.length : Int) < m) :
    Calls Tryd.prog 59 #[.pointer (some ⟨b, 0, none⟩), .int .i64 m] w fun e w' => e = .returned (.tuple #[.slice none 0 0, .int .i64 2]) ∧ w = w' := by
  obtain ⟨hS, a, cap, hB, hlc, hcm, h0, hR⟩ := h
  have c0 : w.cell? ⟨b, 0, none⟩ = some (.slice a l.length cap) := hB.cell 0
  go_enter Tryd.func59, Tryd.ntmps59
  go_wp2
  all_goals go_ret2
  all_goals exact ⟨rfl, rfl⟩
theorem take_neg {S : Nat → Prop} {w : World} {b : Nat} {l : List Int} (h : Rd S w b l) (m : Int) (hm : m < 0) :
    Calls Tryd.prog 59 #[.pointer (some ⟨b, 0, none⟩), .int .i64 m] w fun e w' => e = .returned (.tuple #[.slice none 0 0, .int .i64 1]) ∧ w = w' := by
  obtain ⟨hS, a, cap, hB, hlc, hcm, h0, hR⟩ := h
  have c0 : w.cell? ⟨b, 0, none⟩ = some (.slice a l.length cap) := hB.cell 0
  go_enter Tryd.func59, Tryd.ntmps59
  go_wp2
  all_goals go_ret2
  all_goals exact ⟨rfl, rfl⟩
theorem word_any {S : Nat → Prop} {w : World} {b : Nat} {l : List Int} (h : Rd S w b l) (hb : Bytes l) (hn : 8 ≤ l.length) (hr : l.length ≤ 140737488355328) :
    Calls Tryd.prog 48 #[.pointer (some ⟨b, 0, none⟩)] w fun e w' => e = .returned (.tuple #[.int .u64 (val (l.take 8)), .int .i64 0]) ∧ Rd S w' b (l.drop 8) ∧ Fr (fun k => k = b) w w' := by
  have ht := take_any h 8 8 rfl hn hr
  have hl : (l.take 8).length = 8 := by rw [List.length_take]; omega
  go_enter Tryd.func48, Tryd.ntmps48
  go_wp2_with (first
    | (go_at_call 59; refine ht.mono ?_; rintro e w1 ⟨a, cap, rfl, h1, h2, h3, h4, h5, h6⟩)
    | (go_at_call 55; refine (join_any a 8 cap (l.take 8) w1 hl (Nat.le_refl _) (hb.take 8) h4.row).mono ?_; rintro e w' ⟨rfl, rfl⟩))
  all_goals go_ret2
  all_goals exact ⟨rfl, h5, h6⟩
theorem word_short {S : Nat → Prop} {w : World} {b : Nat} {l : List Int} (h : Rd S w b l) (hn : l.length < 8) :
    Calls Tryd.prog 48 #[.pointer (some ⟨b, 0, none⟩)] w fun e w' => e = .returned (.tuple #[.int .u64 0, .int .i64 2]) ∧ w = w' := by
  have ht := take_short h 8 (by omega)
  go_enter Tryd.func48, Tryd.ntmps48
  go_wp2_with (first
    | (go_at_call 59; refine ht.mono ?_; rintro e w1 ⟨rfl, rfl⟩)
    | (go_at_call 55; refine (join_any none 0 0 [] w rfl (by omega) Bytes.nil (Row.nil _ _)).mono ?_; rintro e w' ⟨rfl, rfl⟩))
  all_goals go_ret2
  all_goals exact ⟨rfl, rfl⟩
end Go.Proofs.YtangljeceohdpaaDoor.Oct
