/-
  Several texts in one: Oct, OctRef, OctNum.
-/
import Derived.Test.YtkiloaebokkjbaaGreatRows
import Derived.Test.YtkiloaebokkjbaaGreatM2
import Derived.Test.YtkiloaebokkjbaaGreatM3
import Derived.Test.YtkiloaebokkjbaaGreatTab
import Derived.WalkKit
import Derived.ProofKit
import Derived.OpenShut
import Derived.WalkSpells
import Derived.Deep.RegionWith
import Derived.LoopTactic
import Derived.Lib.Hide
import Derived.OwnWalk
import Derived.Deep.OwnRows
import Derived.Laws.BytesArg
/-
  Contracts of octet's functions, and of the reference's.
-/
set_option linter.unusedSimpArgs false
set_option linter.unusedVariables false
namespace Go.Proofs.YtkiloaebokkjbaaGreat.Oct
set_option linter.unusedVariables false
set_option maxRecDepth 20000
open Go.ChangeShapes Go.WideShapes Go.ChangeAt Go.RowKit
open Go.Proofs.YtkiloaebokkjbaaGreat.Base Go.Proofs.YtkiloaebokkjbaaGreat.OctPlain Go.Proofs.YtkiloaebokkjbaaGreat.Tab

theorem size_any (n : Int) (n0 : 0 ≤ n) (w : World) :
    Calls Tryz.prog 160 #[.int .u64 n] w fun e w' => e = .returned (.int .i64 (size n)) ∧ w = w' := by
  go_enter Tryz.func160, Tryz.ntmps160
  go_wp2
  all_goals go_ret
  all_goals exact ⟨ret_i64 (by unfold size; (repeat' split) <;> omega), rfl⟩
theorem ref_size (n : Int) (n0 : 0 ≤ n) (w : World) :
    Calls Tryz.prog 120 #[.int .u64 n] w fun e w' => e = .returned (.int .i64 (size n)) ∧ w = w' := by
  go_enter Tryz.func120, Tryz.ntmps120
  go_wp2
  all_goals go_ret
  all_goals exact ⟨ret_i64 (by unfold size; (repeat' split) <;> omega), rfl⟩
theorem join_any (a : Option Addr) (n cap : Nat) (l : List Int) (w : World) (hn : l.length = n) (h8 : n ≤ 8) (hb : Bytes l) (hr : Ints .u8 w a l) :
    Calls Tryz.prog 130 #[.slice a n cap] w fun e w' => e = .returned (.int .u64 (val l)) ∧ w = w' := by
  subst hn
  go_enter Tryz.func130, Tryz.ntmps130
  go_wp2
  go_loop [3, 8] (fun x i => ∃ k : Nat, k ≤ l.length ∧ i = .int .i64 k ∧ x = .int .u64 (val (l.take k))) (fun _ i => l.length - (intOf i).toNat)
  case atStart => exact ⟨0, Nat.zero_le _, rfl, rfl⟩
  case round =>
    obtain ⟨k, hk, rfl, rfl⟩ := hrel
    by_cases hlt : k < l.length
    · obtain ⟨b, off, rfl, hbl, hcell⟩ := hr.at_ hlt
      have hl := val_take hlt
      have hx := hb.at k
      have hv := val_bd7 (hb.take k) (by rw [List.length_take]; omega)
      generalize l.getD k 0 = x at hcell hl hx
      have H := Lib.hid hl
      clear hl
      generalize val (l.take k) = v at hv H
      obtain ⟨x0, x1⟩ := hx
      obtain ⟨v0, v1⟩ := hv
      go_wp2
      all_goals go_round
      case rel => exact ⟨k + 1, by omega, by go_num, by rw [or_byte v0 v1 x0 x1, H.out]⟩
      case measure => simp [intOf]; omega
    · have H := Lib.hid (show l.take k = l by rw [List.take_of_length_le (by omega)])
      go_wp2
      go_ret
      exact ⟨Base.ret_u64 (by rw [H.out]), rfl⟩
theorem info : (Tryz.prog.info? 5).map (fun i => (i.zero, i.size, i.bytes)) = some (some (.int .u8 0), 1, 1) := by kernel_rfl
theorem clone_any (a : Option Addr) (n cap : Nat) (l : List Int) (w : World) (hn : l.length = n) (hc : n ≤ cap) (hr : n ≤ 140737488355328) (h0 : a = none → n = 0 ∧ cap = 0) (hz : Ints .u8 w a l) :
    Calls Tryz.prog 110 #[.slice a n cap] w fun e w' => ∃ a' cap', e = .returned (.slice a' n cap') ∧ n ≤ cap' ∧ cap' ≤ maxLen ∧ (a' = none → n = 0 ∧ cap' = 0) ∧ RowIn (fun k => w.heap.size ≤ k) w' a' (l.map (.int .u8)) ∧ Below w.heap.size w w' := by
  obtain ⟨i0, hi0, hz0, hz1, hz2⟩ := info_parts info
  have qT : ∀ (w : World) (a : Option Addr) (n c : Nat), (binOp .eql 38 (.slice a n c) (.slice none 0 0)).run Tryz.prog w = .ok (.bool a.isNone) w := fun w a n c => Lib.run_eql_slice_nil w _ _ a n c 0 0 Tryz.underlying38
  cases a with
  | none =>
    obtain ⟨rfl, rfl⟩ := h0 rfl
    obtain rfl : l = [] := List.eq_nil_of_length_eq_zero hn
    go_enter Tryz.func110, Tryz.ntmps110
    go_wp2
    all_goals go_ret
    all_goals exact ⟨none, 0, rfl, Nat.zero_le _, (fun _ => rfl), RowIn.nil _ _ _, Below.refl _ _⟩
  | some ad =>
    subst hn
    have hM : l.length ≤ maxLen := by unfold maxLen; omega
    go_enter Tryz.func110, Tryz.ntmps110
    go_wp2_with (at_builtin; refine wpl_append_row _ rfl (.tmp 5) (.tmp 6) _ rfl w.heap.size 5 i0 _ 1 1 Tryz.underlying38 hi0 hz0 hz1 hz2 rfl (by omega) (.slice (some ⟨w.heap.size, 0, none⟩) 0 0) 0 [] rfl (World.ownsRow_lit w #[] 0 (Nat.le_refl _) (Nat.zero_le _) rfl) (some ad) l.length cap (l.map (Value.int .u8)) rfl (by simp) (Row.alloc hz _) (ints_oneCell _ _) (by omega) (by omega) (by simp) ?_; intro v1 w1 hown1 hg1 hat1; have hb1 : Below w.heap.size w w1 := ((Below.refl _ _).alloc (Nat.le_refl _) _).grown hg1 (by simp) (by simp [Value.ownBlock]); obtain ⟨a1, cap1, rfl, hn1, hc1, hz1', R1⟩ := rowIn_of_own Nat.one_pos hown1)
    all_goals go_ret
    all_goals exact ⟨a1, cap1, by simp, by omega, hc1, by simpa using hz1', by simpa using R1, hb1⟩
/-- The reader at block b has the bytes l left. -/
def Rd (S : Nat → Prop) (w : World) (b : Nat) (l : List Int) : Prop :=
  S b ∧ ∃ a cap, Blk w b #[.slice a l.length cap] 184 ∧ l.length ≤ cap ∧ cap ≤ maxLen ∧ (a = none → l.length = 0 ∧ cap = 0) ∧ RowIn (fun k => S k ∧ k ≠ b) w a (l.map (.int .u8))
theorem Rd.kept {S T : Nat → Prop} {w w' : World} {b : Nat} {l : List Int} (h : Rd S w b l) (hf : Fr T w w') (hn : ∀ k, S k → ¬ T k) : Rd S w' b l := by
  obtain ⟨hS, a, cap, h1, h2, h3, h0, h4⟩ := h
  exact ⟨hS, a, cap, h1.kept hf (hn b hS), h2, h3, h0, h4.kept hf fun k hk => hn k hk.1⟩
theorem Rd.drew {S : Nat → Prop} {w : World} {b : Nat} {l : List Int} (h : Rd S w b l) : Rd S w.drew b l := h
theorem Rd.drewN {S : Nat → Prop} {w : World} {b : Nat} {l : List Int} (h : Rd S w b l) (n : Nat) : Rd S (w.drewN n) b l := h
theorem Rd.below {S : Nat → Prop} {B : Nat} {w w' : World} {b : Nat} {l : List Int} (h : Rd S w b l) (hf : Below B w w') (hn : ∀ k, S k → k < B) : Rd S w' b l := by
  obtain ⟨hS, a, cap, h1, h2, h3, h0, h4⟩ := h
  exact ⟨hS, a, cap, h1.below hf (hn b hS), h2, h3, h0, h4.below hf fun k hk => hn k hk.1⟩
theorem new_any (a : Option Addr) (n cap : Nat) (l : List Int) (w : World) (hn : l.length = n) (hc : n ≤ cap) (hr : n ≤ 140737488355328) (h0 : a = none → n = 0 ∧ cap = 0) (hz : Ints .u8 w a l) :
    Calls Tryz.prog 88 #[.slice a n cap] w fun e w' => ∃ b, e = .returned (.pointer (some ⟨b, 0, none⟩)) ∧ Rd (fun k => w.heap.size ≤ k ∧ k < w'.heap.size) w' b l ∧ Below w.heap.size w w' := by
  go_enter Tryz.func88, Tryz.ntmps88
  go_wp2_with (go_at_call 110; refine (clone_any a n cap l w hn hc hr h0 hz).mono ?_; rintro e w1 ⟨a1, cap1, rfl, hn1, hc1, hz1, R1, hb1⟩)
  all_goals go_ret
  subst hn
  have hsz := World.size_alloc (w := w1) (o := .cells #[.slice a1 l.length cap1] 184)
  refine ⟨w1.heap.size, rfl, ⟨⟨hb1.size, by rw [hsz]; omega⟩, a1, cap1, Blk.new _ _ _, hn1, hc1, hz1, ?_⟩, hb1.alloc hb1.size _⟩
  exact (R1.alloc _).mono fun k _ hk => ⟨⟨hk.1, by rw [hsz]; omega⟩, by omega⟩
theorem left_any {S : Nat → Prop} {w : World} {b : Nat} {l : List Int} (h : Rd S w b l) :
    Calls Tryz.prog 90 #[.pointer (some ⟨b, 0, none⟩)] w fun e w' => e = .returned (.int .i64 l.length) ∧ w = w' := by
  obtain ⟨hS, a, cap, hB, _⟩ := h
  have c0 : w.cell? ⟨b, 0, none⟩ = some (.slice a l.length cap) := hB.cell 0
  go_enter Tryz.func90, Tryz.ntmps90
  go_wp2
  all_goals go_ret
  all_goals exact ⟨rfl, rfl⟩
/-- The reader behind a store of what is left behind n bytes. -/
theorem rd_step {S : Nat → Prop} {w w1 : World} {b n cap cap' : Nat} {a a' : Option Addr} {l : List Int} (hS : S b) (hB : Blk w b #[.slice a l.length cap] 184) (hb1 : Below w.heap.size w w1) (hlc : l.length ≤ cap) (hcm : cap ≤ 2 ^ 63 - 1)
    (h0 : a = none → l.length = 0 ∧ cap = 0) (hR : RowIn (fun k => S k ∧ k ≠ b) w a (l.map (.int .u8))) (hn : n ≤ l.length)
    (hc : (cap = n ∧ a' = a ∧ cap' = 0) ∨ (¬ cap = n ∧ a' = Option.map (fun x => x.add n) a ∧ cap' = cap - n)) :
    Rd S (w1.setCell ⟨b, 0, none⟩ (.slice a' (l.length - n) cap')) b (l.drop n) ∧ Fr (fun k => k = b) w (w1.setCell ⟨b, 0, none⟩ (.slice a' (l.length - n) cap')) ∧
      Fr (fun k => k = b) w1 (w1.setCell ⟨b, 0, none⟩ (.slice a' (l.length - n) cap')) := by
  have F1 : Fr (fun k => k = b) w1 (w1.setCell ⟨b, 0, none⟩ (.slice a' (l.length - n) cap')) := Fr.setCell (S := fun k => k = b) (Fr.refl _ _) (p := ⟨b, 0, none⟩) (fun _ => rfl) _
  have F : Fr (fun k => k = b) w (w1.setCell ⟨b, 0, none⟩ (.slice a' (l.length - n) cap')) := (Fr.of_below (S := fun k => k = b) hb1).trans F1 fun _ _ h => h
  have hB1 := (hB.below hb1 hB.lt).set 0 (.slice a' (l.length - n) cap')
  have hl : (l.drop n).length = l.length - n := List.length_drop
  refine ⟨⟨hS, a', cap', by rw [hl]; exact hB1, ?_, ?_, ?_, ?_⟩, F, F1⟩
  · rw [hl]; omega
  · unfold maxLen; omega
  · rw [hl]
    rcases hc with ⟨h1, h2, h3⟩ | ⟨h1, rfl, h3⟩
    · intro _; omega
    · intro e
      cases a with
      | none => have := h0 rfl; omega
      | some ad => cases e
  · rcases hc with ⟨h1, h2, h3⟩ | ⟨h1, rfl, h3⟩
    · rw [List.drop_eq_nil_of_le (by omega)]
      exact RowIn.nil _ _ _
    · cases l with
      | nil => rw [List.drop_nil]; exact RowIn.nil _ _ _
      | cons x r =>
        obtain ⟨g, off, rfl, _, _, _⟩ := hR 0 (.int .u8 x) rfl
        rw [List.map_drop]
        have := hR.drop n
        have e : Option.map (fun x => x.add n) (some (⟨g, off, none⟩ : Addr)) = some ⟨g, off + n, none⟩ := by simp [add_plain]
        rw [e] at F ⊢
        exact this.kept F fun k hk => hk.2
theorem take_any {S : Nat → Prop} {w : World} {b : Nat} {l : List Int} (h : Rd S w b l) (m : Int) (n : Nat) (hm : m = n) (hn : n ≤ l.length) (hr : l.length ≤ 140737488355328) :
    Calls Tryz.prog 129 #[.pointer (some ⟨b, 0, none⟩), .int .i64 m] w fun e w' => ∃ a cap, e = .returned (.tuple #[.slice a n cap, .int .i64 0]) ∧
      n ≤ cap ∧ cap ≤ maxLen ∧ (a = none → n = 0 ∧ cap = 0) ∧ RowIn (fun k => w.heap.size ≤ k) w' a ((l.take n).map (.int .u8)) ∧ Rd S w' b (l.drop n) ∧ Fr (fun k => k = b) w w' := by
  subst hm
  obtain ⟨hS, a, cap, hB, hlc, hcm, h0, hR⟩ := h
  have c0 : w.cell? ⟨b, 0, none⟩ = some (.slice a l.length cap) := hB.cell 0
  have f0 := hB.free 0
  unfold maxLen at hcm
  have hI : Ints .u8 w a (l.take n) := by
    show Row w a ((l.take n).map _)
    rw [List.map_take]
    exact hR.row.take n
  have h0' : a = none → n = 0 ∧ cap = 0 := fun e => by have := h0 e; omega
  go_enter Tryz.func129, Tryz.ntmps129
  go_wp2_with (go_at_call 110; refine (clone_any a n cap (l.take n) w (by rw [List.length_take]; omega) (by omega) (by omega) h0' hI).mono ?_; rintro e w1 ⟨a1, cap1, rfl, hn1, hc1, hz1, R1, hb1⟩; have c1 : w1.cell? ⟨b, 0, none⟩ = some (.slice a l.length cap) := (hb1.cell (p := ⟨b, 0, none⟩) hB.lt).trans c0; have f1 : w1.frozen? ⟨b, 0, none⟩ = false := (hb1.frozen (p := ⟨b, 0, none⟩) hB.lt).trans f0)
  all_goals go_ret2
  · have X := rd_step (a' := a) (cap' := 0) hS hB hb1 hlc hcm h0 hR hn (.inl ⟨by assumption, rfl, rfl⟩)
    exact ⟨a1, cap1, rfl, hn1, hc1, hz1, by rw [← List.map_take]; exact R1.kept (T := fun k => k = b) X.2.2 (fun k hk e => by have := hB.lt; omega), X.1, X.2.1⟩
  · have X := rd_step (a' := Option.map (fun x => x.add n) a) (cap' := cap - n) hS hB hb1 hlc hcm h0 hR hn (.inr ⟨by assumption, rfl, rfl⟩)
    exact ⟨a1, cap1, rfl, hn1, hc1, hz1, by rw [← List.map_take]; exact R1.kept (T := fun k => k = b) X.2.2 (fun k hk e => by have := hB.lt; omega), X.1, X.2.1⟩
theorem take_short {S : Nat → Prop} {w : World} {b : Nat} {l : List Int} (h : Rd S w b l) (m : Int) (hm : (l.length : Int) < m) :
    Calls Tryz.prog 129 #[.pointer (some ⟨b, 0, none⟩), .int .i64 m] w fun e w' => e = .returned (.tuple #[.slice none 0 0, .int .i64 2]) ∧ w = w' := by
  obtain ⟨hS, a, cap, hB, hlc, hcm, h0, hR⟩ := h
  have c0 : w.cell? ⟨b, 0, none⟩ = some (.slice a l.length cap) := hB.cell 0
  go_enter Tryz.func129, Tryz.ntmps129
  go_wp2
  all_goals go_ret2
  all_goals exact ⟨rfl, rfl⟩
theorem word_any {S : Nat → Prop} {w : World} {b : Nat} {l : List Int} (h : Rd S w b l) (hb : Bytes l) (hn : 8 ≤ l.length) (hr : l.length ≤ 140737488355328) :
    Calls Tryz.prog 113 #[.pointer (some ⟨b, 0, none⟩)] w fun e w' => e = .returned (.tuple #[.int .u64 (val (l.take 8)), .int .i64 0]) ∧ Rd S w' b (l.drop 8) ∧ Fr (fun k => k = b) w w' := by
  have ht := take_any h 8 8 rfl hn hr
  have hl : (l.take 8).length = 8 := by rw [List.length_take]; omega
  go_enter Tryz.func113, Tryz.ntmps113
  go_wp2_with (first
    | (go_at_call 129; refine ht.mono ?_; rintro e w1 ⟨a, cap, rfl, h1, h2, h3, h4, h5, h6⟩)
    | (go_at_call 130; refine (join_any a 8 cap (l.take 8) w1 hl (Nat.le_refl _) (hb.take 8) h4.row).mono ?_; rintro e w' ⟨rfl, rfl⟩))
  all_goals go_ret2
  all_goals exact ⟨rfl, h5, h6⟩
theorem word_short {S : Nat → Prop} {w : World} {b : Nat} {l : List Int} (h : Rd S w b l) (hn : l.length < 8) :
    Calls Tryz.prog 113 #[.pointer (some ⟨b, 0, none⟩)] w fun e w' => e = .returned (.tuple #[.int .u64 0, .int .i64 2]) ∧ w = w' := by
  have ht := take_short h 8 (by omega)
  go_enter Tryz.func113, Tryz.ntmps113
  go_wp2_with (first
    | (go_at_call 129; refine ht.mono ?_; rintro e w1 ⟨rfl, rfl⟩)
    | (go_at_call 130; refine (join_any none 0 0 [] w rfl (by omega) Bytes.nil (Row.nil _ _)).mono ?_; rintro e w' ⟨rfl, rfl⟩))
  all_goals go_ret2
  all_goals exact ⟨rfl, rfl⟩
end Go.Proofs.YtkiloaebokkjbaaGreat.Oct

/-
  Contracts of the reference's encodings.
-/
set_option linter.unusedSimpArgs false
set_option linter.unusedVariables false
namespace Go.Proofs.YtkiloaebokkjbaaGreat.Oct
set_option linter.unusedVariables false
set_option maxRecDepth 20000
open Go.ChangeShapes Go.WideShapes Go.ChangeAt Go.RowKit
open Go.Proofs.YtkiloaebokkjbaaGreat.Base Go.Proofs.YtkiloaebokkjbaaGreat.OctPlain Go.Proofs.YtkiloaebokkjbaaGreat.Tab

/-- A row of the call's own with bytes put behind it. -/
def Own (base : Nat) (w : World) (v : Value) (l : List Int) : Prop := w.ownsRow base 5 1 v l.length (l.map (.int .u8))
theorem Own.nil (base : Nat) (w : World) : Own base w (.slice none 0 0) [] := World.ownsRow_nil _ _ _ _
theorem Own.drew {base : Nat} {w : World} {v : Value} {l : List Int} (h : Own base w v l) : Own base w.drew v l := h
theorem Own.read {base : Nat} {w : World} {v : Value} {l : List Int} (h : Own base w v l) : ∃ a cap, v = .slice a l.length cap ∧ l.length ≤ cap ∧ cap ≤ maxLen ∧ (a = none → l.length = 0 ∧ cap = 0) ∧ RowIn (fun k => base ≤ k) w a (l.map (.int .u8)) := rowIn_of_own Nat.one_pos h
theorem Own.below {base : Nat} {w w' : World} {v : Value} {l : List Int} (h : Own base w v l) (hb : Below w.heap.size w w') : Own base w' v l := by
  obtain ⟨h1, h2⟩ := h
  refine ⟨h1, ?_⟩
  rcases h2 with h2 | ⟨g, cap, cur, hv, hg, hh, r⟩
  · exact Or.inl h2
  · exact Or.inr ⟨g, cap, cur, hv, hg, (hb.block g (lt_of_block hh)).trans hh, r⟩
theorem Own.snoc {base : Nat} {w : World} {v : Value} {l : List Int} {y : Int} (h : w.ownsRow base 5 1 v (l.length + 1) (l.map (.int .u8) ++ [.int .u8 y])) : Own base w v (l ++ [y]) := by
  unfold Own
  simpa using h
theorem Own.turned {base : Nat} {w w' : World} {v : Value} {l : List Int} {o : Obj} (h : Own base w v l) (hg : (w.alloc o).grownBy w' v.ownBlock) : Fr (fun k => base ≤ k) w w' :=
  (Fr.alloc (Fr.refl _ w) o).trans (Fr.of_grown (S := fun k => base ≤ k) hg fun k hk => (h.lt k hk).1) fun _ _ h => h
theorem ref_eight {base : Nat} {w : World} {v : Value} {xs : List Int} (h : Own base w v xs) (hB : base ≤ w.heap.size) (hx : xs.length ≤ 1048576) (n : Int) (n0 : 0 ≤ n) (n1 : n ≤ 18446744073709551615) :
    Calls Tryz.prog 55 #[v, .int .u64 n] w fun e w' => ∃ v', e = .returned v' ∧ Own base w' v' (xs ++ be 8 n) ∧ Fr (fun k => base ≤ k) w w' := by
  obtain ⟨i0, hi0, hz0, hz1, hz2⟩ := info_parts info
  go_enter Tryz.func55, Tryz.ntmps55
  go_wp2
  go_loopw [0, 5] (fun s i wr => ∃ j : Nat, j ≤ 8 ∧ i = .int .i64 (7 - (j : Int)) ∧ Own base wr s (xs ++ (be 8 n).take j) ∧ Fr (fun k => base ≤ k) w wr) (fun _ i _ => (intOf i + 1).toNat)
  case atStart => exact ⟨0, by omega, rfl, by simpa using h, Fr.refl _ _⟩
  case round =>
    obtain ⟨j, hj, rfl, hown, hF⟩ := hrel
    clear h
    by_cases hlt : j < 8
    · have hg := be_get 8 n j hlt
      have ht : (be 8 n).take (j + 1) = (be 8 n).take j ++ [n / 256 ^ (8 - 1 - j) % 256] := by rw [List.take_add_one, hg]; rfl
      have hl : (xs ++ (be 8 n).take j).length ≤ 1048600 := by simp [be_len]; omega
      have hd := Int.ediv_le_self (256 ^ (7 - j)) n0
      have hd0 : 0 ≤ n / 256 ^ (7 - j) := Int.ediv_nonneg n0 (by have := pow_pos (7 - j); omega)
      have hy : bits .and .u64 (n / 2 ^ (8 * (7 - j))) 255 = n / 256 ^ (8 - 1 - j) % 256 := by
        rw [pow_eight, show 8 - 1 - j = 7 - j by omega, and_255 hd0 (by omega)]
      have y0 : 0 ≤ n / 256 ^ (8 - 1 - j) % 256 := by omega
      have y1 : n / 256 ^ (8 - 1 - j) % 256 ≤ 255 := by omega
      have HT := Lib.hid (show xs ++ (be 8 n).take (j + 1) = (xs ++ (be 8 n).take j) ++ [n / 256 ^ (8 - 1 - j) % 256] by rw [ht, List.append_assoc])
      have hsz := hF.size
      clear ht hg hd hd0
      generalize xs ++ (be 8 n).take j = ys at hown hl HT
      generalize n / 256 ^ (8 - 1 - j) % 256 = y at hy y0 y1 HT
      go_wp2_with (at_builtin; refine wpl_append_row _ rfl (.tmp 10) (.tmp 18) _ rfl base 5 i0 _ 1 1 Tryz.underlying38 hi0 hz0 hz1 hz2 rfl (by omega) _ _ _ rfl (hown.alloc _) (some ⟨wr.heap.size, 0, none⟩) 1 1 [.int .u8 y] rfl rfl (Row.lit wr _ [.int .u8 y]) (by simp [Value.oneCell']) (by unfold maxLen; omega) (by omega) (by simp; omega) ?_; intro v3 w3 hown3 hg3 hat3)
      all_goals go_roundw
      case rel => exact ⟨j + 1, by omega, by go_num, by rw [HT.out]; exact Own.snoc hown3, hF.trans (hown.turned hg3) fun _ _ h => h⟩
      case measure => simp [intOf]; omega
    · obtain rfl : j = 8 := by omega
      rw [show (be 8 n).take 8 = be 8 n from List.take_of_length_le (by rw [be_len]; omega)] at hown
      go_wp2
      go_ret
      exact ⟨_, rfl, hown, hF⟩
theorem ref_put_at {base : Nat} {w : World} {v : Value} {xs : List Int} (h : Own base w v xs) (hB : base ≤ w.heap.size) (hx : xs.length ≤ 1048576) (n : Int) (j c : Nat) (n0 : 0 ≤ n) (n1 : n ≤ 18446744073709551615)
    (hs : size n = (j : Int) + 1) (hj7 : j ≤ 7) (hc : c ≤ 3) (hp : pw c = (j : Int) + 1) (hlt : n / 256 ^ j % 256 < 64) :
    Calls Tryz.prog 97 #[v, .int .u64 n] w fun e w' => ∃ v', e = .returned v' ∧ Own base w' v' (xs ++ ((n / 256 ^ j % 256 + (c : Int) * 64) :: be j n)) ∧ Fr (fun k => base ≤ k) w w' := by
  obtain ⟨i0, hi0, hz0, hz1, hz2⟩ := info_parts info
  have hsz := ref_size n n0
  rw [hs] at hsz
  go_enter Tryz.func97, Tryz.ntmps97
  go_wp2_with (go_at_call 120; (with_reducible refine (hsz _).mono ?_); rintro e w' ⟨rfl, rfl⟩)
  go_loopw [6, 7] (fun d i wr => ∃ t : Nat, t ≤ c ∧ d = .int .i64 t ∧ i = .int .i64 (pw (c - t)) ∧ w = wr) (fun _ i _ => (intOf i).toNat)
  case atStart => exact ⟨0, Nat.zero_le _, rfl, by rw [Nat.sub_zero, hp], rfl⟩
  case round =>
    obtain ⟨t, ht, rfl, rfl, rfl⟩ := hrel
    by_cases htc : t < c
    · obtain ⟨p1, p2⟩ := pw_half (t := c - t) (by omega) (by omega)
      have pb := pw_bd (c - t)
      rw [show c - t - 1 = c - (t + 1) by omega] at p2
      generalize pw (c - t) = q at *
      have p3 : q.tdiv 2 = q / 2 := Int.tdiv_eq_ediv_of_nonneg (by omega)
      have P2 := Lib.hid p2
      clear p2 h
      go_wp2
      all_goals go_roundw
      case rel => exact ⟨t + 1, by omega, by go_num, by rw [P2.out], by trivial⟩
      case measure => simp only [intOf]; omega
    · obtain rfl : t = c := by omega
      rw [Nat.sub_self, pw_zero]
      go_wp2
      clear hsz
      go_loopw [0, 8] (fun s i wr => ∃ m : Nat, m ≤ j + 1 ∧ i = .int .i64 ((j : Int) - (m : Int)) ∧ Own base wr s (xs ++ ((n / 256 ^ j % 256 + (t : Int) * 64) :: be j n).take m) ∧ Fr (fun k => base ≤ k) w wr) (fun _ i _ => (intOf i + 1).toNat)
      case atStart => exact ⟨0, by omega, by go_num, by simpa using h, Fr.refl _ _⟩
      case round =>
        obtain ⟨m, hm, rfl, hown, hF⟩ := hrel
        clear h
        by_cases hmj : m ≤ j
        · have hd := Int.ediv_le_self (256 ^ (j - m)) n0
          have hd0 : 0 ≤ n / 256 ^ (j - m) := Int.ediv_nonneg n0 (by have := pow_pos (j - m); omega)
          have hy : bits .and .u64 (n / 2 ^ (8 * (j - m))) 255 = n / 256 ^ (j - m) % 256 := by
            rw [pow_eight, and_255 hd0 (by omega)]
          have y0 : 0 ≤ n / 256 ^ (j - m) % 256 := by omega
          have y1 : n / 256 ^ (j - m) % 256 ≤ 255 := by omega
          have hl : (xs ++ ((n / 256 ^ j % 256 + (t : Int) * 64) :: be j n).take m).length ≤ 1048600 := by simp [be_len]; omega
          have hsz := hF.size
          rcases Nat.eq_zero_or_pos m with rfl | hm0
          · have HT := Lib.hid (show xs ++ ((n / 256 ^ j % 256 + (t : Int) * 64) :: be j n).take (0 + 1) = (xs ++ ((n / 256 ^ j % 256 + (t : Int) * 64) :: be j n).take 0) ++ [n / 256 ^ j % 256 + (t : Int) * 64] by simp)
            have ho := or_tag (c := (t : Int)) (by omega) (by omega) (show 0 ≤ n / 256 ^ j % 256 by omega) hlt
            generalize xs ++ ((n / 256 ^ j % 256 + (t : Int) * 64) :: be j n).take 0 = ys at hown hl HT
            rw [Nat.sub_zero] at hy y0 y1
            clear hd hd0 hs
            generalize n / 256 ^ j % 256 = y at *
            go_wp2_with (at_builtin; refine wpl_append_row _ rfl (.tmp 41) (.tmp 43) _ rfl base 5 i0 _ 1 1 Tryz.underlying38 hi0 hz0 hz1 hz2 rfl (by omega) _ _ _ rfl (hown.alloc _) (some ⟨wr.heap.size, 0, none⟩) 1 1 [.int .u8 (y + (t : Int) * 64)] rfl rfl (Row.lit wr _ [.int .u8 (y + (t : Int) * 64)]) (by simp [Value.oneCell']) (by unfold maxLen; omega) (by omega) (by simp; omega) ?_; intro v3 w3 hown3 hg3 hat3)
            all_goals go_roundw
            case rel => exact ⟨0 + 1, by omega, by go_num, by rw [HT.out]; exact Own.snoc hown3, hF.trans (hown.turned hg3) fun _ _ h => h⟩
            case measure => (simp [intOf]; try omega)
          · have hg := be_get j n (m - 1) (by omega)
            rw [show j - 1 - (m - 1) = j - m by omega] at hg
            have HT := Lib.hid (show xs ++ ((n / 256 ^ j % 256 + (t : Int) * 64) :: be j n).take (m + 1) = (xs ++ ((n / 256 ^ j % 256 + (t : Int) * 64) :: be j n).take m) ++ [n / 256 ^ (j - m) % 256] by
              obtain ⟨i, rfl⟩ : ∃ i, m = i + 1 := ⟨m - 1, by omega⟩
              rw [Nat.add_sub_cancel] at hg
              rw [List.take_succ_cons, List.take_succ_cons, List.take_add_one, hg]
              simp)
            generalize xs ++ ((n / 256 ^ j % 256 + (t : Int) * 64) :: be j n).take m = ys at hown hl HT
            clear hd hd0 hg hs
            generalize n / 256 ^ (j - m) % 256 = y at *
            go_wp2_with (at_builtin; refine wpl_append_row _ rfl (.tmp 41) (.tmp 43) _ rfl base 5 i0 _ 1 1 Tryz.underlying38 hi0 hz0 hz1 hz2 rfl (by omega) _ _ _ rfl (hown.alloc _) (some ⟨wr.heap.size, 0, none⟩) 1 1 [.int .u8 y] rfl rfl (Row.lit wr _ [.int .u8 y]) (by simp [Value.oneCell']) (by unfold maxLen; omega) (by omega) (by simp; omega) ?_; intro v3 w3 hown3 hg3 hat3)
            all_goals go_roundw
            case rel => exact ⟨m + 1, by omega, by go_num, by rw [HT.out]; exact Own.snoc hown3, hF.trans (hown.turned hg3) fun _ _ h => h⟩
            case measure => (simp [intOf]; try omega)
        · obtain rfl : m = j + 1 := by omega
          rw [List.take_of_length_le (by simp [be_len])] at hown
          go_wp2
          go_ret
          exact ⟨_, rfl, hown, hF⟩
theorem ref_put_none {base : Nat} {w : World} {v : Value} {xs : List Int} (h : Own base w v xs) (n : Int) (n0 : 0 ≤ n) (hs : size n = 0) :
    Calls Tryz.prog 97 #[v, .int .u64 n] w fun e w' => e = .returned v ∧ w = w' := by
  have hsz := ref_size n n0
  rw [hs] at hsz
  go_enter Tryz.func97, Tryz.ntmps97
  go_wp2_with (go_at_call 120; (with_reducible refine (hsz _).mono ?_); rintro e w' ⟨rfl, rfl⟩)
  go_loop [6, 7] (fun d i => d = .int .i64 0 ∧ i = .int .i64 0) (fun _ i => (intOf i).toNat)
  case atStart => exact ⟨rfl, rfl⟩
  case round =>
    obtain ⟨rfl, rfl⟩ := hrel
    go_wp2
    go_loop [0, 8] (fun s i => s = v ∧ i = .int .i64 (-1)) (fun _ i => (intOf i).toNat)
    case atStart => exact ⟨rfl, rfl⟩
    case round =>
      obtain ⟨rfl, rfl⟩ := hrel
      go_wp2
      go_ret
      exact ⟨rfl, rfl⟩
theorem ref_put {base : Nat} {w : World} {v : Value} {xs : List Int} (h : Own base w v xs) (hB : base ≤ w.heap.size) (hx : xs.length ≤ 1048576) (n : Int) (n0 : 0 ≤ n) (n1 : n ≤ 18446744073709551615) :
    Calls Tryz.prog 97 #[v, .int .u64 n] w fun e w' => ∃ v', e = .returned v' ∧ Own base w' v' (xs ++ put n) ∧ Fr (fun k => base ≤ k) w w' := by
  by_cases hn : n ≤ 4611686018427387903
  · obtain ⟨j, c, hjc, hs, hlt, hp⟩ := put_form n0 hn
    rw [hp]
    refine ref_put_at h hB hx n j c n0 n1 hs (by omega) (by omega) ?_ hlt
    rcases hjc with ⟨rfl, rfl⟩ | ⟨rfl, rfl⟩ | ⟨rfl, rfl⟩ | ⟨rfl, rfl⟩ <;> rfl
  · obtain ⟨hp, hs⟩ := put_none (n := n) (by omega)
    rw [hp, List.append_nil]
    exact (ref_put_none h n n0 hs).mono fun e w' ⟨he, hw⟩ => by subst hw; exact ⟨v, he, h, Fr.refl _ _⟩
theorem Row.at_drop {w : World} {a : Option Addr} {l : List Int} {t i : Nat} {y : Int} (h : Ints .u8 w a l) (hy : (l.drop t)[i]? = some y) : ∃ b off, a = some ⟨b, off, none⟩ ∧ b < w.heap.size ∧ w.cell? ⟨b, off + (t + i), none⟩ = some (.int .u8 y) := by
  rw [List.getElem?_drop] at hy
  exact h (t + i) (.int .u8 y) (by rw [List.getElem?_map, hy]; rfl)
theorem ref_num_at (a : Option Addr) (len cap t : Nat) (s : Int) (l : List Int) (w : World) (hl : l.length = len) (hs : s = t) (ht : t ≤ len) (hm : len ≤ 140737488355328) (hb : Bytes l) (hI : Ints .u8 w a l) :
    Calls Tryz.prog 125 #[.slice a len cap, .int .i64 s] w fun e w' => e = .returned (.tuple #[.int .u64 (num (l.drop t)).1, .int .i64 ((t : Int) + ((num (l.drop t)).2.1 : Int)), .int .i64 (num (l.drop t)).2.2]) ∧ w = w' := by
  subst hs
  subst hl
  have hbd := hb.drop t
  have hld : (l.drop t).length = l.length - t := List.length_drop
  cases hd : l.drop t with
  | nil =>
    rw [hd] at hld
    have hle : l.length ≤ t := by simp at hld; omega
    have hN : num ([] : List Int) = (0, 0, 2) := rfl
    rw [hN]
    go_enter Tryz.func125, Tryz.ntmps125
    go_wp2
    all_goals go_ret3
    all_goals exact ⟨by simp, rfl⟩
  | cons x r =>
    rw [hd] at hld hbd
    have hrl : t + r.length + 1 = l.length := by simp at hld; omega
    obtain ⟨g, off, rfl, hgl, hcx⟩ := Row.at_drop (t := t) (i := 0) hI (by rw [hd]; rfl)
    rw [Nat.add_zero] at hcx
    have hw := need_pow hbd.head
    have nb := need_bd x
    have hx := hbd.head
    by_cases hsh : r.length + 1 < need x
    · have hN : num (x :: r) = (0, 0, 2) := by rw [num_cons, if_pos (by simp only [List.length_cons]; omega)]
      rw [hN]
      generalize need x = k at *
      obtain ⟨x0, x1⟩ := hx
      go_enter Tryz.func125, Tryz.ntmps125
      go_wp2
      all_goals go_ret3
      all_goals exact ⟨by simp, rfl⟩
    · have hN : num (x :: r) = if size (val (x % 64 :: r.take (need x - 1))) = need x then (val (x % 64 :: r.take (need x - 1)), need x, 0) else (0, 0, 5) := by
        rw [num_cons, if_neg (by simp only [List.length_cons]; omega)]
      rw [hN]
      have h63 := and_63 hx.1 hx.2
      clear hN
      generalize hR : ((if size (val (x % 64 :: r.take (need x - 1))) = need x then (val (x % 64 :: r.take (need x - 1)), need x, 0) else (0, 0, 5)) : Int × Nat × Int) = R
      generalize need x = k at *
      obtain ⟨x0, x1⟩ := hx
      go_enter Tryz.func125, Tryz.ntmps125
      go_wp2
      go_loop [8, 9] (fun u i => ∃ m : Nat, m + 1 ≤ k ∧ i = .int .i64 ((m : Int) + 1) ∧ u = .int .u64 (val (x % 64 :: r.take m))) (fun _ i => k - (intOf i).toNat)
      case atStart => exact ⟨0, by omega, by go_num, by simp [val]⟩
      case round =>
        obtain ⟨m, hm1, rfl, rfl⟩ := hrel
        have hvb := val_bd7 (l := x % 64 :: r.take m)
        by_cases hmk : m + 1 < k
        · obtain ⟨y, hy⟩ : ∃ y, r[m]? = some y := ⟨r[m]'(by omega), by simp⟩
          obtain ⟨g', off', e, _, hcy⟩ := Row.at_drop (t := t) (i := m + 1) (y := y) hI (by rw [hd]; simpa using hy)
          cases e
          have yb := hbd.tail y (List.mem_of_getElem? hy)
          have HT := Lib.hid (show val (x % 64 :: r.take (m + 1)) = val (x % 64 :: r.take m) * 256 + y by
            rw [List.take_add_one, hy, ← val_snoc]; rfl)
          obtain ⟨v0, v1⟩ := val_bd7 (l := x % 64 :: r.take m) (Bytes.cons (by omega) (hbd.tail.take m)) (by rw [List.length_cons, List.length_take]; omega)
          obtain ⟨y0, y1⟩ := yb
          have ho := or_byte v0 v1 y0 y1
          clear hvb hbd hI
          generalize val (x % 64 :: r.take m) = v at *
          go_wp2
          all_goals go_round
          case rel => exact ⟨m + 1, by omega, by go_num, by rw [HT.out]⟩
          case measure => simp only [intOf]; omega
        · obtain rfl : k = m + 1 := by omega
          rw [Nat.add_sub_cancel] at hR
          have hnb := val_bd8 (l := x % 64 :: r.take m) (Bytes.cons (by omega) (hbd.tail.take _)) (by rw [List.length_cons, List.length_take]; omega)
          clear hvb
          generalize val (x % 64 :: r.take m) = n at *
          have hsz := ref_size n hnb.1
          by_cases hs : size n = (m + 1 : Nat)
          · rw [if_pos hs] at hR
            have r1 := Lib.hid (congrArg Prod.fst hR)
            have r2 := Lib.hid (congrArg (fun x => x.2.1) hR)
            have r3 := Lib.hid (congrArg (fun x => x.2.2) hR)
            clear hR
            rw [hs] at hsz
            go_wp2_with (go_at_call 120; (with_reducible refine (hsz _).mono ?_); rintro e w' ⟨rfl, rfl⟩)
            all_goals go_ret3
            all_goals exact ⟨by rw [← r1.out, ← r2.out, ← r3.out]; simp, rfl⟩
          · rw [if_neg hs] at hR
            have r1 := Lib.hid (congrArg Prod.fst hR)
            have r2 := Lib.hid (congrArg (fun x => x.2.1) hR)
            have r3 := Lib.hid (congrArg (fun x => x.2.2) hR)
            clear hR
            have hs' : ¬ size n = (m : Int) + 1 := by omega
            go_wp2_with (go_at_call 120; (with_reducible refine (hsz _).mono ?_); rintro e w' ⟨rfl, rfl⟩)
            all_goals go_ret3
            all_goals exact ⟨by rw [← r1.out, ← r2.out, ← r3.out]; simp, rfl⟩
theorem ref_word_short (a : Option Addr) (len cap t : Nat) (s : Int) (w : World) (hs : s = t) (ht : t ≤ len) (hm : len ≤ 140737488355328) (h8 : len < t + 8) :
    Calls Tryz.prog 108 #[.slice a len cap, .int .i64 s] w fun e w' => e = .returned (.tuple #[.int .u64 0, .int .i64 (t : Int), .int .i64 2]) ∧ w = w' := by
  subst hs
  go_enter Tryz.func108, Tryz.ntmps108
  go_wp2
  all_goals go_ret3
  all_goals exact ⟨by simp, rfl⟩
theorem ref_word_at (a : Option Addr) (len cap t : Nat) (s : Int) (l : List Int) (w : World) (hl : l.length = len) (hs : s = t) (h8 : t + 8 ≤ len) (hm : len ≤ 140737488355328) (hb : Bytes l) (hI : Ints .u8 w a l) :
    Calls Tryz.prog 108 #[.slice a len cap, .int .i64 s] w fun e w' => e = .returned (.tuple #[.int .u64 (val ((l.drop t).take 8)), .int .i64 ((t : Int) + 8), .int .i64 0]) ∧ w = w' := by
  subst hs
  subst hl
  have hbd := hb.drop t
  have hld : (l.drop t).length = l.length - t := List.length_drop
  go_enter Tryz.func108, Tryz.ntmps108
  go_wp2
  go_loop [7, 8] (fun u i => ∃ m : Nat, m ≤ 8 ∧ i = .int .i64 m ∧ u = .int .u64 (val ((l.drop t).take m))) (fun _ i => 8 - (intOf i).toNat)
  case atStart => exact ⟨0, by omega, by go_num, by simp [val]⟩
  case round =>
    obtain ⟨m, hm1, rfl, rfl⟩ := hrel
    by_cases hmk : m < 8
    · obtain ⟨y, hy⟩ : ∃ y, (l.drop t)[m]? = some y := ⟨(l.drop t)[m]'(by omega), by simp⟩
      obtain ⟨g, off, rfl, hgl, hcy⟩ := Row.at_drop (t := t) (i := m) (y := y) hI hy
      obtain ⟨y0, y1⟩ := hbd y (List.mem_of_getElem? hy)
      have HT := Lib.hid (show val ((l.drop t).take (m + 1)) = val ((l.drop t).take m) * 256 + y by rw [List.take_add_one, hy, ← val_snoc]; rfl)
      obtain ⟨v0, v1⟩ := val_bd7 (hbd.take m) (by rw [List.length_take]; omega)
      have ho := or_byte v0 v1 y0 y1
      clear hbd hI hb
      generalize val ((l.drop t).take m) = v at *
      go_wp2
      all_goals go_round
      case rel => exact ⟨m + 1, by omega, by go_num, by rw [HT.out]⟩
      case measure => simp only [intOf]; omega
    · obtain rfl : m = 8 := by omega
      go_wp2
      all_goals go_ret3
      all_goals exact ⟨by simp, rfl⟩
end Go.Proofs.YtkiloaebokkjbaaGreat.Oct

/-
  Contracts of a reader's Num.
-/
set_option linter.unusedSimpArgs false
set_option linter.unusedVariables false
namespace Go.Proofs.YtkiloaebokkjbaaGreat.Oct
set_option linter.unusedVariables false
set_option maxRecDepth 20000
open Go.ChangeShapes Go.WideShapes Go.ChangeAt Go.RowKit
open Go.Proofs.YtkiloaebokkjbaaGreat.Base Go.Proofs.YtkiloaebokkjbaaGreat.OctPlain Go.Proofs.YtkiloaebokkjbaaGreat.Tab

theorem num_nil {S : Nat → Prop} {w : World} {b : Nat} (h : Rd S w b []) :
    Calls Tryz.prog 151 #[.pointer (some ⟨b, 0, none⟩)] w fun e w' => e = .returned (.tuple #[.int .u64 0, .int .i64 2]) ∧ w = w' := by
  obtain ⟨hS, a, cap, hB, hlc, hcm, h0, hR⟩ := h
  have c0 : w.cell? ⟨b, 0, none⟩ = some (.slice a 0 cap) := hB.cell 0
  go_enter Tryz.func151, Tryz.ntmps151
  go_wp2
  all_goals go_ret2
  all_goals exact ⟨rfl, rfl⟩
theorem num_short {S : Nat → Prop} {w : World} {b : Nat} {x : Int} {r : List Int} (h : Rd S w b (x :: r)) (hx : 0 ≤ x ∧ x ≤ 255) (hl : r.length + 1 < need x) :
    Calls Tryz.prog 151 #[.pointer (some ⟨b, 0, none⟩)] w fun e w' => e = .returned (.tuple #[.int .u64 0, .int .i64 2]) ∧ w = w' := by
  obtain ⟨hS, a, cap, hB, hlc, hcm, h0, hR⟩ := h
  have c0 : w.cell? ⟨b, 0, none⟩ = some (.slice a (r.length + 1) cap) := hB.cell 0
  obtain ⟨g, off, rfl, ⟨hg, hgb⟩, hgl, hc⟩ := hR 0 (.int .u8 x) rfl
  have cx : w.cell? ⟨g, off, none⟩ = some (.int .u8 x) := hc
  have hlen : r.length + 1 ≤ cap := hlc
  have hw := need_pow hx
  have nb := need_bd x
  generalize need x = k at hw nb hl
  obtain ⟨x0, x1⟩ := hx
  go_enter Tryz.func151, Tryz.ntmps151
  go_wp2
  all_goals go_ret2
  all_goals exact ⟨rfl, rfl⟩
set_option maxHeartbeats 1000000 in
theorem num_long {S : Nat → Prop} {w : World} {b : Nat} {x : Int} {r : List Int} (h : Rd S w b (x :: r)) (hb : Bytes (x :: r)) (hl : need x ≤ r.length + 1) (hr : r.length < 140737488355328) :
    Calls Tryz.prog 151 #[.pointer (some ⟨b, 0, none⟩)] w fun e w' => e = .returned (.tuple #[.int .u64 (num (x :: r)).1, .int .i64 (num (x :: r)).2.2]) ∧ Rd S w' b ((x :: r).drop (num (x :: r)).2.1) ∧ Fr (fun k => k = b) w w' := by
  have h' := h
  obtain ⟨hS, a, cap, hB, hlc, hcm, h0, hR⟩ := h
  have c0 : w.cell? ⟨b, 0, none⟩ = some (.slice a (r.length + 1) cap) := hB.cell 0
  have f0 := hB.free 0
  obtain ⟨g, off, rfl, ⟨hg, hgb⟩, hgl, hc⟩ := hR 0 (.int .u8 x) rfl
  have cx : w.cell? ⟨g, off, none⟩ = some (.int .u8 x) := hc
  have hlen : r.length + 1 ≤ cap := hlc
  have hw := need_pow hb.head
  have nb := need_bd x
  have hN : num (x :: r) = if size (val (x % 64 :: r.take (need x - 1))) = need x then (val (x % 64 :: r.take (need x - 1)), need x, 0) else (0, 0, 5) := by
    rw [num_cons, if_neg (by simp only [List.length_cons]; omega)]
  have hcut := val_cut hb.head (hb.tail.take (need x - 1))
  have hrl : (r.take (need x - 1)).length = need x - 1 := by rw [List.length_take]; omega
  rw [hrl] at hcut
  have hT : (x :: r).take (need x) = x :: r.take (need x - 1) := by
    obtain ⟨j, hj⟩ : ∃ j, need x = j + 1 := ⟨need x - 1, by omega⟩
    rw [hj]; rfl
  have hbT : Bytes (x :: r.take (need x - 1)) := Bytes.cons hb.head (hb.tail.take _)
  have hv := val_bd8 hbT (by rw [List.length_cons, hrl]; omega)
  have hm := and_mask hv.1 hv.2 nb.1 nb.2
  rw [← hcut] at hm
  have hI : Ints .u8 w (some ⟨g, off, none⟩) (x :: r.take (need x - 1)) := by
    rw [← hT]
    show Row w _ (((x :: r).take (need x)).map _)
    rw [List.map_take]
    exact hR.row.take _
  have hj := fun w1 hI => join_any (some ⟨g, off, none⟩) (need x) cap (x :: r.take (need x - 1)) w1 (by rw [List.length_cons, hrl]; omega) nb.2 hbT hI
  have hnb := val_bd8 (l := x % 64 :: r.take (need x - 1)) (Bytes.cons (by omega) (hb.tail.take _)) (by rw [List.length_cons, hrl]; omega)
  rw [hN]
  clear hN hcut hrl hT hbT hc hv
  generalize val (x :: r.take (need x - 1)) = v at *
  generalize val (x % 64 :: r.take (need x - 1)) = n at *
  generalize need x = k at *
  obtain ⟨x0, x1⟩ := hb.head
  have hsz := size_any n hnb.1
  have e1 : IntKind.i64.wrap (8 * (k : Int)) = 8 * (k : Int) := by rw [IntKind.wrap_i64]; omega
  have e2 : IntKind.i64.wrap (8 * (k : Int) - 2) = 8 * (k : Int) - 2 := by rw [IntKind.wrap_i64]; omega
  have e3 : Op.shift .shl .u64 1 .i64 (8 * (k : Int) - 2) = pure (.int .u64 (IntKind.u64.wrap (2 ^ (8 * k - 2)))) := by
    rw [← show (8 * (k : Int) - 2).toNat = 8 * k - 2 by omega, shift_shl _ _ _ _ (by omega) (by show _ ≤ ((64 : Nat) : Int); omega), Int.one_mul]
  by_cases hs : size n = k
  · rw [if_pos hs]
    rw [hs] at hsz
    go_enter Tryz.func151, Tryz.ntmps151
    go_wp2
    go_region_with (go_at_call 130; refine (hj _ hI.drew).mono ?_; rintro e w' ⟨rfl, rfl⟩)
    all_goals go_wp2_with (go_at_call 160; (with_reducible refine (hsz _).mono ?_); rintro e w' ⟨rfl, rfl⟩)
    all_goals go_ret2
    · have X := rd_step (l := x :: r) (a' := some ⟨g, off, none⟩) (cap' := 0) hS hB (Below.refl _ _) hlc hcm h0 hR hl (.inl ⟨by assumption, rfl, rfl⟩)
      exact ⟨rfl, X.1.drew, X.2.1.drew⟩
    · have X := rd_step (l := x :: r) (a' := Option.map (fun x : Addr => x.add k) (some ⟨g, off, none⟩)) (cap' := cap - k) hS hB (Below.refl _ _) hlc hcm h0 hR hl (.inr ⟨by assumption, rfl, rfl⟩)
      have e : Option.map (fun x : Addr => x.add k) (some (⟨g, off, none⟩ : Addr)) = some ⟨g, off + k, none⟩ := by simp [add_plain]
      rw [e] at X
      exact ⟨rfl, X.1.drew, X.2.1.drew⟩
  · rw [if_neg hs]
    go_enter Tryz.func151, Tryz.ntmps151
    go_wp2
    go_region_with (go_at_call 130; refine (hj _ hI.drew).mono ?_; rintro e w' ⟨rfl, rfl⟩)
    all_goals go_wp2_with (go_at_call 160; (with_reducible refine (hsz _).mono ?_); rintro e w' ⟨rfl, rfl⟩)
    all_goals go_ret2
    all_goals exact ⟨rfl, h'.drew, (Fr.refl _ _).drew⟩
theorem num_any {S : Nat → Prop} {w : World} {b : Nat} {l : List Int} (h : Rd S w b l) (hb : Bytes l) (hr : l.length ≤ 140737488355328) :
    Calls Tryz.prog 151 #[.pointer (some ⟨b, 0, none⟩)] w fun e w' => e = .returned (.tuple #[.int .u64 (num l).1, .int .i64 (num l).2.2]) ∧ Rd S w' b (l.drop (num l).2.1) ∧ Fr (fun k => k = b) w w' := by
  cases l with
  | nil => exact (num_nil h).mono fun e w' ⟨he, hw⟩ => by subst hw; exact ⟨he, h, Fr.refl _ _⟩
  | cons x r =>
    by_cases hl : need x ≤ r.length + 1
    · exact num_long h hb hl (by simp only [List.length_cons] at hr; omega)
    · have hN : num (x :: r) = (0, 0, 2) := by rw [num_cons, if_pos (by simp only [List.length_cons]; omega)]
      rw [hN]
      exact (num_short h hb.head (by omega)).mono fun e w' ⟨he, hw⟩ => by subst hw; exact ⟨he, h, Fr.refl _ _⟩
end Go.Proofs.YtkiloaebokkjbaaGreat.Oct
