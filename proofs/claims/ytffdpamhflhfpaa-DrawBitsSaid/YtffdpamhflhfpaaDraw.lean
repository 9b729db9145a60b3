/-
  Contracts of draw's functions, and of the reference's.
-/
import Derived.Test.YtffdpamhflhfpaaRows
import Derived.Test.YtffdpamhflhfpaaFr
import Derived.Test.YtffdpamhflhfpaaDrawPlain
import Derived.WalkKit
import Derived.ProofKit
import Derived.OpenShut
import Derived.WalkSpells
import Derived.Deep.RegionWith
namespace Go.Proofs.Ytffdpamhflhfpaa.Draw
set_option linter.unusedVariables false
open Go.ChangeShapes Go.WideShapes Go.ChangeAt Go.RowKit
open Go.Proofs.Ytffdpamhflhfpaa.Base Go.Proofs.Ytffdpamhflhfpaa.DrawPlain

theorem mix_any (k : Int) (w : World) :
    Calls Try.prog 10 #[.int .u64 k] w fun e w' => e = .returned (.int .u64 (mix k)) ∧ w = w' := by
  go_enter Try.func10, Try.ntmps10
  go_wp2
  go_ret
  exact ⟨rfl, rfl⟩
theorem ref_mix (k : Int) (w : World) :
    Calls Try.prog 11 #[.int .u64 k] w fun e w' => e = .returned (.int .u64 (mix k)) ∧ w = w' := by
  go_enter Try.func11, Try.ntmps11
  go_wp2
  go_ret
  exact ⟨rfl, rfl⟩

theorem shl_big {n : Int} (hn : 64 ≤ n) : Op.shift .shl .u64 1 .i64 n = pure (.int .u64 0) := by
  have hm : min n.toNat IntKind.u64.bits = 64 := by show min n.toNat 64 = 64; omega
  simp [Op.shift, hm, Int.not_lt.mpr (show 0 ≤ n by omega)]
  exact congrArg (fun x => pure (Value.int .u64 x)) (show IntKind.u64.wrap 18446744073709551616 = 0 by decide +kernel)
theorem low_any (x n : Int) (x0 : 0 ≤ x) (x1 : x ≤ 18446744073709551615) (n0 : -9223372036854775808 ≤ n) (n1 : n ≤ 9223372036854775807) (w : World) :
    Calls Try.prog 17 #[.int .u64 x, .int .i64 n] w fun e w' => e = .returned (.int .u64 (low x n)) ∧ w = w' := by
  by_cases h : n < 1
  · have H := Lib.hid (show low x n = 0 by unfold low; rw [if_pos h])
    go_enter Try.func17, Try.ntmps17
    go_wp2
    all_goals go_ret
    all_goals exact ⟨ret_u64 H.out.symm, rfl⟩
  · by_cases h2 : 63 < n
    · have H := Lib.hid (show low x n = x by unfold low; rw [if_neg h, if_pos h2])
      have H2 := Lib.hid (and_all x0 x1)
      have n2 : 64 ≤ n := by omega
      have n3 : 1 ≤ n := by omega
      have hs := shl_big n2
      clear h h2
      go_enter Try.func17, Try.ntmps17
      go_wp2
      all_goals go_ret
      all_goals exact ⟨ret_u64 (by rw [H.out]; exact H2.out), rfl⟩
    · have H := Lib.hid (show low x n = x % 2 ^ n.toNat by unfold low; rw [if_neg h, if_neg h2])
      have H2 := Lib.hid (and_low x0 x1 (show 1 ≤ n by omega) (show n ≤ 63 by omega))
      have n2 : n ≤ 63 := by omega
      have n3 : 1 ≤ n := by omega
      clear h h2
      go_enter Try.func17, Try.ntmps17
      go_wp2
      all_goals go_ret
      all_goals exact ⟨ret_u64 (by rw [H.out]; exact H2.out), rfl⟩
theorem ref_low (x n : Int) (x0 : 0 ≤ x) (x1 : x ≤ 18446744073709551615) (n0 : -9223372036854775808 ≤ n) (n1 : n ≤ 9223372036854775807) (w : World) :
    Calls Try.prog 18 #[.int .u64 x, .int .i64 n] w fun e w' => e = .returned (.int .u64 (low x n)) ∧ w = w' := by
  by_cases h : n < 1
  · have H := Lib.hid (show low x n = 0 by unfold low; rw [if_pos h])
    go_enter Try.func18, Try.ntmps18
    go_wp2
    all_goals go_ret
    all_goals exact ⟨ret_u64 H.out.symm, rfl⟩
  · by_cases h2 : 63 < n
    · have H := Lib.hid (show low x n = x by unfold low; rw [if_neg h, if_pos h2])
      have n2 : 64 ≤ n := by omega
      have n3 : 1 ≤ n := by omega
      clear h h2
      go_enter Try.func18, Try.ntmps18
      go_wp2
      all_goals go_ret
      all_goals exact ⟨ret_u64 H.out.symm, rfl⟩
    · have H := Lib.hid (show low x n = x % 2 ^ n.toNat by unfold low; rw [if_neg h, if_neg h2])
      have H2 := Lib.hid (and_low x0 x1 (show 1 ≤ n by omega) (show n ≤ 63 by omega))
      have n2 : n ≤ 63 := by omega
      have n3 : 1 ≤ n := by omega
      clear h h2
      go_enter Try.func18, Try.ntmps18
      go_wp2
      all_goals go_ret
      all_goals exact ⟨ret_u64 (by rw [H.out]; exact H2.out), rfl⟩
theorem coin_any (x : Int) (x0 : 0 ≤ x) (w : World) :
    Calls Try.prog 19 #[.int .u64 x] w fun e w' => e = .returned (.bool (coin x)) ∧ w = w' := by
  go_enter Try.func19, Try.ntmps19
  go_wp2
  go_ret
  exact ⟨rfl, rfl⟩
theorem ref_coin (x : Int) (x0 : 0 ≤ x) (w : World) :
    Calls Try.prog 20 #[.int .u64 x] w fun e w' => e = .returned (.bool (coin x)) ∧ w = w' := by
  go_enter Try.func20, Try.ntmps20
  go_wp2
  go_ret
  exact ⟨rfl, rfl⟩
theorem skips_any (x n : Int) (x0 : 0 ≤ x) (n0 : 0 ≤ n) (w : World) :
    Calls Try.prog 21 #[.int .u64 x, .int .u64 n] w fun e w' => e = .returned (.bool (skips x n)) ∧ w = w' := by
  by_cases h : 0 < n
  · have H := Lib.hid (show skips x n = (x % n == 0) by unfold skips; simp [h])
    go_enter Try.func21, Try.ntmps21
    go_wp2
    all_goals go_ret
    all_goals exact ⟨ret_bool H.out.symm, rfl⟩
  · have H := Lib.hid (show skips x n = false by unfold skips; simp [h])
    have h2 : n ≤ 0 := by omega
    clear h
    go_enter Try.func21, Try.ntmps21
    go_wp2
    all_goals go_ret
    all_goals exact ⟨ret_bool H.out.symm, rfl⟩
theorem ref_skips (x n : Int) (x0 : 0 ≤ x) (n0 : 0 ≤ n) (w : World) :
    Calls Try.prog 22 #[.int .u64 x, .int .u64 n] w fun e w' => e = .returned (.bool (skips x n)) ∧ w = w' := by
  by_cases h : 0 < n
  · have H := Lib.hid (show skips x n = (x % n == 0) by unfold skips; simp [h])
    go_enter Try.func22, Try.ntmps22
    go_wp2
    all_goals go_ret
    all_goals exact ⟨ret_bool H.out.symm, rfl⟩
  · have H := Lib.hid (show skips x n = false by unfold skips; simp [h])
    have h2 : n ≤ 0 := by omega
    clear h
    go_enter Try.func22, Try.ntmps22
    go_wp2
    all_goals go_ret
    all_goals exact ⟨ret_bool H.out.symm, rfl⟩

/-- The source at block b has yet to return the words zs, then mixes, and has returned t words. -/
def Src (S : Nat → Prop) (w : World) (b : Nat) (zs : List Int) (t : Nat) : Prop :=
  S b ∧ ∃ a cap, Blk w b #[.slice a zs.length cap, .int .i64 t] 43 ∧ zs.length ≤ cap ∧ cap ≤ maxLen ∧ (a = none → zs.length = 0 ∧ cap = 0) ∧ RowIn (fun k => S k ∧ k ≠ b) w a (zs.map (.int .u64))
theorem Src.kept {S T : Nat → Prop} {w w' : World} {b : Nat} {zs : List Int} {t : Nat} (h : Src S w b zs t) (hf : Fr T w w') (hn : ∀ k, S k → ¬ T k) : Src S w' b zs t := by
  obtain ⟨hS, a, cap, h1, h2, h3, h0, h4⟩ := h
  exact ⟨hS, a, cap, h1.kept hf (hn b hS), h2, h3, h0, h4.kept hf fun k hk => hn k hk.1⟩
theorem Src.drew {S : Nat → Prop} {w : World} {b : Nat} {zs : List Int} {t : Nat} (h : Src S w b zs t) : Src S w.drew b zs t := h
theorem Src.below {S : Nat → Prop} {B : Nat} {w w' : World} {b : Nat} {zs : List Int} {t : Nat} (h : Src S w b zs t) (hf : Below B w w') (hn : ∀ k, S k → k < B) : Src S w' b zs t := by
  obtain ⟨hS, a, cap, h1, h2, h3, h0, h4⟩ := h
  exact ⟨hS, a, cap, h1.below hf (hn b hS), h2, h3, h0, h4.below hf fun k hk => hn k hk.1⟩
theorem next_any {S : Nat → Prop} {w : World} {b : Nat} {zs : List Int} {t : Nat} (h : Src S w b zs t) (ht : t < 4611686018427387904) :
    Calls Try.prog 13 #[.pointer (some ⟨b, 0, none⟩)] w fun e w' => e = .returned (.int .u64 (zs.headD (mix t))) ∧ Src S w' b zs.tail (t + 1) ∧ Fr (fun k => k = b) w w' := by
  obtain ⟨hS, a, cap, hB, hlc, hcm, h0', hrow⟩ := h
  unfold maxLen at hcm
  have c1 : w.cell? ⟨b, 1, none⟩ = some (.int .i64 t) := hB.cell 1
  have f1 := hB.free 1
  cases zs with
  | nil =>
    have c0 : w.cell? ⟨b, 0, none⟩ = some (.slice a 0 cap) := hB.cell 0
    go_enter Try.func13, Try.ntmps13
    go_wp2_with (go_at_call 10; refine (mix_any t _).mono ?_; rintro e w' ⟨rfl, rfl⟩)
    all_goals go_ret
    all_goals exact ⟨rfl, ⟨hS, a, cap, hB.set 1 _, hlc, hcm, h0', RowIn.nil _ _ _⟩, Fr.setCell (S := fun k => k = b) (Fr.refl _ _) (p := ⟨b, 1, none⟩) (fun _ => rfl) _⟩
  | cons x r =>
    have c0 : w.cell? ⟨b, 0, none⟩ = some (.slice a (r.length + 1) cap) := hB.cell 0
    have f0 := hB.free 0
    obtain ⟨g, off, rfl, ⟨hg, hgb⟩, hgl, hx⟩ := hrow 0 (.int .u64 x) rfl
    have cx : w.cell? ⟨g, off, none⟩ = some (.int .u64 x) := hx
    have hlen : r.length + 1 ≤ cap := hlc
    have hT := hrow.tail
    clear hrow hx
    by_cases hc : cap = 1
    · obtain rfl : r = [] := List.eq_nil_of_length_eq_zero (by omega)
      go_enter Try.func13, Try.ntmps13
      go_wp2
      all_goals go_ret
      all_goals exact ⟨rfl, ⟨hS, _, _, (hB.set 1 _).set 0 _, Nat.le_refl _, Nat.zero_le _, (fun e => by cases e), RowIn.nil _ _ _⟩, Fr.setCell (S := fun k => k = b) (Fr.setCell (S := fun k => k = b) (Fr.refl _ _) (p := ⟨b, 1, none⟩) (fun _ => rfl) _) (p := ⟨b, 0, none⟩) (fun _ => rfl) _⟩
    · go_enter Try.func13, Try.ntmps13
      go_wp2
      all_goals go_ret
      have F : Fr (fun k => k = b) w ((w.setCell ⟨b, 1, none⟩ (.int .i64 (↑t + 1))).setCell ⟨b, 0, none⟩ (.slice (some ⟨g, off + 1, none⟩) r.length (cap - 1))) := Fr.setCell (S := fun k => k = b) (Fr.setCell (S := fun k => k = b) (Fr.refl _ _) (p := ⟨b, 1, none⟩) (fun _ => rfl) _) (p := ⟨b, 0, none⟩) (fun _ => rfl) _
      exact ⟨rfl, ⟨hS, _, _, (hB.set 1 _).set 0 _, by simp; omega, by unfold maxLen; omega, (fun e => by cases e), hT.kept F fun k hk => hk.2⟩, F⟩
/-- The word number j of a source of the words zs. -/
def word (zs : List Int) (j : Nat) : Int := (zs.drop j).headD (mix j)
theorem next_word {S : Nat → Prop} {w : World} {b : Nat} {zs : List Int} {j : Nat} (h : Src S w b (zs.drop j) j) (ht : j < 4611686018427387904) :
    Calls Try.prog 13 #[.pointer (some ⟨b, 0, none⟩)] w fun e w' => e = .returned (.int .u64 (word zs j)) ∧ Src S w' b (zs.drop (j + 1)) (j + 1) ∧ Fr (fun k => k = b) w w' := by
  have := next_any h ht
  rw [List.tail_drop] at this
  exact this
def words (zs : List Int) (M k : Nat) : List Value := (List.range k).map fun j => .int .u64 (word zs (M + j))
theorem words_succ (zs : List Int) (M k : Nat) : words zs M (k + 1) = words zs M k ++ [.int .u64 (word zs (M + k))] := by simp [words, List.range_succ]
theorem words_get (zs : List Int) (M : Nat) {k j : Nat} (h : j < k) : (words zs M k)[j]? = some (.int .u64 (word zs (M + j))) := by simp [words, h]
theorem taken_any {S : Nat → Prop} {w : World} {b : Nat} {zs : List Int} {t : Nat} (h : Src S w b zs t) :
    Calls Try.prog 15 #[.pointer (some ⟨b, 0, none⟩)] w fun e w' => e = .returned (.int .i64 t) ∧ w = w' := by
  obtain ⟨hS, a, cap, hB, hlc, hcm, h0', hrow⟩ := h
  have c1 : w.cell? ⟨b, 1, none⟩ = some (.int .i64 t) := hB.cell 1
  go_enter Try.func15, Try.ntmps15
  go_wp2
  all_goals go_ret
  all_goals exact ⟨rfl, rfl⟩
theorem info : (Try.prog.info? 22).map (fun i => (i.zero, i.size, i.bytes)) = some (some (.int .u64 0), 1, 8) := by kernel_rfl
theorem clone_any (a : Option Addr) (n cap : Nat) (zs : List Int) (w : World) (hn : zs.length = n) (hc : n ≤ cap) (hr : n * 8 ≤ 140737488355328) (h0 : a = none → n = 0 ∧ cap = 0) (hz : Ints .u64 w a zs) :
    Calls Try.prog 23 #[.slice a n cap] w fun e w' => ∃ a' cap', e = .returned (.slice a' n cap') ∧ n ≤ cap' ∧ cap' ≤ maxLen ∧ (a' = none → n = 0 ∧ cap' = 0) ∧ RowIn (fun k => w.heap.size ≤ k) w' a' (zs.map (.int .u64)) ∧ Below w.heap.size w w' := by
  obtain ⟨i0, hi0, hz0, hz1, hz2⟩ := info_parts info
  have qT : ∀ (w : World) (a : Option Addr) (n c : Nat), (binOp .eql 27 (.slice a n c) (.slice none 0 0)).run Try.prog w = .ok (.bool a.isNone) w := fun w a n c => Lib.run_eql_slice_nil w _ _ a n c 0 0 Try.underlying27
  cases a with
  | none =>
    obtain ⟨rfl, rfl⟩ := h0 rfl
    obtain rfl : zs = [] := List.eq_nil_of_length_eq_zero hn
    go_enter Try.func23, Try.ntmps23
    go_wp2
    all_goals go_ret
    all_goals exact ⟨none, 0, rfl, Nat.zero_le _, fun _ => rfl, RowIn.nil _ _ _, Below.refl _ _⟩
  | some ad =>
    subst hn
    have hM : zs.length ≤ maxLen := by unfold maxLen; omega
    go_enter Try.func23, Try.ntmps23
    go_wp2_with (at_builtin; refine wpl_append_row _ rfl (.tmp 5) (.tmp 6) _ rfl w.heap.size 22 i0 _ 1 8 Try.underlying27 hi0 hz0 hz1 hz2 rfl (by omega) (.slice (some ⟨w.heap.size, 0, none⟩) 0 0) 0 [] rfl (World.ownsRow_lit w #[] 0 (Nat.le_refl _) (Nat.zero_le _) rfl) (some ad) zs.length cap (zs.map (Value.int .u64)) rfl (by simp) (Row.alloc hz _) (ints_oneCell _ _) (by omega) (by omega) (by simp) ?_; intro v1 w1 hown1 hg1 hat1; have hb1 : Below w.heap.size w w1 := ((Below.refl _ _).alloc (Nat.le_refl _) _).grown hg1 (by simp) (by simp [Value.ownBlock]); obtain ⟨a1, cap1, rfl, hn1, hc1, hz1', R1⟩ := rowIn_of_own Nat.one_pos hown1)
    all_goals go_ret
    all_goals exact ⟨a1, cap1, by simp, by omega, hc1, by simpa using hz1', by simpa using R1, hb1⟩
theorem src_new {w w1 : World} {zs : List Int} {a1 : Option Addr} {cap1 t : Nat} (hb1 : Below w.heap.size w w1) (hn1 : zs.length ≤ cap1) (hc1 : cap1 ≤ maxLen) (hz1 : a1 = none → zs.length = 0 ∧ cap1 = 0) (R1 : RowIn (fun k => w.heap.size ≤ k) w1 a1 (zs.map (.int .u64))) :
    ∃ b, Ending.returned (Value.pointer (some ⟨w1.heap.size, 0, none⟩)) = .returned (.pointer (some ⟨b, 0, none⟩)) ∧
      Src (fun k => w.heap.size ≤ k ∧ k < (w1.alloc (.cells #[.slice a1 zs.length cap1, .int .i64 t] 43)).heap.size) (w1.alloc (.cells #[.slice a1 zs.length cap1, .int .i64 t] 43)) b zs t ∧
      Below w.heap.size w (w1.alloc (.cells #[.slice a1 zs.length cap1, .int .i64 t] 43)) := by
  have hsz := World.size_alloc (w := w1) (o := .cells #[.slice a1 zs.length cap1, .int .i64 t] 43)
  refine ⟨w1.heap.size, rfl, ⟨⟨hb1.size, by rw [hsz]; omega⟩, a1, cap1, Blk.new _ _ _, hn1, hc1, hz1, ?_⟩, hb1.alloc hb1.size _⟩
  exact (R1.alloc _).mono fun k _ hk => ⟨⟨hk.1, by rw [hsz]; omega⟩, by omega⟩
theorem new_any (a : Option Addr) (n cap : Nat) (zs : List Int) (w : World) (hn : zs.length = n) (hc : n ≤ cap) (hr : n * 8 ≤ 140737488355328) (h0 : a = none → n = 0 ∧ cap = 0) (hz : Ints .u64 w a zs) :
    Calls Try.prog 12 #[.slice a n cap] w fun e w' => ∃ b, e = .returned (.pointer (some ⟨b, 0, none⟩)) ∧ Src (fun k => w.heap.size ≤ k ∧ k < w'.heap.size) w' b zs 0 ∧ Below w.heap.size w w' := by
  go_enter Try.func12, Try.ntmps12
  go_wp2_with (go_at_call 23; refine (clone_any a n cap zs w hn hc hr h0 hz).mono ?_; rintro e w1 ⟨a1, cap1, rfl, hn1, hc1, hz1, R1, hb1⟩)
  all_goals go_ret
  subst hn
  have X := src_new (t := 0) hb1 hn1 hc1 hz1 R1
  rw [show ((0 : Nat) : Int) = 0 from rfl] at X
  exact X
set_option maxHeartbeats 1000000 in
theorem fork_any {S : Nat → Prop} {w : World} {b : Nat} {zs : List Int} {t : Nat} (h : Src S w b zs t) (hr : zs.length * 8 ≤ 140737488355328) :
    Calls Try.prog 16 #[.pointer (some ⟨b, 0, none⟩)] w fun e w' => ∃ b', e = .returned (.pointer (some ⟨b', 0, none⟩)) ∧ Src (fun k => w.heap.size ≤ k ∧ k < w'.heap.size) w' b' zs t ∧ Below w.heap.size w w' := by
  obtain ⟨hS, a, cap, hB, hlc, hcm, h0', hrow⟩ := h
  have c0 : w.cell? ⟨b, 0, none⟩ = some (.slice a zs.length cap) := hB.cell 0
  have c1 : w.cell? ⟨b, 1, none⟩ = some (.int .i64 t) := hB.cell 1
  have hz : Ints .u64 w a zs := hrow.row
  go_enter Try.func16, Try.ntmps16
  go_wp2
  go_region_with (go_at_call 23; refine (clone_any a zs.length cap zs w.drew rfl hlc hr h0' hz).mono ?_; rintro e w1 ⟨a1, cap1, rfl, hn1, hc1, hz1, R1, hb1⟩; have c2 : w1.cell? ⟨b, 1, none⟩ = some (.int .i64 t) := (hb1.cell (p := ⟨b, 1, none⟩) hB.lt).trans c1)
  all_goals go_wp2
  all_goals go_ret
  all_goals exact src_new (w := w) ⟨hb1.os, hb1.tape, hb1.output, hb1.size, hb1.block⟩ hn1 hc1 hz1 R1
/-- The reference's source at block b of the words zs has returned t words. -/
def Ref (w : World) (b : Nat) (a : Option Addr) (cap : Nat) (zs : List Int) (t : Nat) : Prop :=
  Blk w b #[.slice a zs.length cap, .int .i64 t] 31 ∧ Ints .u64 w a zs ∧ zs.length ≤ maxLen
theorem ref_next {w : World} {b : Nat} {a : Option Addr} {cap : Nat} {zs : List Int} {t : Nat} (hB : Blk w b #[.slice a zs.length cap, .int .i64 t] 31) (ht : t < 4611686018427387904) (hm : zs.length ≤ maxLen)
    (hrow : RowIn (fun k => k ≠ b) w a (zs.map (.int .u64))) :
    Calls Try.prog 14 #[.pointer (some ⟨b, 0, none⟩)] w fun e w' => e = .returned (.int .u64 ((zs.drop t).headD (mix t))) ∧ Blk w' b #[.slice a zs.length cap, .int .i64 (t + 1 : Nat)] 31 ∧ Fr (fun k => k = b) w w' := by
  unfold maxLen at hm
  have c0 : w.cell? ⟨b, 0, none⟩ = some (.slice a zs.length cap) := hB.cell 0
  have c1 : w.cell? ⟨b, 1, none⟩ = some (.int .i64 t) := hB.cell 1
  have f1 := hB.free 1
  have F : ∀ v, Fr (fun k => k = b) w (w.setCell ⟨b, 1, none⟩ v) := fun v => Fr.setCell (S := fun k => k = b) (Fr.refl _ _) (p := ⟨b, 1, none⟩) (fun _ => rfl) _
  by_cases h : t < zs.length
  · obtain ⟨x, hx⟩ : ∃ x, zs[t]? = some x := ⟨zs[t], by simp [h]⟩
    have H := Lib.hid (show (zs.drop t).headD (mix t) = x by rw [List.headD_eq_head?_getD, List.head?_drop, hx]; rfl)
    obtain ⟨g, off, rfl, hgb, hgl, hcx⟩ := hrow t (.int .u64 x) (by simp [hx])
    clear hx hrow
    go_enter Try.func14, Try.ntmps14
    go_wp2
    all_goals go_ret
    all_goals exact ⟨ret_u64 H.out.symm, hB.set 1 _, F _⟩
  · have H := Lib.hid (show (zs.drop t).headD (mix t) = mix t by rw [List.drop_eq_nil_of_le (by omega)]; rfl)
    clear hrow
    have h' : zs.length ≤ t := by omega
    clear h
    go_enter Try.func14, Try.ntmps14
    go_wp2_with (go_at_call 11; refine (ref_mix t _).mono ?_; rintro e w' ⟨rfl, rfl⟩)
    all_goals go_ret
    all_goals exact ⟨ret_u64 H.out.symm, hB.set 1 _, F _⟩
theorem next_zero {S : Nat → Prop} {w : World} {b : Nat} (h : Src S w b [] 0) :
    Calls Try.prog 13 #[.pointer (some ⟨b, 0, none⟩)] w fun e w' => e = .returned (.int .u64 16294208416658607535) ∧ Src S w' b [] 1 ∧ Fr (fun k => k = b) w w' := by
  refine (next_any h (by decide)).mono ?_
  rintro e w' ⟨rfl, hs, hf⟩
  exact ⟨ret_u64 ex_mix, hs, hf⟩
theorem taken_one {S : Nat → Prop} {w : World} {b : Nat} (h : Src S w b [] 1) :
    Calls Try.prog 15 #[.pointer (some ⟨b, 0, none⟩)] w fun e w' => e = .returned (.int .i64 1) ∧ w = w' := taken_any h
theorem alive_draw (w : World) :
    Calls Try.prog 9 #[] w fun e w' => e = .returned (.bool true) ∧ Below w.heap.size w w' := by
  have c3 := skips_any 6 3 (by decide) (by decide)
  have c4 := skips_any 6 0 (by decide) (by decide)
  have c5 := low_any 255 4 (by decide) (by decide) (by decide) (by decide)
  have c6 := coin_any 9223372036854775808 (by decide)
  rw [ex_skips] at c3
  rw [ex_skips0] at c4
  rw [ex_low] at c5
  rw [ex_coin] at c6
  go_enter Try.func9, Try.ntmps9
  go_wp2_with (first
    | (go_at_call 12; refine (new_any none 0 0 [] w rfl (Nat.le_refl _) (by decide) (fun _ => ⟨rfl, rfl⟩) (.nil _ _ _)).mono ?_; rintro e w1 ⟨b, rfl, hs1, hb1⟩)
    | (go_at_call 13; refine (next_zero hs1).mono ?_; rintro e w2 ⟨rfl, hs2, hf2⟩)
    | (go_at_call 15; refine (taken_one hs2).mono ?_; rintro e w' ⟨rfl, rfl⟩)
    | ((with_reducible refine (c3 _).mono ?_); rintro e w' ⟨rfl, rfl⟩)
    | ((with_reducible refine (c4 _).mono ?_); rintro e w' ⟨rfl, rfl⟩)
    | ((with_reducible refine (c5 _).mono ?_); rintro e w' ⟨rfl, rfl⟩)
    | ((with_reducible refine (c6 _).mono ?_); rintro e w' ⟨rfl, rfl⟩))
  all_goals go_ret
  all_goals exact ⟨rfl, hf2.below hb1 hb1.size (by rintro k rfl; exact hs1.1.1)⟩
end Go.Proofs.Ytffdpamhflhfpaa.Draw
