/-
  Contracts of head.Mark, Coin, Ecn and of the reference's SameData, MarkData.
-/
import Derived.Test.YtbdafmomjboaaaaDoorHead4
import Derived.Lib.SmallJoins
namespace Go.Proofs.YtbdafmomjboaaaaDoor.Head
set_option linter.unusedVariables false
open Go.ChangeShapes Go.WideShapes Go.ChangeAt Go.RowKit
open Go.Proofs.YtbdafmomjboaaaaDoor.Base Go.Proofs.YtbdafmomjboaaaaDoor.OctPlain Go.Proofs.YtbdafmomjboaaaaDoor.Tab Go.Proofs.YtbdafmomjboaaaaDoor.Oct Go.Proofs.YtbdafmomjboaaaaDoor.HeadPlain

theorem blk6 {w : World} {b : Nat} {v0 v1 v2 v3 v4 v5 : Value} {T : TypeId} (h : Blk w b #[v0, v1, v2, v3, v4, v5] T) :
    w.cell? ⟨b, 0, none⟩ = some v0 ∧ w.cell? ⟨b, 1, none⟩ = some v1 ∧ w.cell? ⟨b, 2, none⟩ = some v2 ∧ w.cell? ⟨b, 3, none⟩ = some v3 ∧ w.cell? ⟨b, 4, none⟩ = some v4 ∧ w.cell? ⟨b, 5, none⟩ = some v5 :=
  ⟨h.cell 0, h.cell 1, h.cell 2, h.cell 3, h.cell 4, h.cell 5⟩
theorem decode_got (a : Option Addr) (n cap : Nat) (l : List Int) (w : World) (hn : l.length = n) (hc : n ≤ cap) (hr : n ≤ 140737488355328) (h0 : a = none → n = 0 ∧ cap = 0) (hb : Bytes l) (hz : Ints .u8 w a l) :
    Calls Tryd.prog 14 #[.slice a n cap] w (GotPost w l) := decode_any a n cap l w hn hc hr h0 hb hz
theorem same_any (d : D) (a1 a2 : Option Addr) (n1 c1 n2 c2 : Nat) (w : World) (hn1 : d.body.length = n1) (hn2 : d.body.length = n2) (h1 : Ints .u8 w a1 d.body) (h2 : Ints .u8 w a2 d.body) :
    Calls Tryd.prog 16 #[.agg #[.int .u64 d.pn, .int .u64 d.least, .int .u64 d.off, .int .u64 d.nonce, .int .i64 d.ecn, .slice a1 n1 c1], .agg #[.int .u64 d.pn, .int .u64 d.least, .int .u64 d.off, .int .u64 d.nonce, .int .i64 d.ecn, .slice a2 n2 c2]] w fun e w' => e = .returned (.bool true) ∧ Below w.heap.size w w' := by
  have s1 := fun o1 o2 => str_of ((w.alloc o1).alloc o2) a1 n1 c1 d.body hn1 (Row.alloc (Row.alloc h1 _) _)
  have s2 := fun o1 o2 => str_of ((w.alloc o1).alloc o2) a2 n2 c2 d.body hn2 (Row.alloc (Row.alloc h2 _) _)
  clear hn1 hn2
  go_enter Tryd.func16, Tryd.ntmps16
  go_wp2
  all_goals go_ret
  all_goals exact ⟨by simp, ((Below.refl _ _).alloc (Nat.le_refl _) _).alloc (by simp) _⟩
theorem coin_any (e : Int) (w : World) :
    Calls Tryd.prog 20 #[.int .i64 e] w fun x w' => x = .returned (.tuple #[.bool (decide (e = 1)), .bool (decide (e = 1) || decide (e = 2))]) ∧ w = w' := by
  by_cases h1 : e = 1
  · subst h1
    go_enter Tryd.func20, Tryd.ntmps20
    go_wp2
    all_goals go_ret2
    all_goals exact ⟨rfl, rfl⟩
  · by_cases h2 : e = 2
    · subst h2
      go_enter Tryd.func20, Tryd.ntmps20
      go_wp2
      all_goals go_ret2
      all_goals exact ⟨rfl, rfl⟩
    · rw [decide_eq_false h1, decide_eq_false h2]
      go_enter Tryd.func20, Tryd.ntmps20
      go_wp2
      all_goals go_ret2
      all_goals exact ⟨rfl, rfl⟩
theorem ecn_any (c : Bool) (w : World) :
    Calls Tryd.prog 21 #[.bool c] w fun x w' => x = .returned (.int .i64 (if c then 1 else 2)) ∧ w = w' := by
  cases c
  all_goals go_enter Tryd.func21, Tryd.ntmps21
  all_goals go_wp2
  all_goals go_ret
  all_goals exact ⟨rfl, rfl⟩
/-- A packet with its coin taken. -/
def marked (d : D) : D := ⟨d.pn, d.least, d.off, d.nonce, 3, d.body⟩
theorem may_marked {d : D} (h : may d = true) : may (marked d) = true := by
  obtain ⟨m1, m2, m3, m4, m5, m6, m7⟩ := may_iff.1 h
  exact may_iff.2 ⟨m1, m2, by show (1 : Int) ≤ 3; decide, by show (3 : Int) ≤ 3; decide, m5, m6, m7⟩
theorem fit_marked {d : D} (h : Fit d) : Fit (marked d) := h
/-- The bytes of a marked packet, nothing of bytes that are none. -/
def markL (l : List Int) : List Int := if (getData l).2 = 0 then putData (marked (getData l).1) else []
/-- What a mark comes to. -/
def MarkPost (w : World) (l : List Int) : Ending → World → Prop := fun e w' => ∃ a c, e = .returned (.tuple #[.slice a (markL l).length c, .bool (decide ((getData l).2 = 0))]) ∧ (markL l).length ≤ c ∧ c ≤ maxLen ∧ (a = none → (markL l).length = 0 ∧ c = 0) ∧
      RowIn (fun k => w.heap.size ≤ k) w' a ((markL l).map (.int .u8)) ∧ Below w.heap.size w w'
theorem mark_any (a : Option Addr) (n cap : Nat) (l : List Int) (w : World) (hn : l.length = n) (hc : n ≤ cap) (hr : n ≤ 140737488355328) (h0 : a = none → n = 0 ∧ cap = 0) (hb : Bytes l) (hz : Ints .u8 w a l) (hT : Tab w) :
    Calls Tryd.prog 18 #[.slice a n cap] w (MarkPost w l) := by
  have hD := decode_got a n cap l w hn hc hr h0 hb hz
  by_cases hg : (getData l).2 = 0
  · obtain ⟨d, hd⟩ : ∃ d, getData l = (d, 0) := ⟨(getData l).1, by rw [← hg]⟩
    obtain ⟨_, hm, hf⟩ := get_one hb hd
    have hM : markL l = putData (marked d) := by unfold markL; rw [hd]; rfl
    unfold GotPost at hD
    unfold MarkPost
    rw [hM, hd, decide_eq_true rfl]
    rw [hd] at hD
    dsimp only at hD
    have hE := fun a1 m c w1 hn hr hT => encode_any (marked d) a1 m c w1 hn (may_marked hm) (fit_marked hf) hr hT
    clear hM hd hg
    go_enter Tryd.func18, Tryd.ntmps18
    go_wp2_with (first
      | (go_at_call 14; refine hD.mono ?_; rintro e w1 ⟨a1, m, c, rfl, h1, h2, h3, h4, R, L⟩)
      | (go_at_call 10; refine (hE a1 m c _ h1 (Row.alloc R.row _) ((hT.below L).alloc _)).mono ?_; rintro e w2 ⟨a2, c2, rfl, k1, k2, k3, R2, L2⟩))
    all_goals go_ret2
    have hs := L.size
    exact ⟨a2, c2, rfl, k1, k2, k3, R2.mono (fun k _ hk => by simp only [World.size_alloc] at hk; omega), Base.next L (Base.next ((Below.refl _ _).alloc (Nat.le_refl _) _) L2)⟩
  · have hM : markL l = [] := if_neg hg
    obtain ⟨d, x, hd⟩ : ∃ d x, getData l = (d, x) := ⟨_, _, rfl⟩
    rw [hd] at hg
    dsimp only at hg
    unfold GotPost at hD
    unfold MarkPost
    rw [hd] at hD
    dsimp only at hD
    have X : Calls Tryd.prog 18 #[.slice a n cap] w fun e w' => e = .returned (.tuple #[.slice none 0 0, .bool false]) ∧ Below w.heap.size w w' := by
      clear hM hd
      go_enter Tryd.func18, Tryd.ntmps18
      go_wp2_with (go_at_call 14; refine hD.mono ?_; rintro e w1 ⟨a1, m, c, rfl, h1, h2, h3, h4, R, L⟩)
      all_goals go_ret2
      all_goals exact ⟨rfl, L.alloc L.size _⟩
    refine X.mono fun e w' ⟨he, hL⟩ => ?_
    rw [hM, hd, decide_eq_false hg]
    exact ⟨none, 0, he, Nat.le_refl _, Nat.zero_le _, (fun _ => ⟨rfl, rfl⟩), RowIn.nil _ _ _, hL⟩
theorem ref_mark (a : Option Addr) (n cap : Nat) (l : List Int) (w : World) (hn : l.length = n) (hc : n ≤ cap) (hcm : cap ≤ maxLen) (hr : n ≤ 140737488355328) (hb : Bytes l) (hz : Ints .u8 w a l) :
    Calls Tryd.prog 19 #[.slice a n cap] w (MarkPost w l) := by
  have hD := ref_get a n cap l w hn hc hcm hr hb hz
  by_cases hg : (getData l).2 = 0
  · obtain ⟨d, hd⟩ : ∃ d, getData l = (d, 0) := ⟨(getData l).1, by rw [← hg]⟩
    obtain ⟨_, hm, hf⟩ := get_one hb hd
    have hM : markL l = putData (marked d) := by unfold markL; rw [hd]; rfl
    unfold GotPost at hD
    unfold MarkPost
    rw [hM, hd, decide_eq_true rfl]
    rw [hd] at hD
    dsimp only at hD
    have hE := fun a1 m c w1 hn hr => ref_put_data (marked d) a1 m c w1 hn (may_marked hm) (fit_marked hf) hr
    clear hM hd hg
    go_enter Tryd.func19, Tryd.ntmps19
    go_wp2_with (first
      | (go_at_call 15; refine hD.mono ?_; rintro e w1 ⟨a1, m, c, rfl, h1, h2, h3, h4, R, L⟩)
      | (go_at_call 13; refine (hE a1 m c _ h1 (Row.alloc R.row _)).mono ?_; rintro e w2 ⟨a2, c2, rfl, k1, k2, k3, R2, L2⟩))
    all_goals go_ret2
    have hs := L.size
    exact ⟨a2, c2, rfl, k1, k2, k3, R2.mono (fun k _ hk => by simp only [World.size_alloc] at hk; omega), Base.next L (Base.next ((Below.refl _ _).alloc (Nat.le_refl _) _) L2)⟩
  · have hM : markL l = [] := if_neg hg
    obtain ⟨d, x, hd⟩ : ∃ d x, getData l = (d, x) := ⟨_, _, rfl⟩
    rw [hd] at hg
    dsimp only at hg
    unfold GotPost at hD
    unfold MarkPost
    rw [hd] at hD
    dsimp only at hD
    have X : Calls Tryd.prog 19 #[.slice a n cap] w fun e w' => e = .returned (.tuple #[.slice none 0 0, .bool false]) ∧ Below w.heap.size w w' := by
      clear hM hd
      go_enter Tryd.func19, Tryd.ntmps19
      go_wp2_with (go_at_call 15; refine hD.mono ?_; rintro e w1 ⟨a1, m, c, rfl, h1, h2, h3, h4, R, L⟩)
      all_goals go_ret2
      all_goals exact ⟨rfl, L.alloc L.size _⟩
    refine X.mono fun e w' ⟨he, hL⟩ => ?_
    rw [hM, hd, decide_eq_false hg]
    exact ⟨none, 0, he, Nat.le_refl _, Nat.zero_le _, (fun _ => ⟨rfl, rfl⟩), RowIn.nil _ _ _, hL⟩
theorem ex_put : putData ⟨1, 0, 0, 0, 2, [120]⟩ = [1, 2, 1, 0, 0, 0, 0, 0, 0, 0, 0, 0, 0, 1, 120] := by decide +kernel
theorem ex_may : may ⟨1, 0, 0, 0, 2, [120]⟩ = true := by decide +kernel
theorem ex_two : getData [2] = (zero, 4) := by
  show (if (2 : Int) ≠ 1 then (zero, (4 : Int)) else (zero, 2)) = _
  rw [if_pos (by decide)]
theorem lit_at {w : World} {g : Nat} (T : TypeId) (xs : List Value) (hg : g = w.heap.size) : Row (w.alloc (.cells xs.toArray T)) (some ⟨g, 0, none⟩) xs := by subst hg; exact Row.lit w T xs
theorem lit_mark {w : World} {g : Nat} (T : TypeId) (fr : Nat × Nat) (xs : List Value) (hg : g = w.heap.size) : Row (w.alloc (.cells xs.toArray T fr)) (some ⟨g, 0, none⟩) xs := fun j u hj => by
  subst hg
  exact ⟨w.heap.size, 0, rfl, by simp, by rw [Nat.zero_add, World.cell?_alloc_mark w xs.toArray T fr j]; simpa using hj⟩
theorem alive_none (w : World) : Calls Tryd.prog 14 #[.slice none 0 0] w fun e w' => ∃ a c, e = .returned (.tuple #[.agg #[.int .u64 0, .int .u64 0, .int .u64 0, .int .u64 0, .int .i64 0, .slice a 0 c], .int .i64 2]) ∧ Below w.heap.size w w' := by
  refine (decode_got none 0 0 [] w rfl (Nat.le_refl _) (by decide) (fun _ => ⟨rfl, rfl⟩) Bytes.nil (.nil _ _ _)).mono ?_
  rintro e w1 ⟨a1, m1, c1, rfl, h1, h2, h3, h4, R1, L1⟩
  exact ⟨a1, c1, by rw [← show 0 = m1 from h1]; rfl, L1⟩
theorem alive_kind (g : Nat) (w : World) (hz : Ints .u8 w (some ⟨g, 0, none⟩) [2]) : Calls Tryd.prog 14 #[.slice (some ⟨g, 0, none⟩) 1 1] w fun e w' => ∃ a c, e = .returned (.tuple #[.agg #[.int .u64 0, .int .u64 0, .int .u64 0, .int .u64 0, .int .i64 0, .slice a 0 c], .int .i64 4]) ∧ Below w.heap.size w w' := by
  have C := decode_got (some ⟨g, 0, none⟩) 1 1 [2] w rfl (Nat.le_refl _) (by decide) (fun e => by cases e) (by intro x hx; simp at hx; omega) hz
  unfold GotPost at C
  rw [ex_two] at C
  refine C.mono ?_
  rintro e w1 ⟨a1, m1, c1, rfl, h1, h2, h3, h4, R1, L1⟩
  exact ⟨a1, c1, by rw [← show 0 = m1 from h1]; rfl, L1⟩
theorem alive_put (g : Nat) (w : World) (hz : Ints .u8 w (some ⟨g, 0, none⟩) [120]) (hT : Tab w) : Calls Tryd.prog 10 #[.agg #[.int .u64 1, .int .u64 0, .int .u64 0, .int .u64 0, .int .i64 2, .slice (some ⟨g, 0, none⟩) 1 1]] w fun e w' => ∃ a c, e = .returned (.tuple #[.slice a 15 c, .int .i64 0]) ∧ RowIn (fun k => w.heap.size ≤ k) w' a ([1, 2, 1, 0, 0, 0, 0, 0, 0, 0, 0, 0, 0, 1, 120].map (.int .u8)) ∧ Below w.heap.size w w' := by
  have C := encode_any ⟨1, 0, 0, 0, 2, [120]⟩ (some ⟨g, 0, none⟩) 1 1 w rfl ex_may (by unfold Fit; refine ⟨by decide, by decide, by decide, by decide, by decide, ?_⟩; intro x hx; simp at hx; omega) hz hT
  rw [ex_put] at C
  exact C.mono fun e w' ⟨a, c, he, _, _, _, hR, hL⟩ => ⟨a, c, he, hR, hL⟩
theorem alive_head (w : World) (hT : Tab w) :
    Calls Tryd.prog 9 #[] w fun e w' => e = .returned (.bool true) ∧ Below w.heap.size w w' := by
  have kc := fun (w : World) (o : Obj) (C : Array Value) (n c : Nat) => Joins.run_convert_bytes_const_at (P := Tryd.prog) (w.alloc o) 23 5 C n c (w.heap.size + 1) (by simp) Tryd.underlying23 Tryd.underlying5
  go_enter Tryd.func9, Tryd.ntmps9
  go_wp2_with (first
    | (go_at_call 14; (with_reducible refine (alive_none _).mono ?_); rintro e w1 ⟨a1, c1, rfl, L1⟩)
    | (go_at_call 14; refine (alive_kind (w1.heap.size + 1) ((w1.alloc _).alloc (.cells #[.int .u8 2] 5)) (.of (lit_at 5 [.int .u8 2] (by simp)))).mono ?_; rintro e w2 ⟨a2, c2, rfl, L2⟩; have M2 := Base.next (L1.alloc L1.size _) (Base.next ((Below.refl _ _).alloc (Nat.le_refl _) _) L2); clear L1 L2)
    | (go_at_call 10; refine (alive_put (w2.heap.size + 1) ((w2.alloc _).alloc (.cells #[.int .u8 120] 5 (1, 2))) (.of (lit_mark 5 (1, 2) [.int .u8 120] (by simp))) (((hT.below M2).alloc _).alloc _)).mono ?_; rintro e w3 ⟨a3, c3, rfl, R3, L3⟩; have M3 := Base.next (M2.alloc M2.size _) (Base.next ((Below.refl _ _).alloc (Nat.le_refl _) _) L3); have hs3 : (convert 23 9 (.slice a3 15 c3)).run Tryd.prog w3 = .ok (.string { data := #[1, 2, 1, 0, 0, 0, 0, 0, 0, 0, 0, 0, 0, 1, 120] }) w3 := str_of w3 a3 15 c3 [1, 2, 1, 0, 0, 0, 0, 0, 0, 0, 0, 0, 0, 1, 120] rfl R3.row; clear L3 M2 R3)
    | (go_at_call 21; refine (ecn_any true _).mono ?_; rintro e w' ⟨rfl, rfl⟩))
  all_goals go_ret
  all_goals exact ⟨by simp, M3⟩
end Go.Proofs.YtbdafmomjboaaaaDoor.Head
