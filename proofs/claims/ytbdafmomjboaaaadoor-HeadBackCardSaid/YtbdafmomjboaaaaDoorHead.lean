/-
  Contracts of head's small functions, and of the reading of fields.
-/
import Derived.Test.YtbdafmomjboaaaaDoorRows
import Derived.Test.YtbdafmomjboaaaaDoorFr
import Derived.Test.YtbdafmomjboaaaaDoorOctPlain
import Derived.Test.YtbdafmomjboaaaaDoorTab
import Derived.Test.YtbdafmomjboaaaaDoorOct
import Derived.Test.YtbdafmomjboaaaaDoorOctNum
import Derived.Test.YtbdafmomjboaaaaDoorHeadStep
import Derived.WalkKit
import Derived.ProofKit
import Derived.OpenShut
import Derived.WalkSpells
import Derived.Deep.RegionWith
import Derived.LoopTactic
import Derived.Lib.Hide
import Derived.OwnWalk
import Derived.Deep.OwnRows
namespace Go.Proofs.YtbdafmomjboaaaaDoor.Head
set_option linter.unusedVariables false
open Go.ChangeShapes Go.WideShapes Go.ChangeAt Go.RowKit
open Go.Proofs.YtbdafmomjboaaaaDoor.Base Go.Proofs.YtbdafmomjboaaaaDoor.OctPlain Go.Proofs.YtbdafmomjboaaaaDoor.Tab Go.Proofs.YtbdafmomjboaaaaDoor.Oct Go.Proofs.YtbdafmomjboaaaaDoor.HeadPlain

theorem point_any (e : Int) (w : World) :
    Calls Tryd.prog 24 #[.int .i64 e] w fun x w' => x = .returned (.bool (point e)) ∧ w = w' := by
  go_enter Tryd.func24, Tryd.ntmps24
  go_wp2
  all_goals go_ret
  all_goals exact ⟨Base.ret_bool (by unfold point; rw [Bool.eq_iff_iff]; simp; try omega), rfl⟩
theorem fits_any (off size : Int) (s0 : 0 ≤ size) (s1 : size ≤ 18446744073709551615) (w : World) :
    Calls Tryd.prog 25 #[.int .u64 off, .int .u64 size] w fun x w' => x = .returned (.bool (fits off size)) ∧ w = w' := by
  go_enter Tryd.func25, Tryd.ntmps25
  go_wp2
  all_goals go_ret
  all_goals exact ⟨Base.ret_bool (by unfold fits M; rw [Bool.eq_iff_iff]; simp; try omega), rfl⟩
theorem put_head (n : Int) (w : World) (n0 : 0 ≤ n) (n1 : n ≤ 18446744073709551615) (hT : Tab w) :
    Calls Tryd.prog 22 #[.int .u64 n] w fun e w' => ∃ a cap, e = .returned (.slice a (put n).length cap) ∧
      (put n).length ≤ cap ∧ cap ≤ 8 ∧ (a = none → (put n).length = 0 ∧ cap = 0) ∧ RowIn (fun k => w.heap.size ≤ k) w' a ((put n).map (.int .u8)) ∧ Below w.heap.size w w' := by
  have hp := put_any n w n0 n1 hT
  go_enter Tryd.func22, Tryd.ntmps22
  go_wp2_with (go_at_call 37; refine hp.mono ?_; rintro e w1 ⟨a, cap, rfl, h1, h2, h3, h4, h5⟩)
  all_goals go_ret
  all_goals exact ⟨a, cap, rfl, h1, h2, h3, h4, h5⟩
/-- The fields at block b: its reader at block rb, the bytes left and the error. -/
def Fd (S : Nat → Prop) (w : World) (b rb : Nat) (s : St) : Prop :=
  ¬ S b ∧ Blk w b #[.pointer (some ⟨rb, 0, none⟩), .int .i64 s.2] 58 ∧ Rd S w rb s.1
theorem Fd.ne {S : Nat → Prop} {w : World} {b rb : Nat} {s : St} (h : Fd S w b rb s) : b ≠ rb := fun e => h.1 (e ▸ h.2.2.1)
theorem Fd.kept {S T : Nat → Prop} {w w' : World} {b rb : Nat} {s : St} (h : Fd S w b rb s) (hf : Fr T w w') (hn : ∀ k, S k → ¬ T k) (hb : ¬ T b) : Fd S w' b rb s :=
  ⟨h.1, h.2.1.kept hf hb, h.2.2.kept hf hn⟩
/-- .. behind a store of the error, after a call that turned the reader. -/
theorem Fd.err {S : Nat → Prop} {w w' : World} {b rb : Nat} {s : St} {l : List Int} {e : Int} (h : Fd S w b rb s) (hR : Rd S w' rb l) (hf : Fr (fun k => k = rb) w w') :
    Fd S (w'.setCell ⟨b, 1, none⟩ (.int .i64 e)) b rb (l, e) ∧ Fr (fun k => k = b ∨ k = rb) w (w'.setCell ⟨b, 1, none⟩ (.int .i64 e)) := by
  have hB : Blk w' b #[.pointer (some ⟨rb, 0, none⟩), .int .i64 s.2] 58 := h.2.1.kept hf h.ne
  have F1 : Fr (fun k => k = b) w' (w'.setCell ⟨b, 1, none⟩ (.int .i64 e)) := Fr.setCell (S := fun k => k = b) (Fr.refl _ _) (p := ⟨b, 1, none⟩) (fun _ => rfl) _
  refine ⟨⟨h.1, hB.set 1 _, hR.kept F1 fun k hk e => h.1 (e ▸ hk)⟩, (hf.mono fun k _ e => Or.inr e).trans F1 fun k _ e => Or.inl e⟩
theorem need_any {S : Nat → Prop} {w : World} {b rb : Nat} {s : St} (h : Fd S w b rb s) (ok : Bool) (er : Int) :
    Calls Tryd.prog 29 #[.pointer (some ⟨b, 0, none⟩), .bool ok, .int .i64 er] w fun e w' => e = .returned (.tuple #[]) ∧ Fd S w' b rb (need ok er s) ∧ Fr (fun k => k = b ∨ k = rb) w w' := by
  have c1 : w.cell? ⟨b, 1, none⟩ = some (.int .i64 s.2) := h.2.1.cell 1
  have f1 := h.2.1.free 1
  obtain ⟨l, e⟩ := s
  have c1' : w.cell? ⟨b, 1, none⟩ = some (.int .i64 e) := c1
  clear c1
  by_cases he : e = 0
  · subst he
    cases ok
    · go_enter Tryd.func29, Tryd.ntmps29
      go_wp2
      all_goals go_end0
      all_goals exact ⟨rfl, h.err h.2.2 (Fr.refl _ _)⟩
    · go_enter Tryd.func29, Tryd.ntmps29
      go_wp2
      all_goals go_end0
      all_goals exact ⟨rfl, h, Fr.refl _ _⟩
  · have hn : need ok er (l, e) = (l, e) := need_err _ _ _ he
    rw [hn]
    go_enter Tryd.func29, Tryd.ntmps29
    go_wp2
    all_goals go_end0
    all_goals exact ⟨rfl, h, Fr.refl _ _⟩
theorem num_f {S : Nat → Prop} {w : World} {b rb : Nat} {s : St} (h : Fd S w b rb s) (hb : Bytes s.1) (hr : s.1.length ≤ 140737488355328) :
    Calls Tryd.prog 31 #[.pointer (some ⟨b, 0, none⟩)] w fun e w' => e = .returned (.int .u64 (numV s)) ∧ Fd S w' b rb (numS s) ∧ Fr (fun k => k = b ∨ k = rb) w w' := by
  obtain ⟨l, e⟩ := s
  have c0 : w.cell? ⟨b, 0, none⟩ = some (.pointer (some ⟨rb, 0, none⟩)) := h.2.1.cell 0
  have c1 : w.cell? ⟨b, 1, none⟩ = some (.int .i64 e) := h.2.1.cell 1
  have hlt := h.2.1.lt
  have f1 := h.2.1.free 1
  by_cases he : e = 0
  · subst he
    have hv : numV (l, 0) = (num l).1 := if_pos rfl
    have hs : numS (l, 0) = (l.drop (num l).2.1, (num l).2.2) := if_pos rfl
    have hc := num_any h.2.2 hb hr
    rw [hv, hs]
    dsimp only at hc
    generalize (num l).1 = n at hc ⊢
    generalize (num l).2.2 = er at hc ⊢
    generalize l.drop (num l).2.1 = m at hc ⊢
    clear hv hs
    go_enter Tryd.func31, Tryd.ntmps31
    go_wp2_with (go_at_call 41; refine hc.mono ?_; rintro e w1 ⟨rfl, H1, F1⟩; have d1 : w1.cell? ⟨b, 1, none⟩ = some (.int .i64 0) := (F1.cell (p := ⟨b, 1, none⟩) hlt h.ne).trans c1; have g1 : w1.frozen? ⟨b, 1, none⟩ = false := (h.2.1.kept F1 h.ne).free 1)
    all_goals go_ret
    all_goals exact ⟨rfl, h.err H1 F1⟩
  · have hv : numV (l, e) = 0 := if_neg he
    rw [num_errS (l, e) he, hv]
    clear hv
    go_enter Tryd.func31, Tryd.ntmps31
    go_wp2
    all_goals go_ret
    all_goals exact ⟨rfl, h, Fr.refl _ _⟩
theorem word_f {S : Nat → Prop} {w : World} {b rb : Nat} {s : St} (h : Fd S w b rb s) (hb : Bytes s.1) (hr : s.1.length ≤ 140737488355328) :
    Calls Tryd.prog 32 #[.pointer (some ⟨b, 0, none⟩)] w fun e w' => e = .returned (.int .u64 (wordV s)) ∧ Fd S w' b rb (wordS s) ∧ Fr (fun k => k = b ∨ k = rb) w w' := by
  obtain ⟨l, e⟩ := s
  have c0 : w.cell? ⟨b, 0, none⟩ = some (.pointer (some ⟨rb, 0, none⟩)) := h.2.1.cell 0
  have c1 : w.cell? ⟨b, 1, none⟩ = some (.int .i64 e) := h.2.1.cell 1
  have hlt := h.2.1.lt
  have f1 := h.2.1.free 1
  by_cases he : e = 0
  · subst he
    by_cases h8 : l.length < 8
    · have hv : wordV (l, 0) = 0 := if_neg (fun x => by have := x.2; dsimp only at this; omega)
      have hs : wordS (l, 0) = (l, 2) := by simp [wordS, h8]
      have hc := word_short h.2.2 h8
      rw [hv, hs]
      clear hv hs
      go_enter Tryd.func32, Tryd.ntmps32
      go_wp2_with (go_at_call 42; refine hc.mono ?_; rintro e w1 ⟨rfl, rfl⟩)
      all_goals go_ret
      all_goals exact ⟨rfl, h.err h.2.2 (Fr.refl _ _)⟩
    · have hv : wordV (l, 0) = val (l.take 8) := if_pos ⟨rfl, by show 8 ≤ l.length; omega⟩
      have hs : wordS (l, 0) = (l.drop 8, 0) := by simp [wordS, h8]
      have hc := word_any h.2.2 hb (by show 8 ≤ l.length; omega) hr
      rw [hv, hs]
      dsimp only at hc
      generalize val (l.take 8) = n at hc ⊢
      generalize l.drop 8 = m at hc ⊢
      clear hv hs
      go_enter Tryd.func32, Tryd.ntmps32
      go_wp2_with (go_at_call 42; refine hc.mono ?_; rintro e w1 ⟨rfl, H1, F1⟩; have d1 : w1.cell? ⟨b, 1, none⟩ = some (.int .i64 0) := (F1.cell (p := ⟨b, 1, none⟩) hlt h.ne).trans c1; have g1 : w1.frozen? ⟨b, 1, none⟩ = false := (h.2.1.kept F1 h.ne).free 1)
      all_goals go_ret
      all_goals exact ⟨rfl, h.err H1 F1⟩
  · have hv : wordV (l, e) = 0 := if_neg (fun x => he x.1)
    rw [word_errS (l, e) he, hv]
    clear hv
    go_enter Tryd.func32, Tryd.ntmps32
    go_wp2
    all_goals go_ret
    all_goals exact ⟨rfl, h, Fr.refl _ _⟩
theorem take_f {S : Nat → Prop} {w : World} {b rb : Nat} {s : St} (h : Fd S w b rb s) (hr : s.1.length ≤ 140737488355328) (n : Int) (n0 : 0 ≤ n) (n1 : n ≤ 4611686018427387903) :
    Calls Tryd.prog 33 #[.pointer (some ⟨b, 0, none⟩), .int .u64 n] w fun e w' => ∃ a cap, e = .returned (.slice a (takeV n s).length cap) ∧
      (takeV n s).length ≤ cap ∧ cap ≤ maxLen ∧ (a = none → (takeV n s).length = 0 ∧ cap = 0) ∧ RowIn (fun k => w.heap.size ≤ k) w' a ((takeV n s).map (.int .u8)) ∧
      Fd S w' b rb (takeS n s) ∧ Fr (fun k => k = b ∨ k = rb) w w' := by
  obtain ⟨l, e⟩ := s
  have c0 : w.cell? ⟨b, 0, none⟩ = some (.pointer (some ⟨rb, 0, none⟩)) := h.2.1.cell 0
  have c1 : w.cell? ⟨b, 1, none⟩ = some (.int .i64 e) := h.2.1.cell 1
  have hlt := h.2.1.lt
  have f1 := h.2.1.free 1
  by_cases he : e = 0
  · subst he
    by_cases hn : (l.length : Int) < n
    · have hv : takeV n (l, 0) = [] := if_neg (fun x => by have := x.2; dsimp only at this; omega)
      have hs : takeS n (l, 0) = (l, 2) := by simp [takeS, hn]
      have hc := take_short h.2.2 n hn
      rw [hv, hs]
      clear hv hs
      have X : Calls Tryd.prog 33 #[.pointer (some ⟨b, 0, none⟩), .int .u64 n] w fun e w' => e = .returned (.slice none 0 0) ∧ Fd S w' b rb (l, 2) ∧ Fr (fun k => k = b ∨ k = rb) w w' := by
        go_enter Tryd.func33, Tryd.ntmps33
        go_wp2_with (go_at_call 43; refine hc.mono ?_; rintro e w1 ⟨rfl, rfl⟩)
        all_goals go_ret
        all_goals exact ⟨rfl, h.err h.2.2 (Fr.refl _ _)⟩
      exact X.mono fun e w' ⟨he, h1⟩ => ⟨none, 0, he, Nat.le_refl _, Nat.zero_le _, (fun _ => ⟨rfl, rfl⟩), RowIn.nil _ _ _, h1⟩
    · have hv : takeV n (l, 0) = l.take n.toNat := if_pos ⟨rfl, by show n ≤ (l.length : Int); omega⟩
      have hs : takeS n (l, 0) = (l.drop n.toNat, 0) := by simp [takeS, hn]
      have hc := take_any h.2.2 n n.toNat (by omega) (by show n.toNat ≤ l.length; omega) hr
      have hl : (l.take n.toNat).length = n.toNat := by rw [List.length_take]; omega
      rw [hv, hs]
      dsimp only at hc
      generalize l.take n.toNat = q at *
      generalize l.drop n.toNat = m at *
      rw [← hl] at hc
      clear hv hs hl
      go_enter Tryd.func33, Tryd.ntmps33
      go_wp2_with (go_at_call 43; refine hc.mono ?_; rintro e w1 ⟨a, cap, rfl, h1, h2, h3, h4, H1, F1⟩; have d1 : w1.cell? ⟨b, 1, none⟩ = some (.int .i64 0) := (F1.cell (p := ⟨b, 1, none⟩) hlt h.ne).trans c1; have g1 : w1.frozen? ⟨b, 1, none⟩ = false := (h.2.1.kept F1 h.ne).free 1)
      all_goals go_ret
      all_goals exact ⟨a, cap, rfl, h1, h2, h3, h4.kept (T := fun k => k = b) (Fr.setCell (S := fun k => k = b) (Fr.refl _ _) (p := ⟨b, 1, none⟩) (fun _ => rfl) _) (fun k hk e => by omega), h.err H1 F1⟩
  · have hv : takeV n (l, e) = [] := if_neg (fun x => he x.1)
    rw [take_errS n (l, e) he, hv]
    clear hv
    have X : Calls Tryd.prog 33 #[.pointer (some ⟨b, 0, none⟩), .int .u64 n] w fun e w' => e = .returned (.slice none 0 0) ∧ w = w' := by
      go_enter Tryd.func33, Tryd.ntmps33
      go_wp2
      all_goals go_ret
      all_goals exact ⟨rfl, rfl⟩
    exact X.mono fun e w' ⟨he, h1⟩ => h1 ▸ ⟨none, 0, he, Nat.le_refl _, Nat.zero_le _, (fun _ => ⟨rfl, rfl⟩), RowIn.nil _ _ _, h, Fr.refl _ _⟩
theorem takeV_one (s : St) : (takeV 1 s = [] ∧ oneV s = 0) ∨ takeV 1 s = [oneV s] := by
  obtain ⟨l, e⟩ := s
  by_cases he : e = 0
  · subst he
    cases l with
    | nil => exact Or.inl ⟨rfl, rfl⟩
    | cons x r =>
      refine Or.inr ?_
      unfold takeV
      rw [if_pos ⟨rfl, by show (1 : Int) ≤ ((x :: r).length : Int); simp only [List.length_cons]; omega⟩]
      rfl
  · exact Or.inl ⟨if_neg (fun x => he x.1), if_neg he⟩
theorem one_f {S : Nat → Prop} {w : World} {b rb : Nat} {s : St} (h : Fd S w b rb s) (hr : s.1.length ≤ 140737488355328) :
    Calls Tryd.prog 30 #[.pointer (some ⟨b, 0, none⟩)] w fun e w' => e = .returned (.int .u8 (oneV s)) ∧ Fd S w' b rb (oneS s) ∧ Fr (fun k => k = b ∨ k = rb) w w' := by
  have hc := take_f h hr 1 (by decide) (by decide)
  show Calls Tryd.prog _ _ _ fun e w' => e = .returned (.int .u8 (oneV s)) ∧ Fd S w' b rb (takeS 1 s) ∧ Fr (fun k => k = b ∨ k = rb) w w'
  rcases takeV_one s with ⟨h1, h2⟩ | h1
  · rw [h1] at hc
    rw [h2]
    clear h1 h2
    go_enter Tryd.func30, Tryd.ntmps30
    go_wp2_with (go_at_call 33; refine hc.mono ?_; rintro e w1 ⟨a, cap, rfl, g1, g2, g3, g4, H1, F1⟩)
    all_goals go_ret
    all_goals exact ⟨rfl, H1, F1⟩
  · rw [h1] at hc
    clear h1
    generalize oneV s = x at hc ⊢
    go_enter Tryd.func30, Tryd.ntmps30
    go_wp2_with (go_at_call 33; refine hc.mono ?_; rintro e w1 ⟨a, cap, rfl, g1, g2, g3, g4, H1, F1⟩; obtain ⟨g, off, rfl, _, _, cx⟩ := g4 0 (.int .u8 x) rfl; have cx' : w1.cell? ⟨g, off, none⟩ = some (.int .u8 x) := cx; clear cx)
    all_goals go_ret
    all_goals exact ⟨rfl, H1, F1⟩
end Go.Proofs.YtbdafmomjboaaaaDoor.Head
