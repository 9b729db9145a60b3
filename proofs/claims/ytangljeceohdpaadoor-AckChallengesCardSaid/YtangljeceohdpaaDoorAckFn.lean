/-
  Contracts of ack's small functions: the reading of a byte, a kind, a flag, a number, a span; the writing of a number, a flag.
-/
import Derived.Test.YtangljeceohdpaaDoorRows
import Derived.Test.YtangljeceohdpaaDoorAckStep
import Derived.Test.YtangljeceohdpaaDoorAckRow
import Derived.Test.YtangljeceohdpaaDoorAckRef
import Derived.Test.YtangljeceohdpaaDoorOct
import Derived.Test.YtangljeceohdpaaDoorOctNum
import Derived.Test.YtangljeceohdpaaDoorAckRef4
namespace Go.Proofs.YtangljeceohdpaaDoor.Ack
set_option linter.unusedVariables false
set_option maxRecDepth 20000
open Go.ChangeShapes Go.WideShapes Go.ChangeAt Go.RowKit
open Go.Proofs.YtangljeceohdpaaDoor.Base Go.Proofs.YtangljeceohdpaaDoor.OctPlain Go.Proofs.YtangljeceohdpaaDoor.Tab Go.Proofs.YtangljeceohdpaaDoor.Oct Go.Proofs.YtangljeceohdpaaDoor.SpanPlain
open Go.Proofs.YtangljeceohdpaaDoor.AckPlain (K putAck getAck getRow getSp putSp getNum comb Fit)

/-- The first byte, the error of reading it. -/
def byteV : List Int → Int | [] => 0 | x :: _ => x
def byteE : List Int → Int | [] => 2 | _ :: _ => 0
theorem byte_any {S : Nat → Prop} {w : World} {b : Nat} {l : List Int} (h : Rd S w b l) (hr : l.length ≤ 140737488355328) :
    Calls Tryd.prog 54 #[.pointer (some ⟨b, 0, none⟩)] w fun e w' => e = .returned (.tuple #[.int .u8 (byteV l), .int .i64 (byteE l)]) ∧ Rd S w' b (l.drop 1) ∧ Fr (fun k => k = b) w w' := by
  cases l with
  | nil =>
    have hc := take_short h 1 (by simp)
    go_enter Tryd.func54, Tryd.ntmps54
    go_wp2_with (go_at_call 59; refine hc.mono ?_; rintro e w1 ⟨rfl, rfl⟩)
    all_goals go_ret2
    all_goals exact ⟨rfl, h, Fr.refl _ _⟩
  | cons x q =>
    have hc := take_any h 1 1 rfl (by simp) hr
    go_enter Tryd.func54, Tryd.ntmps54
    go_wp2_with (go_at_call 59; refine hc.mono ?_; rintro e w1 ⟨a, cap, rfl, h1, h2, h3, R1, H1, F1⟩; obtain ⟨g, off, rfl, _, _, cx⟩ := R1 0 (.int .u8 x) rfl; have cx' : w1.cell? ⟨g, off, none⟩ = some (.int .u8 x) := cx; clear cx)
    all_goals go_ret2
    all_goals exact ⟨rfl, H1, F1⟩
/-- The error of reading the byte of a kind. -/
def kindE (k : Int) : List Int → Int | [] => 2 | x :: _ => if x = k then 0 else 4
theorem kind_any {S : Nat → Prop} {w : World} {b : Nat} {l : List Int} (h : Rd S w b l) (hr : l.length ≤ 140737488355328) (k : Int) :
    Calls Tryd.prog 38 #[.pointer (some ⟨b, 0, none⟩), .int .u8 k] w fun e w' => e = .returned (.int .i64 (kindE k l)) ∧ Rd S w' b (l.drop 1) ∧ Fr (fun k => k = b) w w' := by
  have hc := byte_any h hr
  cases l with
  | nil =>
    go_enter Tryd.func38, Tryd.ntmps38
    go_wp2_with (go_at_call 54; refine hc.mono ?_; rintro e w1 ⟨rfl, H1, F1⟩; simp only [byteV, byteE])
    all_goals go_ret
    all_goals exact ⟨rfl, H1, F1⟩
  | cons x q =>
    have hk : kindE k (x :: q) = if x = k then 0 else 4 := rfl
    by_cases hx : x = k
    · subst hx
      rw [if_pos rfl] at hk
      rw [hk]
      clear hk
      go_enter Tryd.func38, Tryd.ntmps38
      go_wp2_with (go_at_call 54; refine hc.mono ?_; rintro e w1 ⟨rfl, H1, F1⟩; simp only [byteV, byteE])
      all_goals go_ret
      all_goals exact ⟨rfl, H1, F1⟩
    · rw [if_neg hx] at hk
      rw [hk]
      clear hk
      go_enter Tryd.func38, Tryd.ntmps38
      go_wp2_with (go_at_call 54; refine hc.mono ?_; rintro e w1 ⟨rfl, H1, F1⟩; simp only [byteV, byteE])
      all_goals go_ret
      all_goals exact ⟨rfl, H1, F1⟩
/-- A flag read, its error. -/
def flagE : List Int → Int | [] => 2 | x :: _ => if 1 < x then 5 else 0
def flagV : List Int → Bool | [] => false | x :: _ => decide (x = 1)
theorem flag_any {S : Nat → Prop} {w : World} {b : Nat} {l : List Int} (h : Rd S w b l) (hr : l.length ≤ 140737488355328) :
    Calls Tryd.prog 49 #[.pointer (some ⟨b, 0, none⟩)] w fun e w' => e = .returned (.tuple #[.bool (flagV l), .int .i64 (flagE l)]) ∧ Rd S w' b (l.drop 1) ∧ Fr (fun k => k = b) w w' := by
  have hc := byte_any h hr
  cases l with
  | nil =>
    go_enter Tryd.func49, Tryd.ntmps49
    go_wp2_with (go_at_call 54; refine hc.mono ?_; rintro e w1 ⟨rfl, H1, F1⟩; simp only [byteV, byteE])
    all_goals go_ret2
    all_goals exact ⟨rfl, H1, F1⟩
  | cons x q =>
    have hk : flagE (x :: q) = if 1 < x then 5 else 0 := rfl
    have hv : flagV (x :: q) = decide (x = 1) := rfl
    by_cases hx : 1 < x
    · rw [if_pos hx] at hk
      rw [decide_eq_false (by omega)] at hv
      rw [hk, hv]
      clear hk hv
      go_enter Tryd.func49, Tryd.ntmps49
      go_wp2_with (go_at_call 54; refine hc.mono ?_; rintro e w1 ⟨rfl, H1, F1⟩; simp only [byteV, byteE])
      all_goals go_ret2
      all_goals exact ⟨rfl, H1, F1⟩
    · rw [if_neg hx] at hk
      rw [hk, hv]
      clear hk hv
      go_enter Tryd.func49, Tryd.ntmps49
      go_wp2_with (go_at_call 54; refine hc.mono ?_; rintro e w1 ⟨rfl, H1, F1⟩; simp only [byteV, byteE])
      all_goals go_ret2
      all_goals exact ⟨rfl, H1, F1⟩
/-- A number read from the least one on: it, its error. -/
def fromE (least : Int) (l : List Int) : Int := if (num l).2.2 ≠ 0 then (num l).2.2 else if M < least + (num l).1 then 5 else 0
def fromV (least : Int) (l : List Int) : Int := if (num l).2.2 ≠ 0 then 0 else if M < least + (num l).1 then 0 else least + (num l).1
theorem from_any {S : Nat → Prop} {w : World} {b : Nat} {l : List Int} (h : Rd S w b l) (hb : Bytes l) (hr : l.length ≤ 140737488355328) (least : Int) (l0 : 0 ≤ least) (l1 : least ≤ 4611686018427387905) :
    Calls Tryd.prog 63 #[.pointer (some ⟨b, 0, none⟩), .int .u64 least] w fun e w' => e = .returned (.tuple #[.int .u64 (fromV least l), .int .i64 (fromE least l)]) ∧ Rd S w' b (l.drop (num l).2.1) ∧ Fr (fun k => k = b) w w' := by
  have hc := num_any h hb hr
  have hv : fromV least l = if (num l).2.2 ≠ 0 then 0 else if M < least + (num l).1 then 0 else least + (num l).1 := rfl
  have he : fromE least l = if (num l).2.2 ≠ 0 then (num l).2.2 else if M < least + (num l).1 then 5 else 0 := rfl
  have bd := num_bd hb
  generalize fromV least l = v at hv ⊢
  generalize fromE least l = er at he ⊢
  generalize l.drop (num l).2.1 = q at hc ⊢
  generalize (num l).1 = x at *
  generalize (num l).2.2 = ne at *
  obtain ⟨b0, b1⟩ := bd
  unfold M at hv he
  clear h hb hr
  by_cases c1 : ne = 0
  · subst c1
    rw [if_neg (by simp)] at hv he
    by_cases c2 : 4611686018427387903 < least + x
    · rw [if_pos c2] at hv he
      subst hv he
      have ew : IntKind.u64.wrap (least + x) = least + x := by rw [IntKind.wrap_u64]; omega
      go_enter Tryd.func63, Tryd.ntmps63
      go_wp2_with (go_at_call 39; refine hc.mono ?_; rintro e w1 ⟨rfl, H1, F1⟩)
      all_goals go_ret2
      all_goals exact ⟨rfl, H1, F1⟩
    · rw [if_neg c2] at hv he
      subst hv he
      have ew : IntKind.u64.wrap (least + x) = least + x := by rw [IntKind.wrap_u64]; omega
      go_enter Tryd.func63, Tryd.ntmps63
      go_wp2_with (go_at_call 39; refine hc.mono ?_; rintro e w1 ⟨rfl, H1, F1⟩)
      all_goals go_ret2
      all_goals exact ⟨rfl, H1, F1⟩
  · rw [if_pos c1] at hv he
    subst hv he
    go_enter Tryd.func63, Tryd.ntmps63
    go_wp2_with (go_at_call 39; refine hc.mono ?_; rintro e w1 ⟨rfl, H1, F1⟩)
    all_goals go_ret2
    all_goals exact ⟨rfl, H1, F1⟩
theorem from_bd {least : Int} {l : List Int} (hb : Bytes l) (l0 : 0 ≤ least) : 0 ≤ fromV least l ∧ fromV least l ≤ 4611686018427387903 := by
  have bd := num_bd hb
  unfold fromV M
  split
  · omega
  · split <;> omega
/-- A span read, its error, the bytes behind it. -/
def spE (least : Int) (l : List Int) : Int := if fromE least l ≠ 0 then fromE least l else fromE (fromV least l) (l.drop (num l).2.1)
def spV (least : Int) (l : List Int) : Sp := if spE least l ≠ 0 then (0, 0) else (fromV least l, fromV (fromV least l) (l.drop (num l).2.1))
def spK (l : List Int) : Nat := (num l).2.1 + (num (l.drop (num l).2.1)).2.1
theorem rd_mono {S T : Nat → Prop} {w : World} {b : Nat} {l : List Int} (h : Rd S w b l) (hT : ∀ k, k < w.heap.size → S k → T k) : Rd T w b l := by
  obtain ⟨hS, a, cap, h1, h2, h3, h0, h4⟩ := h
  exact ⟨hT b h1.lt hS, a, cap, h1, h2, h3, h0, h4.mono fun k hk hs => ⟨hT k hk hs.1, hs.2⟩⟩
/-- Two cells of a block, one behind the other. -/
def set2 (w : World) (g : Nat) (v0 v1 : Value) : World := (w.setCell ⟨g, 0, none⟩ v0).setCell ⟨g, 1, none⟩ v1
theorem set2_blk {w : World} {g : Nat} {T : TypeId} {u0 u1 : Value} (h : Blk w g #[u0, u1] T) (v0 v1 : Value) : Blk (set2 w g v0 v1) g #[v0, v1] T := (h.set 0 v0).set 1 v1
theorem set2_fr (w : World) (g : Nat) (v0 v1 : Value) : Fr (fun k => k = g) w (set2 w g v0 v1) :=
  Fr.setCell (S := fun k => k = g) (p := ⟨g, 1, none⟩) (Fr.setCell (S := fun k => k = g) (p := ⟨g, 0, none⟩) (Fr.refl _ _) (fun _ => rfl) _) (fun _ => rfl) _
/-- What the reading of a span comes to, behind the store of its result. -/
theorem span_end {S : Nat → Prop} {w w2 : World} {b : Nat} {q : List Int} (H2 : Rd (fun k => S k ∧ k < w.heap.size) w2 b q) (F2 : Fr (fun k => k = b) w w2) (x y : Value) :
    Rd S (set2 w2 w.heap.size x y) b q ∧ Fr (fun k => k = b) w (set2 w2 w.heap.size x y) :=
  ⟨rd_mono (H2.kept (set2_fr _ _ _ _) (fun k hk e => by have := hk.2; omega)) fun k _ h => h.1, F2.trans (set2_fr _ _ _ _) fun k hk e => by omega⟩
theorem span_any {S : Nat → Prop} {w : World} {b : Nat} {l : List Int} (h : Rd S w b l) (hb : Bytes l) (hr : l.length ≤ 140737488355328) (least : Int) (l0 : 0 ≤ least) (l1 : least ≤ 4611686018427387905) :
    Calls Tryd.prog 58 #[.pointer (some ⟨b, 0, none⟩), .int .u64 least] w fun e w' => e = .returned (.tuple #[.agg #[.int .u64 (spV least l).1, .int .u64 (spV least l).2], .int .i64 (spE least l)]) ∧ (spE least l = 0 → Rd S w' b (l.drop (spK l))) ∧ Fr (fun k => k = b) w w' := by
  have hbl : b < w.heap.size := by obtain ⟨_, _, _, hB, _⟩ := h; exact hB.lt
  have hB0 := Blk.new w #[.int .u64 0, .int .u64 0] 55
  have hF0 : Fr (fun k => k = b) w (w.alloc (.cells #[.int .u64 0, .int .u64 0] 55)) := (Fr.refl _ _).alloc _
  have h0 : Rd (fun k => S k ∧ k < w.heap.size) (w.alloc (.cells #[.int .u64 0, .int .u64 0] 55)) b l := (rd_mono (T := fun k => S k ∧ k < w.heap.size) h (fun k hk hs => ⟨hs, hk⟩)).kept (T := fun _ => False) ((Fr.refl _ _).alloc _) (fun _ _ e => e)
  have hb2 := hb.drop (num l).2.1
  have hr2 : (l.drop (num l).2.1).length ≤ 140737488355328 := by rw [List.length_drop]; omega
  have he : spE least l = if fromE least l ≠ 0 then fromE least l else fromE (fromV least l) (l.drop (num l).2.1) := rfl
  have hv : spV least l = if spE least l ≠ 0 then (0, 0) else (fromV least l, fromV (fromV least l) (l.drop (num l).2.1)) := rfl
  have hk : l.drop (spK l) = (l.drop (num l).2.1).drop (num (l.drop (num l).2.1)).2.1 := by rw [List.drop_drop]; rfl
  have c1 := from_any h0 hb hr least l0 l1
  have bd := from_bd (least := least) hb l0
  have c2 := fun W (H : Rd (fun k => S k ∧ k < w.heap.size) W b (l.drop (num l).2.1)) => from_any H hb2 hr2 (fromV least l) bd.1 (by omega)
  rw [hk]
  clear hk h0
  generalize spV least l = v at hv ⊢
  generalize spE least l = er at he hv ⊢
  generalize fromV (fromV least l) (l.drop (num l).2.1) = y at *
  generalize fromE (fromV least l) (l.drop (num l).2.1) = e2 at *
  generalize (l.drop (num l).2.1).drop (num (l.drop (num l).2.1)).2.1 = q2 at *
  generalize l.drop (num l).2.1 = q1 at *
  generalize fromV least l = x at *
  generalize fromE least l = e1 at *
  clear bd hb hr hb2 hr2 h l0 l1
  by_cases z1 : e1 = 0
  · subst z1
    rw [if_neg (by simp)] at he
    subst he
    by_cases z2 : er = 0
    · subst z2
      rw [if_neg (by simp)] at hv
      subst hv
      go_enter Tryd.func58, Tryd.ntmps58
      go_wp2_with (first
        | (go_at_call 63; (with_reducible refine c1.mono ?_); rintro e w1 ⟨rfl, H1, F1⟩; clear c1; have B1 := hB0.kept F1 (by omega); have G1 := hF0.trans F1 (fun _ _ h => h); clear hB0 hF0 F1)
        | (go_at_call 63; refine (c2 _ H1).mono ?_; rintro e w2 ⟨rfl, H2, F2⟩; clear c2 H1; have B2 := B1.kept F2 (by omega); have G2 := G1.trans F2 (fun _ _ h => h); clear B1 G1 F2; have r0 := B2.cell 0; have r1 := B2.cell 1; have f0 := B2.free 0; have f1 := B2.free 1))
      refine bodyPost_ret (results_row2 rfl _ _ w.heap.size 55 #[.int .u64 x, .int .u64 y] _ rfl (set2_blk B2 _ _) Tryd.underlying55 rfl (by kernel_rfl)) rfl ?_
      have X := span_end H2 G2 (.int .u64 x) (.int .u64 y)
      exact ⟨rfl, fun _ => X.1, X.2⟩
    · rw [if_pos z2] at hv
      subst hv
      go_enter Tryd.func58, Tryd.ntmps58
      go_wp2_with (first
        | (go_at_call 63; (with_reducible refine c1.mono ?_); rintro e w1 ⟨rfl, H1, F1⟩; clear c1; have B1 := hB0.kept F1 (by omega); have G1 := hF0.trans F1 (fun _ _ h => h); clear hB0 hF0 F1)
        | (go_at_call 63; refine (c2 _ H1).mono ?_; rintro e w2 ⟨rfl, H2, F2⟩; clear c2 H1; have B2 := B1.kept F2 (by omega); have G2 := G1.trans F2 (fun _ _ h => h); clear B1 G1 F2; have r0 := B2.cell 0; have r1 := B2.cell 1; have f0 := B2.free 0; have f1 := B2.free 1))
      refine bodyPost_ret (results_row2 rfl _ _ w.heap.size 55 #[.int .u64 0, .int .u64 0] _ rfl (set2_blk B2 _ _) Tryd.underlying55 rfl (by kernel_rfl)) rfl ?_
      exact ⟨rfl, fun e => absurd e z2, (span_end H2 G2 (.int .u64 0) (.int .u64 0)).2⟩
  · rw [if_pos z1] at he
    subst he
    rw [if_pos z1] at hv
    subst hv
    go_enter Tryd.func58, Tryd.ntmps58
    go_wp2_with (go_at_call 63; (with_reducible refine c1.mono ?_); rintro e w2 ⟨rfl, H2, F2⟩; clear c1; have B2 := hB0.kept F2 (by omega); have G2 := hF0.trans F2 (fun _ _ h => h); clear hB0 hF0 F2; have r0 := B2.cell 0; have r1 := B2.cell 1; have f0 := B2.free 0; have f1 := B2.free 1)
    refine bodyPost_ret (results_row2 rfl _ _ w.heap.size 55 #[.int .u64 0, .int .u64 0] _ rfl (set2_blk B2 _ _) Tryd.underlying55 rfl (by kernel_rfl)) rfl ?_
    exact ⟨rfl, fun e => absurd e z1, (span_end H2 G2 (.int .u64 0) (.int .u64 0)).2⟩
theorem from_zero {least : Int} {l : List Int} (h : fromE least l = 0) : (num l).2.2 = 0 ∧ ¬ M < least + (num l).1 ∧ fromV least l = least + (num l).1 := by
  unfold fromE at h
  by_cases c : (num l).2.2 = 0
  · rw [if_neg (by simp [c])] at h
    by_cases d : M < least + (num l).1
    · rw [if_pos d] at h; omega
    · exact ⟨c, d, by unfold fromV; rw [if_neg (by simp [c]), if_neg d]⟩
  · rw [if_pos c] at h; exact absurd h c
theorem from_not {least : Int} {l : List Int} (h : fromE least l ≠ 0) : ((num l).2.2 ≠ 0 ∧ fromE least l = (num l).2.2) ∨ ((num l).2.2 = 0 ∧ M < least + (num l).1 ∧ fromE least l = 5) := by
  unfold fromE at h ⊢
  by_cases c : (num l).2.2 = 0
  · rw [if_neg (by simp [c])] at h ⊢
    by_cases d : M < least + (num l).1
    · exact Or.inr ⟨c, d, if_pos d⟩
    · rw [if_neg d] at h; exact absurd rfl h
  · exact Or.inl ⟨c, if_pos c⟩
/-- One more span read: what it comes to. -/
theorem sp_bad (pre : List Sp) (used m : Nat) {low : Int} {q : List Int} (hb : Bytes q) (h : spE low q ≠ 0) : comb pre used (getSp (m + 1) low q) = ([], 0, spE low q) := by
  have b1 := (num_bd hb).1
  by_cases a1 : fromE low q = 0
  · have hs : spE low q = fromE (fromV low q) (q.drop (num q).2.1) := if_neg (by simp [a1])
    obtain ⟨n1, n2, n3⟩ := from_zero a1
    rw [hs] at h ⊢
    rw [n3] at h ⊢
    rcases from_not h with ⟨m1, m2⟩ | ⟨m1, m2, m3⟩
    · rw [m2]
      exact AckPlain.comb_num2 pre used m n1 (by omega) m1
    · rw [m3]
      exact AckPlain.comb_high pre used m n1 (by omega) m1 (by omega)
  · have hs : spE low q = fromE low q := if_pos a1
    rw [hs]
    rcases from_not a1 with ⟨m1, m2⟩ | ⟨m1, m2, m3⟩
    · rw [m2]
      exact AckPlain.comb_num pre used m m1
    · rw [m3]
      exact AckPlain.comb_low pre used m m1 (by omega)
theorem sp_go (pre : List Sp) (used m : Nat) {low : Int} {q : List Int} (hb : Bytes q) (h : spE low q = 0) : comb pre used (getSp (m + 1) low q) = comb (pre ++ [spV low q]) (used + spK q) (getSp m ((spV low q).2 + 2) (q.drop (spK q))) := by
  have b1 := (num_bd hb).1
  have hv : spV low q = (fromV low q, fromV (fromV low q) (q.drop (num q).2.1)) := if_neg (by simp [h])
  have a1 : fromE low q = 0 := by
    by_cases c : fromE low q = 0
    · exact c
    · rw [show spE low q = fromE low q from if_pos c] at h; exact absurd h c
  rw [show spE low q = fromE (fromV low q) (q.drop (num q).2.1) from if_neg (by simp [a1])] at h
  obtain ⟨n1, n2, n3⟩ := from_zero a1
  rw [n3] at h hv
  obtain ⟨m1, m2, m3⟩ := from_zero h
  rw [m3] at hv
  rw [hv]
  have := AckPlain.comb_go pre used m (low := low) (x := (num q).1) (y := (num (q.drop (num q).2.1)).1) (q := q) (k1 := (num q).2.1) (k2 := (num (q.drop (num q).2.1)).2.1) (by rw [← n1]) (by omega) (by rw [← m1]) (by omega)
  rw [this, List.drop_drop]
  rfl
theorem sp_bd {low : Int} {q : List Int} (hb : Bytes q) (h0 : 0 ≤ low) : (0 ≤ (spV low q).1 ∧ (spV low q).1 ≤ 4611686018427387903) ∧ 0 ≤ (spV low q).2 ∧ (spV low q).2 ≤ 4611686018427387903 := by
  unfold spV
  have h1 := from_bd (least := low) hb h0
  have h2 := from_bd (least := fromV low q) (hb.drop (num q).2.1) h1.1
  split
  · exact ⟨⟨by simp, by simp⟩, by simp, by simp⟩
  · exact ⟨h1, h2⟩
theorem sp_len (q : List Int) : spK q ≤ q.length := by
  have a1 := num_len q
  have a2 := num_len (q.drop (num q).2.1)
  rw [List.length_drop] at a2
  unfold spK
  omega
theorem above_any (s : Sp) (h0 : 0 ≤ s.2) (h1 : s.2 ≤ 4611686018427387903) (w : World) :
    Calls Tryd.prog 43 #[.agg #[.int .u64 s.1, .int .u64 s.2]] w fun e w' => e = .returned (.int .u64 (s.2 + 2)) ∧ Below w.heap.size w w' := by
  obtain ⟨x, y⟩ := s
  dsimp only at h0 h1 ⊢
  have ew : IntKind.u64.wrap (y + 2) = y + 2 := by rw [IntKind.wrap_u64]; omega
  go_enter Tryd.func43, Tryd.ntmps43
  go_wp2
  all_goals go_ret
  all_goals exact ⟨rfl, (Below.refl _ _).alloc (Nat.le_refl _) _⟩
theorem put_ack (n : Int) (w : World) (n0 : 0 ≤ n) (n1 : n ≤ 18446744073709551615) (hT : Tab w) :
    Calls Tryd.prog 42 #[.int .u64 n] w fun e w' => ∃ a cap, e = .returned (.slice a (put n).length cap) ∧
      (put n).length ≤ cap ∧ cap ≤ 8 ∧ (a = none → (put n).length = 0 ∧ cap = 0) ∧ RowIn (fun k => w.heap.size ≤ k) w' a ((put n).map (.int .u8)) ∧ Below w.heap.size w w' := by
  have hp := put_any n w n0 n1 hT
  go_enter Tryd.func42, Tryd.ntmps42
  go_wp2_with (go_at_call 37; refine hp.mono ?_; rintro e w1 ⟨a, cap, rfl, h1, h2, h3, h4, h5⟩)
  all_goals go_ret
  all_goals exact ⟨a, cap, rfl, h1, h2, h3, h4, h5⟩
theorem flag_of (x : Bool) (w : World) :
    Calls Tryd.prog 23 #[.bool x] w fun e w' => e = .returned (.int .u8 (AckPlain.byteOf x)) ∧ w = w' := by
  cases x
  all_goals go_enter Tryd.func23, Tryd.ntmps23
  all_goals go_wp2
  all_goals go_ret
  all_goals exact ⟨rfl, rfl⟩
end Go.Proofs.YtangljeceohdpaaDoor.Ack
