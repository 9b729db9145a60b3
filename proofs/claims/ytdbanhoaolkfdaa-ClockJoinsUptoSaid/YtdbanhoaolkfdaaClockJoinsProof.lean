/-
  The first of two lists together is the first of both firsts. No conditions beside the form's bound on what comes in.
-/
import Derived.Test.YtdbanhoaolkfdaaRows
import Derived.Test.YtdbanhoaolkfdaaRow
import Derived.WalkKit
import Derived.ProofKit
import Derived.OpenShut
import Derived.ShutString
import Derived.ChangeOld
import Derived.Below
import Derived.JoinedCond
import Derived.Test.YtdbanhoaolkfdaaBulk
import Derived.Test.YtdbanhoaolkfdaaClock
namespace Go.Proofs.Ytdbanhoaolkfdaa.clockJoins
open Go.ChangeShapes Go.WideShapes Go.ChangeAt Go.RowKit
open Go.ChangeMaps (open_string shut_string)
open Go.Proofs.Ytdbanhoaolkfdaa.Base
set_option linter.unusedVariables false

theorem own : ownKnob Try.prog.godebug = none := by kernel_rfl
theorem laidOut : laidOutB Try.prog = true := by kernel_rfl

open Go.Proofs.Ytdbanhoaolkfdaa.Sat Go.Proofs.Ytdbanhoaolkfdaa.Clock
theorem info : (Try.prog.info? 22).map (fun i => (i.zero, i.size, i.bytes)) = some (some (.int .u64 0), 1, 8) := by kernel_rfl
theorem walk (a0 : Option Addr) (len0 cap0 : Nat) (z0 : List Int) (a1 : Option Addr) (len1 cap1 : Nat) (z1 : List Int) (w : World) (w0 : Ints .u64 w a0 z0) (n0 : z0.length = len0) (m0 : len0 ≤ cap0) (o0 : cap0 ≤ maxLen) (f0 : ∀ x ∈ z0, (Lit.int .u64 x).wf = true) (b0 : cap0 + 1 ≤ 1048576) (w1 : Ints .u64 w a1 z1) (n1 : z1.length = len1) (m1 : len1 ≤ cap1) (o1 : cap1 ≤ maxLen) (f1 : ∀ x ∈ z1, (Lit.int .u64 x).wf = true) (b1 : cap1 + 1 ≤ 1048576) :
    Calls Try.prog 5 #[.slice a0 len0 cap0, .slice a1 len1 cap1] w fun e w' => e = .returned (.bool true) ∧ Below w.heap.size w w' := by
  obtain ⟨i0, hi0, hz0, hz1, hz2⟩ := info_parts info
  subst n0
  subst n1
  have r0 := least_bd z0 f0
  have r1 := least_bd z1 f1
  have M : z0.length + z1.length ≤ maxLen := by unfold maxLen; omega
  have E := Lib.hid (least_append z0 z1)
  have E2 := Lib.hid (show least [least z0, least z1] = min (least z0) (least z1) by show min (min 18446744073709551615 (least z0)) (least z1) = _; omega)
  have hw1 := w1
  clear w1 f0 f1
  go_enter Try.func5, Try.ntmps5
  go_wp2_with (first
    | (go_at_call 9; refine (alive_clock _).mono ?_; rintro e wa ⟨rfl, ha⟩)
    | (at_builtin; refine wpl_append_row _ rfl _ (.tmp 8) _ rfl w.heap.size 22 i0 _ 1 8 Try.underlying27 hi0 hz0 hz1 hz2 rfl (by omega) (.slice none 0 0) 0 [] rfl (World.ownsRow_nil _ _ _ _) a0 z0.length cap0 (z0.map (Value.int .u64)) rfl (by simp) (w0.below ha) (ints_oneCell _ _) (by unfold maxLen; omega) (by omega) ha.size ?_; intro v1 w1 hown1 hg1 hat1; have hb1 : Below w.heap.size w w1 := ha.grown hg1 ha.size (by simp [Value.ownBlock]))
    | (at_builtin; refine wpl_append_row _ rfl (.tmp 9) (.tmp 10) _ rfl w.heap.size 22 i0 _ 1 8 Try.underlying27 hi0 hz0 hz1 hz2 rfl (by omega) v1 (0 + z0.length) ([] ++ z0.map (Value.int .u64)) rfl hown1 a1 z1.length cap1 (z1.map (Value.int .u64)) rfl (by simp) (hw1.below hb1) (ints_oneCell _ _) (by unfold maxLen; omega) (by omega) hb1.size ?_; intro v2 w2 hown2 hg2 hat2; have hb2 : Below w.heap.size w w2 := hb1.grown hg2 hb1.size (own_new (B := w.heap.size) hat1 ha.size (by simp [Value.ownBlock])); obtain ⟨a2, cap2, rfl, R2⟩ := row_of_own Nat.one_pos hown2; clear hown1 hg1 hat1 hown2 hg2 hat2)
    | ((with_reducible refine (first_of a2 _ cap2 (z0 ++ z1) w2 (by simp) (by omega) (.of R2)).mono ?_); rw [E.out]; rintro e w' ⟨rfl, rfl⟩)
    | ((with_reducible refine (first_of a0 _ cap0 z0 w2 rfl (by omega) (w0.below hb2)).mono ?_); rintro e w' ⟨rfl, rfl⟩)
    | ((with_reducible refine (first_of a1 _ cap1 z1 w2 rfl (by omega) (hw1.below hb2)).mono ?_); rintro e w' ⟨rfl, rfl⟩)
    | ((with_reducible refine (first_of (some ⟨w2.heap.size, 0, none⟩) 2 2 [least z0, least z1] (w2.alloc (.cells #[.int .u64 (least z0), .int .u64 (least z1)] 22)) rfl (by decide) (.of (Row.lit w2 _ [.int .u64 (least z0), .int .u64 (least z1)]))).mono ?_); rw [E2.out]; rintro e w' ⟨rfl, rfl⟩))
  go_ret
  exact ⟨by simp, hb2.alloc hb2.size _⟩

set_option maxRecDepth 100000 in
theorem lifted (os : Os) (started : os.Started) (H : Type) (enc : TypeId × Value → H) (F : Stop.Interp) :
    ReturnsInHanded {} Try.checked os 5 .any ((Rows.OpenSpec.upto Rows.clockJoinsSpec).pre6 enc Try.prog Try.f5 Rows.clockJoinsUptoRow.domain false) (((Rows.OpenSpec.upto Rows.clockJoinsSpec).at F).post enc Try.prog Try.f5 false true false false) := by
  refine returnsInHanded_of_cond (C := Try.checked) (s := Rows.OpenSpec.upto Rows.clockJoinsSpec) (k := Rows.uptoSmall) rfl own started (by kernel_rfl) Try.func5
    (OpenSpec.witness (enc := enc) (C := Try.checked) (s := Rows.OpenSpec.upto Rows.clockJoinsSpec) (k := Rows.uptoSmall) rfl false ⟨#[], #[.slice none 0 0, .slice none 0 0], []⟩ 8 (by kernel_rfl) (by kernel_rfl) (by kernel_rfl)
      (x := ([.nil, .nil], [], [])) (by kernel_rfl) rfl (by kernel_rfl)) ?_
  intro W base args ds gs before hval0 hW _ hk _
  have hval : ∀ (j : Nat) t v, Try.f5.params[j]? = some t → args[j]? = some v → Value.okWide Try.prog W .any base t v := hval0
  have hW' := hW
  obtain ⟨p, q, hA0, hV, rfl, hfz, hnd⟩ := hW
  have hA : DataW.TrodAll enc Try.prog W 0 (fun _ => true) true Try.f5.params.toList args.toList ds p := hA0
  rw [Try.params5] at hA hval
  obtain ⟨v0, vs0, d0, ds0, p0, q0, hargs, rfl, rfl, h0, r0⟩ := trodAll_cons hA
  obtain ⟨v1, vs1, d1, ds1, p1, q1, rfl, rfl, rfl, h1, r1⟩ := trodAll_cons r0
  obtain ⟨rfl, rfl, rfl⟩ := trodAll_nil r1
  obtain rfl : args = #[v0, v1] := by cases args; simp_all
  obtain ⟨rfl, rfl⟩ := trodVars_none hV
  have hB := Bulk.bound hk
  obtain ⟨a0, len0, cap0, rfl⟩ := okWide_slice Try.underlying27 (hval 0 27 v0 rfl rfl)
  have k0 := h0
  have lt0 : ∀ x ∈ p0, x.block < W.heap.size := by obtain ⟨m, hm⟩ := k0; exact DataW.trod_lt m _ _ _ hm
  obtain ⟨z0, w0, n0, m0, o0, f0, b0⟩ : ∃ zs, Ints .u64 W a0 zs ∧ zs.length = len0 ∧ len0 ≤ cap0 ∧ cap0 ≤ maxLen ∧ (∀ x ∈ zs, (Lit.int .u64 x).wf = true) ∧ cap0 + 1 ≤ 1048576 := by
    obtain ⟨fuel, hf⟩ := h0
    rcases open_ints Try.underlying27 Try.underlying22 (by kernel_rfl) hf with ⟨hcs, hx⟩ | ⟨x, l, c, zs, hcs, _, hl, hm, hz, hx, hcell, hwz⟩
    · simp [Value.cells] at hcs
      obtain ⟨rfl, rfl, rfl⟩ := hcs
      exact ⟨[], Row.nil _ _, rfl, Nat.le_refl _, Nat.zero_le _, (fun _ h => by cases h), by decide⟩
    · simp [Value.cells] at hcs
      obtain ⟨rfl, rfl, rfl⟩ := hcs
      exact ⟨zs.take len0, ints_of hl (by simpa using hz) hcell, take_len hl (by simpa using hz), hl, hm, (fun x hx => hwz x (List.mem_of_mem_take hx)), by have hd := congrArg Prod.fst hx; dsimp only at hd; have := Bulk.ints (H := H) .u64 zs len0; rw [← hd] at this; have hz2 : zs.length = cap0 := (by simpa using hz); have := Bulk.mem (d := d0) (l := [d0, d1]) (by simp); omega⟩
  obtain ⟨a1, len1, cap1, rfl⟩ := okWide_slice Try.underlying27 (hval 1 27 v1 rfl rfl)
  have k1 := h1
  have lt1 : ∀ x ∈ p1, x.block < W.heap.size := by obtain ⟨m, hm⟩ := k1; exact DataW.trod_lt m _ _ _ hm
  obtain ⟨z1, w1, n1, m1, o1, f1, b1⟩ : ∃ zs, Ints .u64 W a1 zs ∧ zs.length = len1 ∧ len1 ≤ cap1 ∧ cap1 ≤ maxLen ∧ (∀ x ∈ zs, (Lit.int .u64 x).wf = true) ∧ cap1 + 1 ≤ 1048576 := by
    obtain ⟨fuel, hf⟩ := h1
    rcases open_ints Try.underlying27 Try.underlying22 (by kernel_rfl) hf with ⟨hcs, hx⟩ | ⟨x, l, c, zs, hcs, _, hl, hm, hz, hx, hcell, hwz⟩
    · simp [Value.cells] at hcs
      obtain ⟨rfl, rfl, rfl⟩ := hcs
      exact ⟨[], Row.nil _ _, rfl, Nat.le_refl _, Nat.zero_le _, (fun _ h => by cases h), by decide⟩
    · simp [Value.cells] at hcs
      obtain ⟨rfl, rfl, rfl⟩ := hcs
      exact ⟨zs.take len1, ints_of hl (by simpa using hz) hcell, take_len hl (by simpa using hz), hl, hm, (fun x hx => hwz x (List.mem_of_mem_take hx)), by have hd := congrArg Prod.fst hx; dsimp only at hd; have := Bulk.ints (H := H) .u64 zs len1; rw [← hd] at this; have hz2 : zs.length = cap1 := (by simpa using hz); have := Bulk.mem (d := d1) (l := [d0, d1]) (by simp); omega⟩
  clear hA0 hval0
  refine (walk a0 len0 cap0 z0 a1 len1 cap1 z1 W w0 n0 m0 o0 f0 b0 w1 n1 m1 o1 f1 b1).mono fun e W' ⟨he, bel⟩ => ?_
  subst he
  exact ⟨_, rfl, _, _, _, [], _, [], hW', trodAll_mk1 (shut_bool Try.underlying4 _), (trodAll_cons_mk (Below.trod laidOut (by kernel_rfl) (of_decide_eq_true (by kernel_rfl)) k0 bel lt0) (trodAll_cons_mk (Below.trod laidOut (by kernel_rfl) (of_decide_eq_true (by kernel_rfl)) k1 bel lt1) trodAll_mk0)), rfl, bel.frame _, fun h => by cases h⟩

theorem over : Rows.clockJoinsUptoRow.holds Try.pinned (Rows.OpenSpec.upto Rows.clockJoinsSpec) :=
  OpenClaim.holds_of_cond 5 Try.f5 rfl rfl rfl rfl rfl rfl rfl ⟨rfl, rfl, rfl, rfl, rfl⟩ rfl rfl rfl rfl rfl (by kernel_rfl) Try.func5 (by kernel_rfl)
    (of_decide_eq_true (by kernel_rfl)) (by unfold Func.isWrapper; first | (rw [if_pos (by decide +kernel)]; kernel_rfl) | (rw [if_neg (by decide +kernel)]; exact ⟨rfl, rfl⟩))
    (fun os started H enc _ F => lifted os started H enc F)

/-- The given statement. -/
theorem proved : Rows.ClockJoinsUptoSaid :=
  over
#print axioms proved
end Go.Proofs.Ytdbanhoaolkfdaa.clockJoins
