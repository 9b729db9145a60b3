/-
  Of any words a source returns what the reference's source returns, and behind them, and counts alike. No conditions.
-/
import Derived.SizedLaws
import Derived.Test.YtffdpamhflhfpaaRows
import Derived.Test.YtffdpamhflhfpaaRow
import Derived.WalkKit
import Derived.ProofKit
import Derived.OpenShut
import Derived.ShutString
import Derived.ChangeOld
import Derived.Below
import Derived.Test.YtffdpamhflhfpaaDraw
namespace Go.Proofs.Ytffdpamhflhfpaa.drawNext
open Go.ChangeShapes Go.WideShapes Go.ChangeAt Go.RowKit
open Go.ChangeMaps (open_string shut_string)
open Go.Proofs.Ytffdpamhflhfpaa.Base
set_option linter.unusedVariables false

theorem own : ownKnob Try.prog.godebug = none := by kernel_rfl
theorem laidOut : laidOutB Try.prog = true := by kernel_rfl

open Go.Proofs.Ytffdpamhflhfpaa.Draw Go.Proofs.Ytffdpamhflhfpaa.DrawPlain
theorem walk (a0 : Option Addr) (len0 cap0 : Nat) (z0 : List Int) (a1 : Int) (w : World) (w0 : Ints .u64 w a0 z0) (n0 : z0.length = len0) (m0 : len0 ≤ cap0) (o0 : cap0 ≤ maxLen) (f0 : ∀ x ∈ z0, (Lit.int .u64 x).wf = true) (b0 : cap0 * 8 ≤ 140737488351232) (e0 : a0 = none → len0 = 0 ∧ cap0 = 0) (w1 : (Lit.int .u8 a1).wf = true) :
    Calls Try.prog 5 #[.slice a0 len0 cap0, .int .u8 a1] w fun e w' => e = .returned (.bool true) ∧ Below w.heap.size w w' := by
  obtain ⟨q0, q1⟩ := Base.u8_of w1
  clear w1
  go_enter Try.func5, Try.ntmps5
  go_wp2_with (first
    | (go_at_call 12; refine (new_any a0 len0 cap0 z0 w n0 m0 (by omega) e0 w0).mono ?_; rintro e w1 ⟨b, rfl, hs1, hb1⟩)
    | (go_at_call 9; refine (alive_draw _).mono ?_; rintro e wa ⟨rfl, ha⟩))
  subst n0
  have hS1 : b < w1.heap.size := hs1.1.2
  have hSb : w.heap.size ≤ b := hs1.1.1
  have haw := ha.size
  have hbw := hb1.size
  have hw : Below w.heap.size w wa := hb1.trans (ha.mono hb1.size)
  have hR0 := Row.in_ w0
  have hs0 : Src (fun k => w.heap.size ≤ k ∧ k < w1.heap.size) (wa.alloc (.cells #[.slice a0 z0.length cap0, .int .i64 0] 31)) b z0 0 := (hs1.below ha (fun k hk => hk.2)).below ((Below.refl wa.heap.size wa).alloc (Nat.le_refl _) _) (fun k hk => Nat.lt_of_lt_of_le hk.2 haw)
  have hB0 := Blk.new wa #[.slice a0 z0.length cap0, .int .i64 0] 31
  have hL0 : Below w.heap.size w (wa.alloc (.cells #[.slice a0 z0.length cap0, .int .i64 0] 31)) := hw.alloc hw.size _
  generalize hr : wa.heap.size = rb at haw hB0
  have hM : z0.length ≤ maxLen := by omega
  go_loopw [7] (fun i wr => ∃ k : Nat, (k : Int) ≤ a1 ∧ i = .int .i64 k ∧ Src (fun k => w.heap.size ≤ k ∧ k < w1.heap.size) wr b (z0.drop k) k ∧ Blk wr rb #[.slice a0 z0.length cap0, .int .i64 k] 31 ∧ Below w.heap.size w wr)
    (fun i _ => a1.toNat - (intOf i).toNat)
  case atStart => exact ⟨0, q0, rfl, hs0, hB0, hL0⟩
  case round =>
    obtain ⟨k, hk, rfl, hs, hB, hL⟩ := hrel
    clear hs0 hB0 hL0 hs1 hb1 ha hw w0
    have hrow : ∀ w2, Below w.heap.size w w2 → RowIn (fun k => k ≠ rb) w2 a0 (z0.map (.int .u64)) := fun w2 h2 => (hR0.below h2 fun k hk => hk).mono fun k _ hk => by omega
    have hf : ∀ {w2}, Fr (fun k => k = b) wr w2 → Below w.heap.size w w2 := fun h2 => h2.below hL hL.size (by rintro i rfl; exact hSb)
    by_cases hlt : (k : Int) < a1
    · generalize hx : (z0.drop k).headD (mix k) = x
      have n1 := next_any hs (by omega)
      rw [hx, List.tail_drop] at n1
      have n2 := fun {w2} (h2 : Fr (fun k => k = b) wr w2) => ref_next (w := w2) (hB.kept h2 (by omega)) (by omega) hM (hrow w2 (hf h2))
      rw [hx] at n2
      clear hx hs hB hrow hR0
      go_wp2_with (first
        | (go_at_call 13; refine n1.mono ?_; rintro e w2 ⟨rfl, hs2, hf2⟩)
        | (go_at_call 14; refine (n2 hf2).mono ?_; rintro e w3 ⟨rfl, hB3, hf3⟩))
      all_goals go_roundw
      case rel => exact ⟨k + 1, by omega, by go_num, hs2.kept hf3 (fun i hi => by omega), hB3, (hf3.mono (T := fun i => w.heap.size ≤ i) (fun i _ hi => by omega)).below (hf hf2) (hf hf2).size (fun _ h => h)⟩
      case measure => simp [intOf]; omega
    · have hs' := taken_any hs.drew
      clear hrow hR0
      have cB : wr.cell? ⟨rb, 1, none⟩ = some (.int .i64 k) := hB.cell 1
      go_wp2
      all_goals go_region_with (go_at_call 15; refine hs'.mono ?_; rintro e w2 ⟨rfl, rfl⟩)
      all_goals go_wp2
      all_goals go_ret
      all_goals exact ⟨rfl, hL.drew⟩

set_option maxRecDepth 100000 in
theorem lifted (os : Os) (started : os.Started) (H : Type) (enc : TypeId × Value → H) :
    ReturnsInHanded {} Try.checked os 5 .any (Rows.drawNextSpec.pre6 enc Try.prog Try.f5 Rows.drawNextRow.domain false) (Rows.drawNextSpec.post enc Try.prog Try.f5 false true false false) := by
  refine returnsInHanded_of_change_sized (C := Try.checked) own started (by kernel_rfl) Try.func5
    (ChangeSpec.witness6 (enc := enc) (C := Try.checked) false ⟨#[], #[.slice none 0 0, .int .u8 0], []⟩ 8 (by kernel_rfl) (by kernel_rfl) (by kernel_rfl) (by kernel_rfl)) ?_
  intro W base args ds gs before hval0 hW hcnd hsz0 _
  have hval : ∀ (j : Nat) t v, Try.f5.params[j]? = some t → args[j]? = some v → Value.okWide Try.prog W .any base t v := hval0
  have hW' := hW
  obtain ⟨p, q, hA0, hV, rfl, hfz, hnd⟩ := hW
  have hA : DataW.TrodAll enc Try.prog W 0 (fun _ => true) true Try.f5.params.toList args.toList ds p := hA0
  rw [Try.params5] at hA hval
  obtain ⟨v0, vs0, d0, ds0, p0, q0, hargs, rfl, rfl, h0, r0⟩ := trodAll_cons hA
  obtain ⟨v1, vs1, d1, ds1, p1, q1, rfl, rfl, rfl, h1, r1⟩ := trodAll_cons r0
  obtain ⟨rfl, rfl, rfl⟩ := trodAll_nil r1
  obtain rfl : args = #[v0, v1] := by cases args; simp_all
  obtain ⟨rfl, rfl⟩ := trodVars_none hV
  have hsz : (DataW.weightsEach Try.prog [27, 5] [d0, d1]).all (· ≤ reachBytes) = true := hsz0
  obtain ⟨a0, len0, cap0, rfl⟩ := okWide_slice Try.underlying27 (hval 0 27 v0 rfl rfl)
  have k0 := h0
  have lt0 : ∀ x ∈ p0, x.block < W.heap.size := by obtain ⟨m, hm⟩ := k0; exact DataW.trod_lt m _ _ _ hm
  obtain ⟨z0, w0, n0, m0, o0, f0, b0, e0⟩ : ∃ zs, Ints .u64 W a0 zs ∧ zs.length = len0 ∧ len0 ≤ cap0 ∧ cap0 ≤ maxLen ∧ (∀ x ∈ zs, (Lit.int .u64 x).wf = true) ∧ cap0 * 8 ≤ 140737488351232 ∧ (a0 = none → len0 = 0 ∧ cap0 = 0) := by
    obtain ⟨fuel, hf⟩ := h0
    rcases open_ints Try.underlying27 Try.underlying22 (by kernel_rfl) hf with ⟨hcs, hx⟩ | ⟨x, l, c, zs, hcs, _, hl, hm, hz, hx, hcell, hwz⟩
    · simp [Value.cells] at hcs
      obtain ⟨rfl, rfl, rfl⟩ := hcs
      exact ⟨[], Row.nil _ _, rfl, Nat.le_refl _, Nat.zero_le _, (fun _ h => by cases h), by decide, fun _ => ⟨rfl, rfl⟩⟩
    · simp [Value.cells] at hcs
      obtain ⟨rfl, rfl, rfl⟩ := hcs
      exact ⟨zs.take len0, ints_of hl (by simpa using hz) hcell, take_len hl (by simpa using hz), hl, hm, (fun x hx => hwz x (List.mem_of_mem_take hx)), by
          have hd := congrArg Prod.fst hx
          dsimp only at hd
          have := sized_slice hsz (j := 0) (t := 27) (e := 22) (elems := lits .u64 (zs.take len0)) (spare := lits .u64 (zs.drop len0)) rfl (by rw [← hd]; rfl) Try.underlying27
          rw [show Try.prog.bytesOf 22 = 8 by kernel_rfl] at this
          simp only [lits, List.length_map, List.length_take, List.length_drop, reachBytes] at this
          have hz2 : zs.length = cap0 := (by simpa using hz)
          omega, fun e => by cases e⟩
  obtain ⟨a1, rfl, rfl, rfl, w1⟩ := open_int Try.underlying5 (hval 1 5 v1 rfl rfl) h1
  clear hA0 hval0
  refine (walk a0 len0 cap0 z0 a1 W w0 n0 m0 o0 f0 b0 e0 w1).mono fun e W' ⟨he, bel⟩ => ?_
  subst he
  exact ⟨_, rfl, _, _, _, [], _, [], hW', trodAll_mk1 (shut_bool Try.underlying4 _), (trodAll_cons_mk (Below.trod laidOut (by kernel_rfl) (of_decide_eq_true (by kernel_rfl)) k0 bel lt0) (trodAll_cons_mk (shut_int Try.underlying5 w1) trodAll_mk0)), rfl, bel.frame _, fun h => by cases h⟩

theorem over : Rows.drawNextRow.holds Try.pinned (OpenSpec.ofChange Rows.drawNextSpec) :=
  OpenClaim.holds_of_wide 5 Try.f5 rfl rfl rfl rfl rfl rfl rfl ⟨rfl, rfl, rfl, rfl, rfl⟩ rfl rfl rfl rfl rfl (by kernel_rfl) Try.func5 (by kernel_rfl)
    (of_decide_eq_true (by kernel_rfl)) (by unfold Func.isWrapper; first | (rw [if_pos (by decide +kernel)]; kernel_rfl) | (rw [if_neg (by decide +kernel)]; exact ⟨rfl, rfl⟩))
    (fun os started H enc _ => lifted os started H enc)

/-- The given statement. -/
theorem proved : Rows.DrawNextSaid :=
  over
#print axioms proved
end Go.Proofs.Ytffdpamhflhfpaa.drawNext
