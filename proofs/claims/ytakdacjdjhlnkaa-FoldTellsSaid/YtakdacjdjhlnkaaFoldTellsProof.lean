/-
  The sums of all beginnings of any nonces and any coins are as the document defines them. No conditions.
-/
import Derived.Test.YtakdacjdjhlnkaaBools
import Derived.SizedLaws
import Derived.Test.YtakdacjdjhlnkaaRows
import Derived.Test.YtakdacjdjhlnkaaRow
import Derived.WalkKit
import Derived.ProofKit
import Derived.OpenShut
import Derived.ShutString
import Derived.ChangeOld
import Derived.Below
import Derived.Test.YtakdacjdjhlnkaaFoldAlive
namespace Go.Proofs.Ytakdacjdjhlnkaa.foldTells
open Go.ChangeShapes Go.WideShapes Go.ChangeAt Go.RowKit
open Go.ChangeMaps (open_string shut_string)
open Go.Proofs.Ytakdacjdjhlnkaa.Base
set_option linter.unusedVariables false

theorem own : ownKnob Try.prog.godebug = none := by kernel_rfl
theorem laidOut : laidOutB Try.prog = true := by kernel_rfl

open Go.Proofs.Ytakdacjdjhlnkaa.Fold Go.Proofs.Ytakdacjdjhlnkaa.FoldPlain
theorem walk (a0 : Option Addr) (len0 cap0 : Nat) (z0 : List Int) (a1 : Option Addr) (len1 cap1 : Nat) (z1 : List Bool) (w : World) (w0 : Ints .u64 w a0 z0) (n0 : z0.length = len0) (m0 : len0 ≤ cap0) (o0 : cap0 ≤ maxLen) (f0 : ∀ x ∈ z0, (Lit.int .u64 x).wf = true) (b0 : cap0 * 8 ≤ 140737488351232) (e0 : a0 = none → len0 = 0 ∧ cap0 = 0) (w1 : Bools w a1 z1) (n1 : z1.length = len1) (m1 : len1 ≤ cap1) (o1 : cap1 ≤ maxLen) (b1 : cap1 * 1 ≤ 140737488351232) (e1 : a1 = none → len1 = 0 ∧ cap1 = 0) :
    Calls Try.prog 3 #[.slice a0 len0 cap0, .slice a1 len1 cap1] w fun e w' => e = .returned (.bool true) ∧ Below w.heap.size w w' := by
  subst n0
  subst n1
  have hw : W64 z0 := fun x hx => Base.u64_of (f0 x hx)
  have C1 := fun W hz => odds_any a1 z1.length cap1 z1 W rfl m1 (by omega) hz
  have C2 := fun W hz => ref_odds a1 z1.length cap1 z1 W rfl (by omega) hz
  have C3 := fun W hz => xors_any a0 z0.length cap0 z0 W rfl m0 (by omega) hw hz
  have C4 := fun W hz => ref_xors a0 z0.length cap0 z0 W rfl (by omega) hw hz
  have hlo : (odds z1).length = z1.length + 1 := opre_len _ _
  have hls : (sums z0).length = z0.length + 1 := pre_len _ _
  have C5 := fun a b c d W h1 h2 => ref_same a b (z0.length + 1) c d (sums z0) W hls (by omega) h1 h2
  generalize sums z0 = S at *
  generalize odds z1 = O at *
  have hb1 : (z1.length : Int) ≤ 140737488351232 := by omega
  have hlO := Lib.hid hlo
  clear hlo hls hw f0
  go_enter Try.func3, Try.ntmps3
  go_wp2_with (first
    | (go_at_call 7; refine (alive_fold w).mono ?_; rintro e wa ⟨rfl, ha⟩)
    | (go_at_call 8; refine (C1 _ (w1.below ha)).mono ?_; rintro e x1 ⟨a2, c2, rfl, h1, h2, h3, R1, L1⟩; have M1 := Base.next ha L1; clear C1)
    | (go_at_call 9; refine (C2 _ (w1.below M1)).mono ?_; rintro e x2 ⟨a3, c3, rfl, k1, k2, k3, R2, L2⟩; have M2 := Base.next M1 L2; have R1b := R1.row.below L2; clear C2))
  go_loopw [21] (fun i wr => ∃ k : Nat, k ≤ z1.length + 1 ∧ i = .int .i64 k ∧ Below x2.heap.size x2 wr) (fun i _ => z1.length + 1 - (intOf i).toNat)
  case atStart => exact ⟨0, Nat.zero_le _, rfl, Below.refl _ _⟩
  case round =>
    obtain ⟨k, hk, rfl, hL⟩ := hrel
    by_cases hlt : k < z1.length + 1
    · obtain ⟨b1, off1, rfl, hb1', d0⟩ := Bools.at_ (bs := O) (R1b.below hL) (i := k) (by rw [hlO.out]; exact hlt)
      obtain ⟨b2, off2, rfl, hb2', d1⟩ := Bools.at_ (bs := O) (R2.row.below hL) (i := k) (by rw [hlO.out]; exact hlt)
      have hkI : (k : Int) < (z1.length : Int) + 1 := by omega
      generalize O.getD k false = y at *
      go_wp2
      go_quiet (fail)
      go_wp2
      go_roundw
      case rel => exact ⟨k + 1, by omega, by go_num, Base.drawn hL _⟩
      case measure => simp [intOf]; omega
    · obtain rfl : k = z1.length + 1 := by omega
      have M3 := Base.next M2 hL
      go_wp2_with (first
        | (go_at_call 11; refine (C3 _ (w0.below M3)).mono ?_; rintro e x3 ⟨a4, c4, rfl, p1, p2, p3, R4, L4⟩; have M4 := Base.next M3 L4; clear C3)
        | (go_at_call 12; refine (C4 _ (w0.below M4)).mono ?_; rintro e x4 ⟨a5, c5, rfl, q1, q2, q3, R5, L5⟩; have M5 := Base.next M4 L5; have R4b := R4.row.below L5; clear C4)
        | (go_at_call 10; refine (C5 a4 a5 c4 c5 _ R4b R5.row).mono ?_; rintro e x5 ⟨rfl, L6⟩; have M6 := Base.next M5 L6))
      all_goals go_ret
      all_goals exact ⟨rfl, M6⟩

set_option maxRecDepth 100000 in
theorem lifted (os : Os) (started : os.Started) (H : Type) (enc : TypeId × Value → H) :
    ReturnsInHanded {} Try.checked os 3 .any (Rows.foldTellsSpec.pre6 enc Try.prog Try.f3 Rows.foldTellsRow.domain false) (Rows.foldTellsSpec.post enc Try.prog Try.f3 false true false false) := by
  refine returnsInHanded_of_change_sized (C := Try.checked) own started (by kernel_rfl) Try.func3
    (ChangeSpec.witness6 (enc := enc) (C := Try.checked) false ⟨#[], #[.slice none 0 0, .slice none 0 0], []⟩ 8 (by kernel_rfl) (by kernel_rfl) (by kernel_rfl) (by kernel_rfl)) ?_
  intro W base args ds gs before hval0 hW hcnd hsz0 _
  have hval : ∀ (j : Nat) t v, Try.f3.params[j]? = some t → args[j]? = some v → Value.okWide Try.prog W .any base t v := hval0
  have hW' := hW
  obtain ⟨p, q, hA0, hV, rfl, hfz, hnd⟩ := hW
  have hA : DataW.TrodAll enc Try.prog W 0 (fun _ => true) true Try.f3.params.toList args.toList ds p := hA0
  rw [Try.params3] at hA hval
  obtain ⟨v0, vs0, d0, ds0, p0, q0, hargs, rfl, rfl, h0, r0⟩ := trodAll_cons hA
  obtain ⟨v1, vs1, d1, ds1, p1, q1, rfl, rfl, rfl, h1, r1⟩ := trodAll_cons r0
  obtain ⟨rfl, rfl, rfl⟩ := trodAll_nil r1
  obtain rfl : args = #[v0, v1] := by cases args; simp_all
  obtain ⟨rfl, rfl⟩ := trodVars_none hV
  have hsz : (DataW.weightsEach Try.prog [22, 23] [d0, d1]).all (· ≤ reachBytes) = true := hsz0
  obtain ⟨a0, len0, cap0, rfl⟩ := okWide_slice Try.underlying22 (hval 0 22 v0 rfl rfl)
  have k0 := h0
  have lt0 : ∀ x ∈ p0, x.block < W.heap.size := by obtain ⟨m, hm⟩ := k0; exact DataW.trod_lt m _ _ _ hm
  obtain ⟨z0, w0, n0, m0, o0, f0, b0, e0⟩ : ∃ zs, Ints .u64 W a0 zs ∧ zs.length = len0 ∧ len0 ≤ cap0 ∧ cap0 ≤ maxLen ∧ (∀ x ∈ zs, (Lit.int .u64 x).wf = true) ∧ cap0 * 8 ≤ 140737488351232 ∧ (a0 = none → len0 = 0 ∧ cap0 = 0) := by
    obtain ⟨fuel, hf⟩ := h0
    rcases open_ints Try.underlying22 Try.underlying29 (by kernel_rfl) hf with ⟨hcs, hx⟩ | ⟨x, l, c, zs, hcs, _, hl, hm, hz, hx, hcell, hwz⟩
    · simp [Value.cells] at hcs
      obtain ⟨rfl, rfl, rfl⟩ := hcs
      exact ⟨[], Row.nil _ _, rfl, Nat.le_refl _, Nat.zero_le _, (fun _ h => by cases h), by decide, fun _ => ⟨rfl, rfl⟩⟩
    · simp [Value.cells] at hcs
      obtain ⟨rfl, rfl, rfl⟩ := hcs
      exact ⟨zs.take len0, ints_of hl (by simpa using hz) hcell, take_len hl (by simpa using hz), hl, hm, (fun x hx => hwz x (List.mem_of_mem_take hx)), by
          have hd := congrArg Prod.fst hx
          dsimp only at hd
          have := sized_slice hsz (j := 0) (t := 22) (e := 29) (elems := lits .u64 (zs.take len0)) (spare := lits .u64 (zs.drop len0)) rfl (by rw [← hd]; rfl) Try.underlying22
          rw [show Try.prog.bytesOf 29 = 8 by kernel_rfl] at this
          simp only [lits, List.length_map, List.length_take, List.length_drop, reachBytes] at this
          have hz2 : zs.length = cap0 := (by simpa using hz)
          omega, fun e => by cases e⟩
  obtain ⟨a1, len1, cap1, rfl⟩ := okWide_slice Try.underlying23 (hval 1 23 v1 rfl rfl)
  have k1 := h1
  have lt1 : ∀ x ∈ p1, x.block < W.heap.size := by obtain ⟨m, hm⟩ := k1; exact DataW.trod_lt m _ _ _ hm
  obtain ⟨z1, w1, n1, m1, o1, b1, e1⟩ : ∃ zs, Bools W a1 zs ∧ zs.length = len1 ∧ len1 ≤ cap1 ∧ cap1 ≤ maxLen ∧ cap1 * 1 ≤ 140737488351232 ∧ (a1 = none → len1 = 0 ∧ cap1 = 0) := by
    obtain ⟨fuel, hf⟩ := h1
    rcases open_bools Try.underlying23 Try.underlying4 (by kernel_rfl) hf with ⟨hcs, hx⟩ | ⟨x, l, c, zs, E, S, hcs, hl, hm, hz, hx, hE, hS, hsp⟩
    · simp [Value.cells] at hcs
      obtain ⟨rfl, rfl, rfl⟩ := hcs
      exact ⟨[], Bools.nil _ _, rfl, Nat.le_refl _, Nat.zero_le _, by decide, fun _ => ⟨rfl, rfl⟩⟩
    · simp [Value.cells] at hcs
      obtain ⟨rfl, rfl, rfl⟩ := hcs
      exact ⟨zs, hsp, hz, hl, hm, by
        have hd : d1 = .slice E S := by simpa using hx
        have := sized_slice hsz (j := 1) (t := 23) (e := 4) (elems := E) (spare := S) rfl (by rw [← hd]; rfl) Try.underlying23
        rw [show Try.prog.bytesOf 4 = 1 by kernel_rfl, hE, hS] at this
        simp only [reachBytes] at this
        omega, fun e => by cases e⟩
  clear hA0 hval0
  refine (walk a0 len0 cap0 z0 a1 len1 cap1 z1 W w0 n0 m0 o0 f0 b0 e0 w1 n1 m1 o1 b1 e1).mono fun e W' ⟨he, bel⟩ => ?_
  subst he
  exact ⟨_, rfl, _, _, _, [], _, [], hW', trodAll_mk1 (shut_bool Try.underlying4 _), (trodAll_cons_mk (Below.trod laidOut (by kernel_rfl) (of_decide_eq_true (by kernel_rfl)) k0 bel lt0) (trodAll_cons_mk (Below.trod laidOut (by kernel_rfl) (of_decide_eq_true (by kernel_rfl)) k1 bel lt1) trodAll_mk0)), rfl, bel.frame _, fun h => by cases h⟩

theorem over : Rows.foldTellsRow.holds Try.pinned (OpenSpec.ofChange Rows.foldTellsSpec) :=
  OpenClaim.holds_of_wide 3 Try.f3 rfl rfl rfl rfl rfl rfl rfl ⟨rfl, rfl, rfl, rfl, rfl⟩ rfl rfl rfl rfl rfl (by kernel_rfl) Try.func3 (by kernel_rfl)
    (of_decide_eq_true (by kernel_rfl)) (by unfold Func.isWrapper; first | (rw [if_pos (by decide +kernel)]; kernel_rfl) | (rw [if_neg (by decide +kernel)]; exact ⟨rfl, rfl⟩))
    (fun os started H enc _ => lifted os started H enc)

/-- The given statement. -/
theorem proved : Rows.FoldTellsSaid :=
  over
#print axioms proved
end Go.Proofs.Ytakdacjdjhlnkaa.foldTells
