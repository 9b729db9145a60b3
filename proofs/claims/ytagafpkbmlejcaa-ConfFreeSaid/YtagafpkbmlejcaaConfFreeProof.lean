/-
  The greatest number may be any, and how seldom one is skipped any but one in one, whatever the other fields. No conditions.
-/
import Derived.Test.YtagafpkbmlejcaaRows
import Derived.Test.YtagafpkbmlejcaaRow
import Derived.WalkKit
import Derived.ProofKit
import Derived.OpenShut
import Derived.ShutString
import Derived.ChangeOld
import Derived.Below
import Derived.Test.YtagafpkbmlejcaaConfAlive
namespace Go.Proofs.Ytagafpkbmlejcaa.confFree
open Go.ChangeShapes Go.WideShapes Go.ChangeAt Go.RowKit
open Go.ChangeMaps (open_string shut_string)
open Go.Proofs.Ytagafpkbmlejcaa.Base
set_option linter.unusedVariables false

theorem own : ownKnob Try.prog.godebug = none := by kernel_rfl
theorem laidOut : laidOutB Try.prog = true := by kernel_rfl

open Go.Proofs.Ytagafpkbmlejcaa.Conf Go.Proofs.Ytagafpkbmlejcaa.ConfPlain
theorem free_check {c : C} (h : Made c) {o l v : Int} (hv : (if o = 1 then (2 : Int) else 0) = v) (o0 : 0 ≤ o) (o1 : o ≤ 18446744073709551615) (l0 : 0 ≤ l) (l1 : l ≤ 4611686018427387903) (W : World) : Calls Try.prog 9 #[.agg #[.int .i64 c.bits, .int .u64 o, .int .i64 c.ring, .int .u64 l, .int .i64 c.room, .int .u64 c.mss, .int .u64 c.initial, .int .u64 c.least, .int .u64 c.most, .int .i64 c.algo, .int .u64 c.first, .int .u64 c.grain, .int .u64 c.cap, .int .u64 c.burst, .int .u64 c.slowest, .int .i64 c.chal, .int .u64 c.every]] W fun e w' => e = .returned (.int .i64 v) ∧ Below W.heap.size W w' := by
  have := check_any { c with one := o, limit := l } W (made_rng h o0 o1 l0 l1)
  rw [pos_made h l1, hv] at this
  exact this
theorem free_may {c : C} (h : Made c) {o l v : Int} (hv : (if o = 1 then (2 : Int) else 0) = v) (o0 : 0 ≤ o) (o1 : o ≤ 18446744073709551615) (l0 : 0 ≤ l) (l1 : l ≤ 4611686018427387903) (W : World) : Calls Try.prog 10 #[.agg #[.int .i64 c.bits, .int .u64 o, .int .i64 c.ring, .int .u64 l, .int .i64 c.room, .int .u64 c.mss, .int .u64 c.initial, .int .u64 c.least, .int .u64 c.most, .int .i64 c.algo, .int .u64 c.first, .int .u64 c.grain, .int .u64 c.cap, .int .u64 c.burst, .int .u64 c.slowest, .int .i64 c.chal, .int .u64 c.every]] W fun e w' => e = .returned (.bool (v == 0)) ∧ Below W.heap.size W w' := by
  have := may_any { c with one := o, limit := l } W (made_rng h o0 o1 l0 l1)
  rw [pos_made h l1, hv] at this
  exact this
theorem and_max {n : Int} (h0 : 0 ≤ n) (h1 : n ≤ 18446744073709551615) : bits .and .u64 n 4611686018427387903 = n % 4611686018427387904 := by
  obtain ⟨k, rfl⟩ := Int.eq_ofNat_of_zero_le h0
  have := bits_and_u64_nat k 4611686018427387903 (by omega) (by decide)
  have h2 : k &&& 4611686018427387903 = k % 4611686018427387904 := Nat.and_two_pow_sub_one_eq_mod k 62
  rw [h2] at this
  simpa using this
set_option maxHeartbeats 1000000 in
theorem walk (a0 : Option Addr) (len0 cap0 : Nat) (z0 : List Int) (a1 : Int) (a2 : Int) (w : World) (w0 : Ints .u32 w a0 z0) (n0 : z0.length = len0) (m0 : len0 ≤ cap0) (o0 : cap0 ≤ maxLen) (f0 : ∀ x ∈ z0, (Lit.int .u32 x).wf = true) (w1 : (Lit.int .u64 a1).wf = true) (w2 : (Lit.int .u64 a2).wf = true) :
    Calls Try.prog 6 #[.slice a0 len0 cap0, .int .u64 a1, .int .u64 a2] w fun e w' => e = .returned (.bool true) ∧ Below w.heap.size w w' := by
  obtain ⟨p0, p1⟩ := Base.u64_of w1
  obtain ⟨q0, q1⟩ := Base.u64_of w2
  subst n0
  have hb0 : ∀ x ∈ z0, 0 ≤ x ∧ x ≤ 4294967295 := fun x hx => Base.u32_of (f0 x hx)
  have CF := fun W hz => conf_any a0 z0.length cap0 z0 W rfl (by omega) hb0 hz
  clear f0 hb0
  have hl := and_max p0 p1
  have l0 : 0 ≤ a1 % 4611686018427387904 := by omega
  have l1 : a1 % 4611686018427387904 ≤ 4611686018427387903 := by omega
  generalize a1 % 4611686018427387904 = l at l0 l1 hl
  by_cases h1 : a2 = 1
  · subst h1
    go_enter Try.func6, Try.ntmps6
    go_wp2_with (first
      | (go_at_call 7; refine (alive_conf w).mono ?_; rintro e u1 ⟨rfl, L1⟩; have z1 := w0.below L1)
      | (go_at_call 11; refine (CF u1 z1).mono ?_; rintro e u2 ⟨c, rfl, hc, L2⟩; have M2 := Base.next L1 L2; have CC := fun W => free_check hc (if_pos (rfl : (1 : Int) = 1)) q0 q1 l0 l1 W; have CM := fun W => free_may hc (if_pos (rfl : (1 : Int) = 1)) q0 q1 l0 l1 W; clear CF; have hB2 := Blk.new u2 #[.int .i64 c.bits, .int .u64 1, .int .i64 c.ring, .int .u64 l, .int .i64 c.room, .int .u64 c.mss, .int .u64 c.initial, .int .u64 c.least, .int .u64 c.most, .int .i64 c.algo, .int .u64 c.first, .int .u64 c.grain, .int .u64 c.cap, .int .u64 c.burst, .int .u64 c.slowest, .int .i64 c.chal, .int .u64 c.every] 24; have M2b := M2.alloc M2.size (.cells #[.int .i64 c.bits, .int .u64 1, .int .i64 c.ring, .int .u64 l, .int .i64 c.room, .int .u64 c.mss, .int .u64 c.initial, .int .u64 c.least, .int .u64 c.most, .int .i64 c.algo, .int .u64 c.first, .int .u64 c.grain, .int .u64 c.cap, .int .u64 c.burst, .int .u64 c.slowest, .int .i64 c.chal, .int .u64 c.every] 24))
      | (go_at_call 10; refine (CM _).mono ?_; rintro e u3 ⟨rfl, L3⟩; have M3 := Base.next M2b L3; have hB3 := hB2.below L3 hB2.lt; clear CM hB2)
      | (go_at_call 9; refine (CC u3).mono ?_; rintro e u4 ⟨rfl, L4⟩; have M4 := Base.next M3 L4; clear CC)
      | (refine wpl_load_row (by rfl) 24 (.tmp 7) rfl u2.heap.size rfl 24 _ (0, 0) _ hB2 Try.underlying24 rfl (by kernel_rfl) ?_) | (refine wpl_load_row (by rfl) 24 (.tmp 7) rfl u2.heap.size rfl 24 _ (0, 0) _ hB3 Try.underlying24 rfl (by kernel_rfl) ?_))
    all_goals go_ret
    all_goals exact ⟨rfl, M4⟩
  · go_enter Try.func6, Try.ntmps6
    go_wp2_with (first
      | (go_at_call 7; refine (alive_conf w).mono ?_; rintro e u1 ⟨rfl, L1⟩; have z1 := w0.below L1)
      | (go_at_call 11; refine (CF u1 z1).mono ?_; rintro e u2 ⟨c, rfl, hc, L2⟩; have M2 := Base.next L1 L2; have CC := fun W => free_check hc (if_neg h1) q0 q1 l0 l1 W; have CM := fun W => free_may hc (if_neg h1) q0 q1 l0 l1 W; clear CF; have hB2 := Blk.new u2 #[.int .i64 c.bits, .int .u64 a2, .int .i64 c.ring, .int .u64 l, .int .i64 c.room, .int .u64 c.mss, .int .u64 c.initial, .int .u64 c.least, .int .u64 c.most, .int .i64 c.algo, .int .u64 c.first, .int .u64 c.grain, .int .u64 c.cap, .int .u64 c.burst, .int .u64 c.slowest, .int .i64 c.chal, .int .u64 c.every] 24; have M2b := M2.alloc M2.size (.cells #[.int .i64 c.bits, .int .u64 a2, .int .i64 c.ring, .int .u64 l, .int .i64 c.room, .int .u64 c.mss, .int .u64 c.initial, .int .u64 c.least, .int .u64 c.most, .int .i64 c.algo, .int .u64 c.first, .int .u64 c.grain, .int .u64 c.cap, .int .u64 c.burst, .int .u64 c.slowest, .int .i64 c.chal, .int .u64 c.every] 24))
      | (go_at_call 10; refine (CM _).mono ?_; rintro e u3 ⟨rfl, L3⟩; have M3 := Base.next M2b L3; have hB3 := hB2.below L3 hB2.lt; clear CM hB2)
      | (go_at_call 9; refine (CC u3).mono ?_; rintro e u4 ⟨rfl, L4⟩; have M4 := Base.next M3 L4; clear CC)
      | (refine wpl_load_row (by rfl) 24 (.tmp 7) rfl u2.heap.size rfl 24 _ (0, 0) _ hB2 Try.underlying24 rfl (by kernel_rfl) ?_) | (refine wpl_load_row (by rfl) 24 (.tmp 7) rfl u2.heap.size rfl 24 _ (0, 0) _ hB3 Try.underlying24 rfl (by kernel_rfl) ?_))
    all_goals go_ret
    all_goals exact ⟨by simp [h1], M3⟩

set_option maxRecDepth 100000 in
theorem lifted (os : Os) (started : os.Started) (H : Type) (enc : TypeId × Value → H) :
    ReturnsInHanded {} Try.checked os 6 .any (Rows.confFreeSpec.pre6 enc Try.prog Try.f6 Rows.confFreeRow.domain false) (Rows.confFreeSpec.post enc Try.prog Try.f6 false true false false) := by
  refine returnsInHanded_of_change (C := Try.checked) own started (by kernel_rfl) Try.func6
    (ChangeSpec.witness6 (enc := enc) (C := Try.checked) false ⟨#[], #[.slice none 0 0, .int .u64 0, .int .u64 0], []⟩ 8 (by kernel_rfl) (by kernel_rfl) (by kernel_rfl) (by kernel_rfl)) ?_
  intro W base args ds gs before hval0 hW hcnd _
  have hval : ∀ (j : Nat) t v, Try.f6.params[j]? = some t → args[j]? = some v → Value.okWide Try.prog W .any base t v := hval0
  have hW' := hW
  obtain ⟨p, q, hA0, hV, rfl, hfz, hnd⟩ := hW
  have hA : DataW.TrodAll enc Try.prog W 0 (fun _ => true) true Try.f6.params.toList args.toList ds p := hA0
  rw [Try.params6] at hA hval
  obtain ⟨v0, vs0, d0, ds0, p0, q0, hargs, rfl, rfl, h0, r0⟩ := trodAll_cons hA
  obtain ⟨v1, vs1, d1, ds1, p1, q1, rfl, rfl, rfl, h1, r1⟩ := trodAll_cons r0
  obtain ⟨v2, vs2, d2, ds2, p2, q2, rfl, rfl, rfl, h2, r2⟩ := trodAll_cons r1
  obtain ⟨rfl, rfl, rfl⟩ := trodAll_nil r2
  obtain rfl : args = #[v0, v1, v2] := by cases args; simp_all
  obtain ⟨rfl, rfl⟩ := trodVars_none hV
  obtain ⟨a0, len0, cap0, rfl⟩ := okWide_slice Try.underlying28 (hval 0 28 v0 rfl rfl)
  have k0 := h0
  have lt0 : ∀ x ∈ p0, x.block < W.heap.size := by obtain ⟨m, hm⟩ := k0; exact DataW.trod_lt m _ _ _ hm
  obtain ⟨z0, w0, n0, m0, o0, f0⟩ : ∃ zs, Ints .u32 W a0 zs ∧ zs.length = len0 ∧ len0 ≤ cap0 ∧ cap0 ≤ maxLen ∧ (∀ x ∈ zs, (Lit.int .u32 x).wf = true) := by
    obtain ⟨fuel, hf⟩ := h0
    rcases open_ints Try.underlying28 Try.underlying42 (by kernel_rfl) hf with ⟨hcs, hx⟩ | ⟨x, l, c, zs, hcs, _, hl, hm, hz, hx, hcell, hwz⟩
    · simp [Value.cells] at hcs
      obtain ⟨rfl, rfl, rfl⟩ := hcs
      exact ⟨[], Row.nil _ _, rfl, Nat.le_refl _, Nat.zero_le _, (fun _ h => by cases h)⟩
    · simp [Value.cells] at hcs
      obtain ⟨rfl, rfl, rfl⟩ := hcs
      exact ⟨zs.take len0, ints_of hl (by simpa using hz) hcell, take_len hl (by simpa using hz), hl, hm, (fun x hx => hwz x (List.mem_of_mem_take hx))⟩
  obtain ⟨a1, rfl, rfl, rfl, w1⟩ := open_int Try.underlying22 (hval 1 22 v1 rfl rfl) h1
  obtain ⟨a2, rfl, rfl, rfl, w2⟩ := open_int Try.underlying22 (hval 2 22 v2 rfl rfl) h2
  clear hA0 hval0
  refine (walk a0 len0 cap0 z0 a1 a2 W w0 n0 m0 o0 f0 w1 w2).mono fun e W' ⟨he, bel⟩ => ?_
  subst he
  exact ⟨_, rfl, _, _, _, [], _, [], hW', trodAll_mk1 (shut_bool Try.underlying4 _), (trodAll_cons_mk (Below.trod laidOut (by kernel_rfl) (of_decide_eq_true (by kernel_rfl)) k0 bel lt0) (trodAll_cons_mk (shut_int Try.underlying22 w1) (trodAll_cons_mk (shut_int Try.underlying22 w2) trodAll_mk0))), rfl, bel.frame _, fun h => by cases h⟩

theorem over : Rows.confFreeRow.holds Try.pinned (OpenSpec.ofChange Rows.confFreeSpec) :=
  OpenClaim.holds_of_wide 6 Try.f6 rfl rfl rfl rfl rfl rfl rfl ⟨rfl, rfl, rfl, rfl, rfl⟩ rfl rfl rfl rfl rfl (by kernel_rfl) Try.func6 (by kernel_rfl)
    (of_decide_eq_true (by kernel_rfl)) (by unfold Func.isWrapper; first | (rw [if_pos (by decide +kernel)]; kernel_rfl) | (rw [if_neg (by decide +kernel)]; exact ⟨rfl, rfl⟩))
    (fun os started H enc _ => lifted os started H enc)

/-- The given statement. -/
theorem proved : Rows.ConfFreeSaid :=
  over
#print axioms proved
end Go.Proofs.Ytagafpkbmlejcaa.confFree
