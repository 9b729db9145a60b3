/-
  A configuration that is made of any numbers to fit together may be. No conditions.
-/
import Derived.Test.YtagafpkbmlejcaaRows
import Derived.Test.YtagafpkbmlejcaaRow
import Derived.WalkKit
import Derived.ProofKit
import Derived.OpenShut
import Derived.ShutString
import Derived.ChangeOld
import Derived.Below
import Derived.Test.YtagafpkbmlejcaaConfAlive
namespace Go.Proofs.Ytagafpkbmlejcaa.confMade
open Go.ChangeShapes Go.WideShapes Go.ChangeAt Go.RowKit
open Go.ChangeMaps (open_string shut_string)
open Go.Proofs.Ytagafpkbmlejcaa.Base
set_option linter.unusedVariables false

theorem own : ownKnob Try.prog.godebug = none := by kernel_rfl
theorem laidOut : laidOutB Try.prog = true := by kernel_rfl

open Go.Proofs.Ytagafpkbmlejcaa.Conf Go.Proofs.Ytagafpkbmlejcaa.ConfPlain
set_option maxHeartbeats 1000000 in
theorem walk (a0 : Option Addr) (len0 cap0 : Nat) (z0 : List Int) (w : World) (w0 : Ints .u32 w a0 z0) (n0 : z0.length = len0) (m0 : len0 ≤ cap0) (o0 : cap0 ≤ maxLen) (f0 : ∀ x ∈ z0, (Lit.int .u32 x).wf = true) :
    Calls Try.prog 4 #[.slice a0 len0 cap0] w fun e w' => e = .returned (.bool true) ∧ Below w.heap.size w w' := by
  subst n0
  have hb0 : ∀ x ∈ z0, 0 ≤ x ∧ x ≤ 4294967295 := fun x hx => Base.u32_of (f0 x hx)
  have CF := fun W hz => conf_any a0 z0.length cap0 z0 W rfl (by omega) hb0 hz
  clear f0 hb0
  go_enter Try.func4, Try.ntmps4
  go_wp2_with (first
    | (go_at_call 7; refine (alive_conf w).mono ?_; rintro e u1 ⟨rfl, L1⟩; have z1 := w0.below L1)
    | (go_at_call 11; refine (CF u1 z1).mono ?_; rintro e u2 ⟨c, rfl, hc, L2⟩; have M2 := Base.next L1 L2; have CC := fun W => check_any c W (made_fit hc); have CM := fun W => may_any c W (made_fit hc); rw [pos_fit hc] at CC CM; have hB2 := Blk.new u2 #[.int .i64 c.bits, .int .u64 c.one, .int .i64 c.ring, .int .u64 c.limit, .int .i64 c.room, .int .u64 c.mss, .int .u64 c.initial, .int .u64 c.least, .int .u64 c.most, .int .i64 c.algo, .int .u64 c.first, .int .u64 c.grain, .int .u64 c.cap, .int .u64 c.burst, .int .u64 c.slowest, .int .i64 c.chal, .int .u64 c.every] 24; have M2b := M2.alloc M2.size (.cells #[.int .i64 c.bits, .int .u64 c.one, .int .i64 c.ring, .int .u64 c.limit, .int .i64 c.room, .int .u64 c.mss, .int .u64 c.initial, .int .u64 c.least, .int .u64 c.most, .int .i64 c.algo, .int .u64 c.first, .int .u64 c.grain, .int .u64 c.cap, .int .u64 c.burst, .int .u64 c.slowest, .int .i64 c.chal, .int .u64 c.every] 24); clear CF)
    | (go_at_call 9; refine (CC _).mono ?_; rintro e u3 ⟨rfl, L3⟩; have M3 := Base.next M2b L3; have hB3 := hB2.below L3 hB2.lt; clear CC hB2)
    | (go_at_call 10; refine (CM u3).mono ?_; rintro e u4 ⟨rfl, L4⟩; have M4 := Base.next M3 L4; clear CM)
    | (refine wpl_load_row (by rfl) 24 (.tmp 3) rfl u2.heap.size rfl 24 _ (0, 0) _ hB2 Try.underlying24 rfl (by kernel_rfl) ?_) | (refine wpl_load_row (by rfl) 24 (.tmp 3) rfl u2.heap.size rfl 24 _ (0, 0) _ hB3 Try.underlying24 rfl (by kernel_rfl) ?_))
  all_goals go_ret
  all_goals exact ⟨rfl, M4⟩

set_option maxRecDepth 100000 in
theorem lifted (os : Os) (started : os.Started) (H : Type) (enc : TypeId × Value → H) :
    ReturnsInHanded {} Try.checked os 4 .any (Rows.confMadeSpec.pre6 enc Try.prog Try.f4 Rows.confMadeRow.domain false) (Rows.confMadeSpec.post enc Try.prog Try.f4 false true false false) := by
  refine returnsInHanded_of_change (C := Try.checked) own started (by kernel_rfl) Try.func4
    (ChangeSpec.witness6 (enc := enc) (C := Try.checked) false ⟨#[], #[.slice none 0 0], []⟩ 8 (by kernel_rfl) (by kernel_rfl) (by kernel_rfl) (by kernel_rfl)) ?_
  intro W base args ds gs before hval0 hW hcnd _
  have hval : ∀ (j : Nat) t v, Try.f4.params[j]? = some t → args[j]? = some v → Value.okWide Try.prog W .any base t v := hval0
  have hW' := hW
  obtain ⟨p, q, hA0, hV, rfl, hfz, hnd⟩ := hW
  have hA : DataW.TrodAll enc Try.prog W 0 (fun _ => true) true Try.f4.params.toList args.toList ds p := hA0
  rw [Try.params4] at hA hval
  obtain ⟨v0, vs0, d0, ds0, p0, q0, hargs, rfl, rfl, h0, r0⟩ := trodAll_cons hA
  obtain ⟨rfl, rfl, rfl⟩ := trodAll_nil r0
  obtain rfl : args = #[v0] := by cases args; simp_all
  obtain ⟨rfl, rfl⟩ := trodVars_none hV
  obtain ⟨a0, len0, cap0, rfl⟩ := okWide_slice Try.underlying28 (hval 0 28 v0 rfl rfl)
  have k0 := h0
  have lt0 : ∀ x ∈ p0, x.block < W.heap.size := by obtain ⟨m, hm⟩ := k0; exact DataW.trod_lt m _ _ _ hm
  obtain ⟨z0, w0, n0, m0, o0, f0⟩ : ∃ zs, Ints .u32 W a0 zs ∧ zs.length = len0 ∧ len0 ≤ cap0 ∧ cap0 ≤ maxLen ∧ (∀ x ∈ zs, (Lit.int .u32 x).wf = true) := by
    obtain ⟨fuel, hf⟩ := h0
    rcases open_ints Try.underlying28 Try.underlying42 (by kernel_rfl) hf with ⟨hcs, hx⟩ | ⟨x, l, c, zs, hcs, _, hl, hm, hz, hx, hcell, hwz⟩
    · simp [Value.cells] at hcs
      obtain ⟨rfl, rfl, rfl⟩ := hcs
      exact ⟨[], Row.nil _ _, rfl, Nat.le_refl _, Nat.zero_le _, (fun _ h => by cases h)⟩
    · simp [Value.cells] at hcs
      obtain ⟨rfl, rfl, rfl⟩ := hcs
      exact ⟨zs.take len0, ints_of hl (by simpa using hz) hcell, take_len hl (by simpa using hz), hl, hm, (fun x hx => hwz x (List.mem_of_mem_take hx))⟩
  clear hA0 hval0
  refine (walk a0 len0 cap0 z0 W w0 n0 m0 o0 f0).mono fun e W' ⟨he, bel⟩ => ?_
  subst he
  exact ⟨_, rfl, _, _, _, [], _, [], hW', trodAll_mk1 (shut_bool Try.underlying4 _), (trodAll_cons_mk (Below.trod laidOut (by kernel_rfl) (of_decide_eq_true (by kernel_rfl)) k0 bel lt0) trodAll_mk0), rfl, bel.frame _, fun h => by cases h⟩

theorem over : Rows.confMadeRow.holds Try.pinned (OpenSpec.ofChange Rows.confMadeSpec) :=
  OpenClaim.holds_of_wide 4 Try.f4 rfl rfl rfl rfl rfl rfl rfl ⟨rfl, rfl, rfl, rfl, rfl⟩ rfl rfl rfl rfl rfl (by kernel_rfl) Try.func4 (by kernel_rfl)
    (of_decide_eq_true (by kernel_rfl)) (by unfold Func.isWrapper; first | (rw [if_pos (by decide +kernel)]; kernel_rfl) | (rw [if_neg (by decide +kernel)]; exact ⟨rfl, rfl⟩))
    (fun os started H enc _ => lifted os started H enc)

/-- The given statement. -/
theorem proved : Rows.ConfMadeSaid :=
  over
#print axioms proved
end Go.Proofs.Ytagafpkbmlejcaa.confMade
