/-
  A configuration made to fit together, of which one field is turned to any number, is judged as the document defines it. No conditions.
-/
import Derived.Test.YtagafpkbmlejcaaRows
import Derived.Test.YtagafpkbmlejcaaRow
import Derived.WalkKit
import Derived.ProofKit
import Derived.OpenShut
import Derived.ShutString
import Derived.ChangeOld
import Derived.Below
import Derived.Test.YtagafpkbmlejcaaConfAlive
namespace Go.Proofs.Ytagafpkbmlejcaa.confTurns
open Go.ChangeShapes Go.WideShapes Go.ChangeAt Go.RowKit
open Go.ChangeMaps (open_string shut_string)
open Go.Proofs.Ytagafpkbmlejcaa.Base
set_option linter.unusedVariables false

theorem own : ownKnob Try.prog.godebug = none := by kernel_rfl
theorem laidOut : laidOutB Try.prog = true := by kernel_rfl

open Go.Proofs.Ytagafpkbmlejcaa.Conf Go.Proofs.Ytagafpkbmlejcaa.ConfPlain
set_option maxHeartbeats 1000000 in
theorem walk (a0 : Option Addr) (len0 cap0 : Nat) (z0 : List Int) (a1 : Int) (a2 : Int) (w : World) (w0 : Ints .u32 w a0 z0) (n0 : z0.length = len0) (m0 : len0 ≤ cap0) (o0 : cap0 ≤ maxLen) (f0 : ∀ x ∈ z0, (Lit.int .u32 x).wf = true) (w1 : (Lit.int .u8 a1).wf = true) (w2 : (Lit.int .u64 a2).wf = true) :
    Calls Try.prog 5 #[.slice a0 len0 cap0, .int .u8 a1, .int .u64 a2] w fun e w' => e = .returned (.bool true) ∧ Below w.heap.size w w' := by
  obtain ⟨p0, p1⟩ := Base.u8_of w1
  obtain ⟨q0, q1⟩ := Base.u64_of w2
  subst n0
  have hb0 : ∀ x ∈ z0, 0 ≤ x ∧ x ≤ 4294967295 := fun x hx => Base.u32_of (f0 x hx)
  have CF := fun W hz => conf_any a0 z0.length cap0 z0 W rfl (by omega) hb0 hz
  clear f0 hb0
  generalize hi : 1 + a1 % 17 = i
  have i0 : 1 ≤ i := by omega
  have i1 : i ≤ 17 := by omega
  have HI := Lib.hid hi
  clear hi
  go_enter Try.func5, Try.ntmps5
  go_wp2_with (first
    | (go_at_call 7; refine (alive_conf w).mono ?_; rintro e u1 ⟨rfl, L1⟩; have z1 := w0.below L1)
    | (go_at_call 11; refine (CF u1 z1).mono ?_; rintro e u2 ⟨c, rfl, hc, L2⟩; have M2 := Base.next L1 L2; have CT := fun W => turned_any c i a2 W (made_fit hc) i0 i1 q0 q1; rw [← HI.out] at CT; clear CF)
    | (go_at_call 12; refine (CT u2).mono ?_; rintro e u3 ⟨d, rfl, hd, L3⟩; have M3 := Base.next M2 L3; have CC := fun W => check_any d W hd; have CM := fun W => may_any d W hd; have CR := fun W => ref_check d (mss_lo hd) (mss_hi hd) W; have hR := pos_range d; generalize pos (flags d) = n at CC CM CR hR; obtain ⟨r0, r1⟩ := hR; have hB3 := Blk.new u3 #[.int .i64 d.bits, .int .u64 d.one, .int .i64 d.ring, .int .u64 d.limit, .int .i64 d.room, .int .u64 d.mss, .int .u64 d.initial, .int .u64 d.least, .int .u64 d.most, .int .i64 d.algo, .int .u64 d.first, .int .u64 d.grain, .int .u64 d.cap, .int .u64 d.burst, .int .u64 d.slowest, .int .i64 d.chal, .int .u64 d.every] 24; have M3b := M3.alloc M3.size (.cells #[.int .i64 d.bits, .int .u64 d.one, .int .i64 d.ring, .int .u64 d.limit, .int .i64 d.room, .int .u64 d.mss, .int .u64 d.initial, .int .u64 d.least, .int .u64 d.most, .int .i64 d.algo, .int .u64 d.first, .int .u64 d.grain, .int .u64 d.cap, .int .u64 d.burst, .int .u64 d.slowest, .int .i64 d.chal, .int .u64 d.every] 24); clear CT)
    | (go_at_call 9; refine (CC _).mono ?_; rintro e u4 ⟨rfl, L4⟩; have M4 := Base.next M3b L4; have hB4 := hB3.below L4 hB3.lt; clear CC hB3)
    | (go_at_call 8; refine (CR u4).mono ?_; rintro e u5 ⟨rfl, L5⟩; have M5 := Base.next M4 L5; have hB5 := hB4.below L5 hB4.lt; clear CR hB4)
    | (go_at_call 10; refine (CM u5).mono ?_; rintro e u6 ⟨rfl, L6⟩; have M6 := Base.next M5 L6; clear CM)
    | (refine wpl_load_row (by rfl) 24 (.tmp 7) rfl u3.heap.size rfl 24 _ (0, 0) _ hB3 Try.underlying24 rfl (by kernel_rfl) ?_) | (refine wpl_load_row (by rfl) 24 (.tmp 7) rfl u3.heap.size rfl 24 _ (0, 0) _ hB4 Try.underlying24 rfl (by kernel_rfl) ?_) | (refine wpl_load_row (by rfl) 24 (.tmp 7) rfl u3.heap.size rfl 24 _ (0, 0) _ hB5 Try.underlying24 rfl (by kernel_rfl) ?_))
  all_goals go_ret
  all_goals exact ⟨by simp, M6⟩

set_option maxRecDepth 100000 in
theorem lifted (os : Os) (started : os.Started) (H : Type) (enc : TypeId × Value → H) :
    ReturnsInHanded {} Try.checked os 5 .any (Rows.confTurnsSpec.pre6 enc Try.prog Try.f5 Rows.confTurnsRow.domain false) (Rows.confTurnsSpec.post enc Try.prog Try.f5 false true false false) := by
  refine returnsInHanded_of_change (C := Try.checked) own started (by kernel_rfl) Try.func5
    (ChangeSpec.witness6 (enc := enc) (C := Try.checked) false ⟨#[], #[.slice none 0 0, .int .u8 0, .int .u64 0], []⟩ 8 (by kernel_rfl) (by kernel_rfl) (by kernel_rfl) (by kernel_rfl)) ?_
  intro W base args ds gs before hval0 hW hcnd _
  have hval : ∀ (j : Nat) t v, Try.f5.params[j]? = some t → args[j]? = some v → Value.okWide Try.prog W .any base t v := hval0
  have hW' := hW
  obtain ⟨p, q, hA0, hV, rfl, hfz, hnd⟩ := hW
  have hA : DataW.TrodAll enc Try.prog W 0 (fun _ => true) true Try.f5.params.toList args.toList ds p := hA0
  rw [Try.params5] at hA hval
  obtain ⟨v0, vs0, d0, ds0, p0, q0, hargs, rfl, rfl, h0, r0⟩ := trodAll_cons hA
  obtain ⟨v1, vs1, d1, ds1, p1, q1, rfl, rfl, rfl, h1, r1⟩ := trodAll_cons r0
  obtain ⟨v2, vs2, d2, ds2, p2, q2, rfl, rfl, rfl, h2, r2⟩ := trodAll_cons r1
  obtain ⟨rfl, rfl, rfl⟩ := trodAll_nil r2
  obtain rfl : args = #[v0, v1, v2] := by cases args; simp_all
  obtain ⟨rfl, rfl⟩ := trodVars_none hV
  obtain ⟨a0, len0, cap0, rfl⟩ := okWide_slice Try.underlying28 (hval 0 28 v0 rfl rfl)
  have k0 := h0
  have lt0 : ∀ x ∈ p0, x.block < W.heap.size := by obtain ⟨m, hm⟩ := k0; exact DataW.trod_lt m _ _ _ hm
  obtain ⟨z0, w0, n0, m0, o0, f0⟩ : ∃ zs, Ints .u32 W a0 zs ∧ zs.length = len0 ∧ len0 ≤ cap0 ∧ cap0 ≤ maxLen ∧ (∀ x ∈ zs, (Lit.int .u32 x).wf = true) := by
    obtain ⟨fuel, hf⟩ := h0
    rcases open_ints Try.underlying28 Try.underlying42 (by kernel_rfl) hf with ⟨hcs, hx⟩ | ⟨x, l, c, zs, hcs, _, hl, hm, hz, hx, hcell, hwz⟩
    · simp [Value.cells] at hcs
      obtain ⟨rfl, rfl, rfl⟩ := hcs
      exact ⟨[], Row.nil _ _, rfl, Nat.le_refl _, Nat.zero_le _, (fun _ h => by cases h)⟩
    · simp [Value.cells] at hcs
      obtain ⟨rfl, rfl, rfl⟩ := hcs
      exact ⟨zs.take len0, ints_of hl (by simpa using hz) hcell, take_len hl (by simpa using hz), hl, hm, (fun x hx => hwz x (List.mem_of_mem_take hx))⟩
  obtain ⟨a1, rfl, rfl, rfl, w1⟩ := open_int Try.underlying5 (hval 1 5 v1 rfl rfl) h1
  obtain ⟨a2, rfl, rfl, rfl, w2⟩ := open_int Try.underlying22 (hval 2 22 v2 rfl rfl) h2
  clear hA0 hval0
  refine (walk a0 len0 cap0 z0 a1 a2 W w0 n0 m0 o0 f0 w1 w2).mono fun e W' ⟨he, bel⟩ => ?_
  subst he
  exact ⟨_, rfl, _, _, _, [], _, [], hW', trodAll_mk1 (shut_bool Try.underlying4 _), (trodAll_cons_mk (Below.trod laidOut (by kernel_rfl) (of_decide_eq_true (by kernel_rfl)) k0 bel lt0) (trodAll_cons_mk (shut_int Try.underlying5 w1) (trodAll_cons_mk (shut_int Try.underlying22 w2) trodAll_mk0))), rfl, bel.frame _, fun h => by cases h⟩

theorem over : Rows.confTurnsRow.holds Try.pinned (OpenSpec.ofChange Rows.confTurnsSpec) :=
  OpenClaim.holds_of_wide 5 Try.f5 rfl rfl rfl rfl rfl rfl rfl ⟨rfl, rfl, rfl, rfl, rfl⟩ rfl rfl rfl rfl rfl (by kernel_rfl) Try.func5 (by kernel_rfl)
    (of_decide_eq_true (by kernel_rfl)) (by unfold Func.isWrapper; first | (rw [if_pos (by decide +kernel)]; kernel_rfl) | (rw [if_neg (by decide +kernel)]; exact ⟨rfl, rfl⟩))
    (fun os started H enc _ => lifted os started H enc)

/-- The given statement. -/
theorem proved : Rows.ConfTurnsSaid :=
  over
#print axioms proved
end Go.Proofs.Ytagafpkbmlejcaa.confTurns
