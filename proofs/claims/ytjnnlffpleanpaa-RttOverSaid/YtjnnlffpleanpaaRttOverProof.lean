/-
  A timeout is above the smoothed time by the grain at least, and a longer grain is no shorter one. No conditions.
-/
import Derived.Test.YtjnnlffpleanpaaRows
import Derived.Test.YtjnnlffpleanpaaRow
import Derived.WalkKit
import Derived.ProofKit
import Derived.OpenShut
import Derived.ShutString
import Derived.ChangeOld
import Derived.Below
import Derived.Test.YtjnnlffpleanpaaRttAlive
import Derived.Test.YtjnnlffpleanpaaRttRow
namespace Go.Proofs.Ytjnnlffpleanpaa.rttOver
open Go.ChangeShapes Go.WideShapes Go.ChangeAt Go.RowKit
open Go.ChangeMaps (open_string shut_string)
open Go.Proofs.Ytjnnlffpleanpaa.Base
set_option linter.unusedVariables false
set_option linter.unusedSimpArgs false

theorem own : ownKnob Try.prog.godebug = none := by kernel_rfl
theorem laidOut : laidOutB Try.prog = true := by kernel_rfl

open Go.Proofs.Ytjnnlffpleanpaa.Rtt Go.Proofs.Ytjnnlffpleanpaa.RttPlain Go.Proofs.Ytjnnlffpleanpaa.Hop
set_option maxHeartbeats 4000000 in
set_option maxRecDepth 20000 in
theorem walk (a0 : Int) (a1 : Int) (a2 : Int) (a3 : Int) (a4 : Int) (a5 : Int) (a6 : Bool) (w : World) (w0 : (Lit.int .u32 a0).wf = true) (w1 : (Lit.int .u32 a1).wf = true) (w2 : (Lit.int .u32 a2).wf = true) (w3 : (Lit.int .u32 a3).wf = true) (w4 : (Lit.int .u32 a4).wf = true) (w5 : (Lit.int .u32 a5).wf = true) :
    Calls Try.prog 7 #[.int .u32 a0, .int .u32 a1, .int .u32 a2, .int .u32 a3, .int .u32 a4, .int .u32 a5, .bool a6] w fun e w' => e = .returned (.bool true) ∧ Below w.heap.size w w' := by
  obtain ⟨p0, p1⟩ := Base.u32_of w0
  obtain ⟨q0, q1⟩ := Base.u32_of w1
  obtain ⟨r0, r1⟩ := Base.u32_of w2
  obtain ⟨s0, s1⟩ := Base.u32_of w3
  obtain ⟨t0, t1⟩ := Base.u32_of w4
  obtain ⟨u0, u1⟩ := Base.u32_of w5
  have CA := fun V => alive_rtt V
  have hr : RFit ⟨a6, a2, a0, a1, 0⟩ := ⟨r0, by show a2 ≤ _; omega, p0, by show a0 ≤ _; omega, q0, by show a1 ≤ _; omega, show (0 : Int) ≤ 0 by decide, show (0 : Int) ≤ 18446744073709551615 by decide⟩
  have CT := fun (g : Int) (g0 : 0 ≤ g) (g1 : g ≤ 18446744073709551615) V => timeout_any ⟨a6, a2, a0, a1, 0⟩ hr a3 g s0 (by omega) g0 g1 V
  have CW := fun (g : Int) (g0 : 0 ≤ g) (g1 : g ≤ 18446744073709551615) V => window_any ⟨a6, a2, a0, a1, 0⟩ hr a3 g s0 (by omega) g0 g1 V
  simp only [rcells] at CT CW
  obtain ⟨x1, x2, x3, x4⟩ := over_t (h := a6) (l := a2) p0 p1 q0 q1 s0 s1 t0 t1 u0 u1
  obtain ⟨y1, y2, y3, y4, y5⟩ := over_w (h := a6) (d := a1) r0 r1 p0 p1 s0 s1 t0 t1 u0 u1
  have CT1 := fun V => CT a4 t0 (by omega) V
  have CT2 := fun V => CT (a4 + a5) (by omega) (by omega) V
  have CW1 := fun V => CW a4 t0 (by omega) V
  have CW2 := fun V => CW (a4 + a5) (by omega) (by omega) V
  clear CT CW hr
  generalize timeoutR ⟨a6, a2, a0, a1, 0⟩ a3 a4 = T1 at *
  generalize timeoutR ⟨a6, a2, a0, a1, 0⟩ a3 (a4 + a5) = T2 at *
  generalize windowR ⟨a6, a2, a0, a1, 0⟩ a3 a4 = W1 at *
  generalize windowR ⟨a6, a2, a0, a1, 0⟩ a3 (a4 + a5) = W2 at *
  obtain ⟨bs, hbs⟩ : ∃ bs : Int, bs = if a6 = true then a0 else a3 := ⟨_, rfl⟩
  rw [← hbs] at x1 y3
  have b0 : 0 ≤ bs ∧ bs ≤ 4294967295 := by rw [hbs]; split <;> omega
  go_enter Try.func7, Try.ntmps7
  go_upto_region 4 with (go_at_call 8; refine (CA w).mono ?_; rintro e X ⟨rfl, L1⟩)
  refine at_any ?_
  intro V0 hV
  obtain ⟨rB, hL⟩ : Blk V0 X.heap.size #[.bool a6, .int .u64 a2, .int .u64 a0, .int .u64 a1, .int .u64 0] 24 ∧ Below w.heap.size w V0 := by
    subst hV
    exact ⟨Blk.new _ _ _, L1.alloc L1.size _⟩
  clear hV CA L1
  generalize X.heap.size = rb at *
  have hrun : ∀ (V : World) (hrB : Blk V rb #[.bool a6, .int .u64 a2, .int .u64 a0, .int .u64 a1, .int .u64 0] 24) (hL : Below w.heap.size w V), True := fun _ _ _ => trivial
  cases a6
  · have hbq : a3 = bs := by simpa using hbs.symm
    clear hbs hrun
    subst hbq
    go_upto_region 7 with fail
    have C1 := CT1
    have C2 := CT2
    generalize hVV : V0 = V at *
    have RR := fun U (hU : Below V.heap.size V U) => show U.rangeAt rb 0 [.bool false, .int .u64 a2, .int .u64 a0, .int .u64 a1, .int .u64 0] from fun j v hj => by
      rw [(rB.below hU rB.lt).cell, Nat.zero_add]
      rcases j with _ | _ | _ | _ | _ | j <;> first | exact hj | simp at hj
    have LS : Below V.heap.size V V.drew := Base.drew1 (Below.refl _ _)
    refine held_start (fun v => Below V.heap.size V v) (by kernel_rfl) ?_
    refine held_take (i := 0) (v := .agg #[.bool false, .int .u64 a2, .int .u64 a0, .int .u64 a1, .int .u64 0]) rfl (by kernel_rfl) (by kernel_rfl) (by kernel_rfl) (fun _ _ _ h => h) (by kernel_rfl) LS (fun _ hu => by exact lb_mid 24 (.tmp 15) rfl (by kernel_rfl) (RR _ hu) Try.underlying24 rfl (by kernel_rfl)) ?_
    refine held_take (i := 1) (v := .int .u32 a3) rfl (by kernel_rfl) (by kernel_rfl) (by kernel_rfl) (fun _ _ _ h => h) (by kernel_rfl) LS (fun _ hu => by kernel_rfl) ?_
    refine held_take (i := 2) (v := .int .u64 a3) rfl (by kernel_rfl) (by kernel_rfl) (by kernel_rfl) (fun _ _ _ h => h) (by kernel_rfl) LS (fun _ hu => by exact cv_u32 (.tmp 37) rfl (by kernel_rfl) (by omega) (by omega)) ?_
    refine held_take (i := 3) (v := .int .u32 a4) rfl (by kernel_rfl) (by kernel_rfl) (by kernel_rfl) (fun _ _ _ h => h) (by kernel_rfl) LS (fun _ hu => by kernel_rfl) ?_
    refine held_take (i := 4) (v := .int .u64 a4) rfl (by kernel_rfl) (by kernel_rfl) (by kernel_rfl) (fun _ _ _ h => h) (by kernel_rfl) LS (fun _ hu => by exact cv_u32 (.tmp 39) rfl (by kernel_rfl) (by omega) (by omega)) ?_
    refine held_take (i := 6) (v := .agg #[.bool false, .int .u64 a2, .int .u64 a0, .int .u64 a1, .int .u64 0]) rfl (by kernel_rfl) (by kernel_rfl) (by kernel_rfl) (fun _ _ _ h => h) (by kernel_rfl) LS (fun _ hu => by exact lb_mid 24 (.tmp 15) rfl (by kernel_rfl) (RR _ hu) Try.underlying24 rfl (by kernel_rfl)) ?_
    refine held_take (i := 7) (v := .int .u32 a3) rfl (by kernel_rfl) (by kernel_rfl) (by kernel_rfl) (fun _ _ _ h => h) (by kernel_rfl) LS (fun _ hu => by kernel_rfl) ?_
    refine held_take (i := 8) (v := .int .u64 a3) rfl (by kernel_rfl) (by kernel_rfl) (by kernel_rfl) (fun _ _ _ h => h) (by kernel_rfl) LS (fun _ hu => by exact cv_u32 (.tmp 43) rfl (by kernel_rfl) (by omega) (by omega)) ?_
    refine held_take (i := 9) (v := .int .u32 a4) rfl (by kernel_rfl) (by kernel_rfl) (by kernel_rfl) (fun _ _ _ h => h) (by kernel_rfl) LS (fun _ hu => by kernel_rfl) ?_
    refine held_take (i := 10) (v := .int .u64 a4) rfl (by kernel_rfl) (by kernel_rfl) (by kernel_rfl) (fun _ _ _ h => h) (by kernel_rfl) LS (fun _ hu => by exact cv_u32 (.tmp 45) rfl (by kernel_rfl) (by omega) (by omega)) ?_
    refine held_take (i := 11) (v := .int .u32 a5) rfl (by kernel_rfl) (by kernel_rfl) (by kernel_rfl) (fun _ _ _ h => h) (by kernel_rfl) LS (fun _ hu => by kernel_rfl) ?_
    refine held_take (i := 12) (v := .int .u64 a5) rfl (by kernel_rfl) (by kernel_rfl) (by kernel_rfl) (fun _ _ _ h => h) (by kernel_rfl) LS (fun _ hu => by exact cv_u32 (.tmp 47) rfl (by kernel_rfl) (by omega) (by omega)) ?_
    refine held_take (i := 13) (v := .int .u64 (a4 + a5)) rfl (by kernel_rfl) (by kernel_rfl) (by kernel_rfl) (fun _ _ _ h => h) (by kernel_rfl) LS (fun _ hu => by exact ad_u64 (.tmp 46) (.tmp 48) rfl (by kernel_rfl) (by kernel_rfl) (by omega) (by omega)) ?_
    refine held_call (i := 5) (f := 11) (args := #[.agg #[.bool false, .int .u64 a2, .int .u64 a0, .int .u64 a1, .int .u64 0], .int .u64 a3, .int .u64 a4]) rfl (by kernel_rfl) (by kernel_rfl) (by kernel_rfl) ((C1 _).mono ?_)
    rintro e y1 ⟨rfl, LN⟩
    replace LS := LS.trans (LN.mono LS.size)
    refine ⟨_, rfl, LS, ?_⟩
    refine held_call (i := 14) (f := 11) (args := #[.agg #[.bool false, .int .u64 a2, .int .u64 a0, .int .u64 a1, .int .u64 0], .int .u64 a3, .int .u64 (a4 + a5)]) rfl (by kernel_rfl) (by kernel_rfl) (by kernel_rfl) ((C2 _).mono ?_)
    rintro e y2 ⟨rfl, LN⟩
    replace LS := LS.trans (LN.mono LS.size)
    refine ⟨_, rfl, LS, ?_⟩
    refine held_take (i := 15) (v := .int .u64 T1) rfl (by kernel_rfl) (by kernel_rfl) (by kernel_rfl) (fun _ _ _ h => h) (by kernel_rfl) LS (fun _ hu => by kernel_rfl) ?_
    refine held_take (i := 16) (v := .int .u64 T2) rfl (by kernel_rfl) (by kernel_rfl) (by kernel_rfl) (fun _ _ _ h => h) (by kernel_rfl) LS (fun _ hu => by kernel_rfl) ?_
    refine held_done (by kernel_rfl) ?_
    have rB2 := rB.below LS rB.lt
    have hL2 := Base.next hL LS
    clear RR C1 C2 CT1 CT2 rB hL
    go_upto_region 8 with fail
    refine at_any ?_
    intro Z hZ
    have rB : Blk Z rb #[.bool false, .int .u64 a2, .int .u64 a0, .int .u64 a1, .int .u64 0] 24 := by subst hZ; exact rB2
    have hL : Below w.heap.size w Z := by subst hZ; exact hL2
    clear hZ rB2 hL2 LS
    have C1 := CW1
    have C2 := CW2
    have RR := fun U (hU : Below Z.heap.size Z U) => show U.rangeAt rb 0 [.bool false, .int .u64 a2, .int .u64 a0, .int .u64 a1, .int .u64 0] from fun j v hj => by
      rw [(rB.below hU rB.lt).cell, Nat.zero_add]
      rcases j with _ | _ | _ | _ | _ | j <;> first | exact hj | simp at hj
    have LS : Below Z.heap.size Z Z.drew := Base.drew1 (Below.refl _ _)
    refine held_start (fun v => Below Z.heap.size Z v) (by kernel_rfl) ?_
    refine held_take (i := 0) (v := .agg #[.bool false, .int .u64 a2, .int .u64 a0, .int .u64 a1, .int .u64 0]) rfl (by kernel_rfl) (by kernel_rfl) (by kernel_rfl) (fun _ _ _ h => h) (by kernel_rfl) LS (fun _ hu => by exact lb_mid 24 (.tmp 15) rfl (by kernel_rfl) (RR _ hu) Try.underlying24 rfl (by kernel_rfl)) ?_
    refine held_take (i := 1) (v := .int .u32 a3) rfl (by kernel_rfl) (by kernel_rfl) (by kernel_rfl) (fun _ _ _ h => h) (by kernel_rfl) LS (fun _ hu => by kernel_rfl) ?_
    refine held_take (i := 2) (v := .int .u64 a3) rfl (by kernel_rfl) (by kernel_rfl) (by kernel_rfl) (fun _ _ _ h => h) (by kernel_rfl) LS (fun _ hu => by exact cv_u32 (.tmp 52) rfl (by kernel_rfl) (by omega) (by omega)) ?_
    refine held_take (i := 3) (v := .int .u32 a4) rfl (by kernel_rfl) (by kernel_rfl) (by kernel_rfl) (fun _ _ _ h => h) (by kernel_rfl) LS (fun _ hu => by kernel_rfl) ?_
    refine held_take (i := 4) (v := .int .u64 a4) rfl (by kernel_rfl) (by kernel_rfl) (by kernel_rfl) (fun _ _ _ h => h) (by kernel_rfl) LS (fun _ hu => by exact cv_u32 (.tmp 54) rfl (by kernel_rfl) (by omega) (by omega)) ?_
    refine held_take (i := 6) (v := .agg #[.bool false, .int .u64 a2, .int .u64 a0, .int .u64 a1, .int .u64 0]) rfl (by kernel_rfl) (by kernel_rfl) (by kernel_rfl) (fun _ _ _ h => h) (by kernel_rfl) LS (fun _ hu => by exact lb_mid 24 (.tmp 15) rfl (by kernel_rfl) (RR _ hu) Try.underlying24 rfl (by kernel_rfl)) ?_
    refine held_take (i := 7) (v := .int .u32 a3) rfl (by kernel_rfl) (by kernel_rfl) (by kernel_rfl) (fun _ _ _ h => h) (by kernel_rfl) LS (fun _ hu => by kernel_rfl) ?_
    refine held_take (i := 8) (v := .int .u64 a3) rfl (by kernel_rfl) (by kernel_rfl) (by kernel_rfl) (fun _ _ _ h => h) (by kernel_rfl) LS (fun _ hu => by exact cv_u32 (.tmp 58) rfl (by kernel_rfl) (by omega) (by omega)) ?_
    refine held_take (i := 9) (v := .int .u32 a4) rfl (by kernel_rfl) (by kernel_rfl) (by kernel_rfl) (fun _ _ _ h => h) (by kernel_rfl) LS (fun _ hu => by kernel_rfl) ?_
    refine held_take (i := 10) (v := .int .u64 a4) rfl (by kernel_rfl) (by kernel_rfl) (by kernel_rfl) (fun _ _ _ h => h) (by kernel_rfl) LS (fun _ hu => by exact cv_u32 (.tmp 60) rfl (by kernel_rfl) (by omega) (by omega)) ?_
    refine held_take (i := 11) (v := .int .u32 a5) rfl (by kernel_rfl) (by kernel_rfl) (by kernel_rfl) (fun _ _ _ h => h) (by kernel_rfl) LS (fun _ hu => by kernel_rfl) ?_
    refine held_take (i := 12) (v := .int .u64 a5) rfl (by kernel_rfl) (by kernel_rfl) (by kernel_rfl) (fun _ _ _ h => h) (by kernel_rfl) LS (fun _ hu => by exact cv_u32 (.tmp 62) rfl (by kernel_rfl) (by omega) (by omega)) ?_
    refine held_take (i := 13) (v := .int .u64 (a4 + a5)) rfl (by kernel_rfl) (by kernel_rfl) (by kernel_rfl) (fun _ _ _ h => h) (by kernel_rfl) LS (fun _ hu => by exact ad_u64 (.tmp 61) (.tmp 63) rfl (by kernel_rfl) (by kernel_rfl) (by omega) (by omega)) ?_
    refine held_call (i := 5) (f := 13) (args := #[.agg #[.bool false, .int .u64 a2, .int .u64 a0, .int .u64 a1, .int .u64 0], .int .u64 a3, .int .u64 a4]) rfl (by kernel_rfl) (by kernel_rfl) (by kernel_rfl) ((C1 _).mono ?_)
    rintro e y1 ⟨rfl, LN⟩
    replace LS := LS.trans (LN.mono LS.size)
    refine ⟨_, rfl, LS, ?_⟩
    refine held_call (i := 14) (f := 13) (args := #[.agg #[.bool false, .int .u64 a2, .int .u64 a0, .int .u64 a1, .int .u64 0], .int .u64 a3, .int .u64 (a4 + a5)]) rfl (by kernel_rfl) (by kernel_rfl) (by kernel_rfl) ((C2 _).mono ?_)
    rintro e y2 ⟨rfl, LN⟩
    replace LS := LS.trans (LN.mono LS.size)
    refine ⟨_, rfl, LS, ?_⟩
    refine held_take (i := 15) (v := .int .u64 W1) rfl (by kernel_rfl) (by kernel_rfl) (by kernel_rfl) (fun _ _ _ h => h) (by kernel_rfl) LS (fun _ hu => by kernel_rfl) ?_
    refine held_take (i := 16) (v := .int .u64 W2) rfl (by kernel_rfl) (by kernel_rfl) (by kernel_rfl) (fun _ _ _ h => h) (by kernel_rfl) LS (fun _ hu => by kernel_rfl) ?_
    refine held_done (by kernel_rfl) ?_
    have hL3 := Base.next hL LS
    clear RR C1 C2 CW1 CW2 rB hL LS
    go_wp2
    all_goals go_ret
    all_goals exact ⟨rfl, hL3⟩
  · have hbq : a0 = bs := by simpa using hbs.symm
    clear hbs hrun
    subst hbq
    go_upto_region 7 with fail
    have C1 := CT1
    have C2 := CT2
    generalize hVV : V0 = V at *
    have RR := fun U (hU : Below V.heap.size V U) => show U.rangeAt rb 0 [.bool true, .int .u64 a2, .int .u64 a0, .int .u64 a1, .int .u64 0] from fun j v hj => by
      rw [(rB.below hU rB.lt).cell, Nat.zero_add]
      rcases j with _ | _ | _ | _ | _ | j <;> first | exact hj | simp at hj
    have LS : Below V.heap.size V V.drew := Base.drew1 (Below.refl _ _)
    refine held_start (fun v => Below V.heap.size V v) (by kernel_rfl) ?_
    refine held_take (i := 0) (v := .agg #[.bool true, .int .u64 a2, .int .u64 a0, .int .u64 a1, .int .u64 0]) rfl (by kernel_rfl) (by kernel_rfl) (by kernel_rfl) (fun _ _ _ h => h) (by kernel_rfl) LS (fun _ hu => by exact lb_mid 24 (.tmp 15) rfl (by kernel_rfl) (RR _ hu) Try.underlying24 rfl (by kernel_rfl)) ?_
    refine held_take (i := 1) (v := .int .u32 a3) rfl (by kernel_rfl) (by kernel_rfl) (by kernel_rfl) (fun _ _ _ h => h) (by kernel_rfl) LS (fun _ hu => by kernel_rfl) ?_
    refine held_take (i := 2) (v := .int .u64 a3) rfl (by kernel_rfl) (by kernel_rfl) (by kernel_rfl) (fun _ _ _ h => h) (by kernel_rfl) LS (fun _ hu => by exact cv_u32 (.tmp 37) rfl (by kernel_rfl) (by omega) (by omega)) ?_
    refine held_take (i := 3) (v := .int .u32 a4) rfl (by kernel_rfl) (by kernel_rfl) (by kernel_rfl) (fun _ _ _ h => h) (by kernel_rfl) LS (fun _ hu => by kernel_rfl) ?_
    refine held_take (i := 4) (v := .int .u64 a4) rfl (by kernel_rfl) (by kernel_rfl) (by kernel_rfl) (fun _ _ _ h => h) (by kernel_rfl) LS (fun _ hu => by exact cv_u32 (.tmp 39) rfl (by kernel_rfl) (by omega) (by omega)) ?_
    refine held_take (i := 6) (v := .agg #[.bool true, .int .u64 a2, .int .u64 a0, .int .u64 a1, .int .u64 0]) rfl (by kernel_rfl) (by kernel_rfl) (by kernel_rfl) (fun _ _ _ h => h) (by kernel_rfl) LS (fun _ hu => by exact lb_mid 24 (.tmp 15) rfl (by kernel_rfl) (RR _ hu) Try.underlying24 rfl (by kernel_rfl)) ?_
    refine held_take (i := 7) (v := .int .u32 a3) rfl (by kernel_rfl) (by kernel_rfl) (by kernel_rfl) (fun _ _ _ h => h) (by kernel_rfl) LS (fun _ hu => by kernel_rfl) ?_
    refine held_take (i := 8) (v := .int .u64 a3) rfl (by kernel_rfl) (by kernel_rfl) (by kernel_rfl) (fun _ _ _ h => h) (by kernel_rfl) LS (fun _ hu => by exact cv_u32 (.tmp 43) rfl (by kernel_rfl) (by omega) (by omega)) ?_
    refine held_take (i := 9) (v := .int .u32 a4) rfl (by kernel_rfl) (by kernel_rfl) (by kernel_rfl) (fun _ _ _ h => h) (by kernel_rfl) LS (fun _ hu => by kernel_rfl) ?_
    refine held_take (i := 10) (v := .int .u64 a4) rfl (by kernel_rfl) (by kernel_rfl) (by kernel_rfl) (fun _ _ _ h => h) (by kernel_rfl) LS (fun _ hu => by exact cv_u32 (.tmp 45) rfl (by kernel_rfl) (by omega) (by omega)) ?_
    refine held_take (i := 11) (v := .int .u32 a5) rfl (by kernel_rfl) (by kernel_rfl) (by kernel_rfl) (fun _ _ _ h => h) (by kernel_rfl) LS (fun _ hu => by kernel_rfl) ?_
    refine held_take (i := 12) (v := .int .u64 a5) rfl (by kernel_rfl) (by kernel_rfl) (by kernel_rfl) (fun _ _ _ h => h) (by kernel_rfl) LS (fun _ hu => by exact cv_u32 (.tmp 47) rfl (by kernel_rfl) (by omega) (by omega)) ?_
    refine held_take (i := 13) (v := .int .u64 (a4 + a5)) rfl (by kernel_rfl) (by kernel_rfl) (by kernel_rfl) (fun _ _ _ h => h) (by kernel_rfl) LS (fun _ hu => by exact ad_u64 (.tmp 46) (.tmp 48) rfl (by kernel_rfl) (by kernel_rfl) (by omega) (by omega)) ?_
    refine held_call (i := 5) (f := 11) (args := #[.agg #[.bool true, .int .u64 a2, .int .u64 a0, .int .u64 a1, .int .u64 0], .int .u64 a3, .int .u64 a4]) rfl (by kernel_rfl) (by kernel_rfl) (by kernel_rfl) ((C1 _).mono ?_)
    rintro e y1 ⟨rfl, LN⟩
    replace LS := LS.trans (LN.mono LS.size)
    refine ⟨_, rfl, LS, ?_⟩
    refine held_call (i := 14) (f := 11) (args := #[.agg #[.bool true, .int .u64 a2, .int .u64 a0, .int .u64 a1, .int .u64 0], .int .u64 a3, .int .u64 (a4 + a5)]) rfl (by kernel_rfl) (by kernel_rfl) (by kernel_rfl) ((C2 _).mono ?_)
    rintro e y2 ⟨rfl, LN⟩
    replace LS := LS.trans (LN.mono LS.size)
    refine ⟨_, rfl, LS, ?_⟩
    refine held_take (i := 15) (v := .int .u64 T1) rfl (by kernel_rfl) (by kernel_rfl) (by kernel_rfl) (fun _ _ _ h => h) (by kernel_rfl) LS (fun _ hu => by kernel_rfl) ?_
    refine held_take (i := 16) (v := .int .u64 T2) rfl (by kernel_rfl) (by kernel_rfl) (by kernel_rfl) (fun _ _ _ h => h) (by kernel_rfl) LS (fun _ hu => by kernel_rfl) ?_
    refine held_done (by kernel_rfl) ?_
    have rB2 := rB.below LS rB.lt
    have hL2 := Base.next hL LS
    clear RR C1 C2 CT1 CT2 rB hL
    go_upto_region 8 with fail
    refine at_any ?_
    intro Z hZ
    have rB : Blk Z rb #[.bool true, .int .u64 a2, .int .u64 a0, .int .u64 a1, .int .u64 0] 24 := by subst hZ; exact rB2
    have hL : Below w.heap.size w Z := by subst hZ; exact hL2
    clear hZ rB2 hL2 LS
    have C1 := CW1
    have C2 := CW2
    have RR := fun U (hU : Below Z.heap.size Z U) => show U.rangeAt rb 0 [.bool true, .int .u64 a2, .int .u64 a0, .int .u64 a1, .int .u64 0] from fun j v hj => by
      rw [(rB.below hU rB.lt).cell, Nat.zero_add]
      rcases j with _ | _ | _ | _ | _ | j <;> first | exact hj | simp at hj
    have LS : Below Z.heap.size Z Z.drew := Base.drew1 (Below.refl _ _)
    refine held_start (fun v => Below Z.heap.size Z v) (by kernel_rfl) ?_
    refine held_take (i := 0) (v := .agg #[.bool true, .int .u64 a2, .int .u64 a0, .int .u64 a1, .int .u64 0]) rfl (by kernel_rfl) (by kernel_rfl) (by kernel_rfl) (fun _ _ _ h => h) (by kernel_rfl) LS (fun _ hu => by exact lb_mid 24 (.tmp 15) rfl (by kernel_rfl) (RR _ hu) Try.underlying24 rfl (by kernel_rfl)) ?_
    refine held_take (i := 1) (v := .int .u32 a3) rfl (by kernel_rfl) (by kernel_rfl) (by kernel_rfl) (fun _ _ _ h => h) (by kernel_rfl) LS (fun _ hu => by kernel_rfl) ?_
    refine held_take (i := 2) (v := .int .u64 a3) rfl (by kernel_rfl) (by kernel_rfl) (by kernel_rfl) (fun _ _ _ h => h) (by kernel_rfl) LS (fun _ hu => by exact cv_u32 (.tmp 52) rfl (by kernel_rfl) (by omega) (by omega)) ?_
    refine held_take (i := 3) (v := .int .u32 a4) rfl (by kernel_rfl) (by kernel_rfl) (by kernel_rfl) (fun _ _ _ h => h) (by kernel_rfl) LS (fun _ hu => by kernel_rfl) ?_
    refine held_take (i := 4) (v := .int .u64 a4) rfl (by kernel_rfl) (by kernel_rfl) (by kernel_rfl) (fun _ _ _ h => h) (by kernel_rfl) LS (fun _ hu => by exact cv_u32 (.tmp 54) rfl (by kernel_rfl) (by omega) (by omega)) ?_
    refine held_take (i := 6) (v := .agg #[.bool true, .int .u64 a2, .int .u64 a0, .int .u64 a1, .int .u64 0]) rfl (by kernel_rfl) (by kernel_rfl) (by kernel_rfl) (fun _ _ _ h => h) (by kernel_rfl) LS (fun _ hu => by exact lb_mid 24 (.tmp 15) rfl (by kernel_rfl) (RR _ hu) Try.underlying24 rfl (by kernel_rfl)) ?_
    refine held_take (i := 7) (v := .int .u32 a3) rfl (by kernel_rfl) (by kernel_rfl) (by kernel_rfl) (fun _ _ _ h => h) (by kernel_rfl) LS (fun _ hu => by kernel_rfl) ?_
    refine held_take (i := 8) (v := .int .u64 a3) rfl (by kernel_rfl) (by kernel_rfl) (by kernel_rfl) (fun _ _ _ h => h) (by kernel_rfl) LS (fun _ hu => by exact cv_u32 (.tmp 58) rfl (by kernel_rfl) (by omega) (by omega)) ?_
    refine held_take (i := 9) (v := .int .u32 a4) rfl (by kernel_rfl) (by kernel_rfl) (by kernel_rfl) (fun _ _ _ h => h) (by kernel_rfl) LS (fun _ hu => by kernel_rfl) ?_
    refine held_take (i := 10) (v := .int .u64 a4) rfl (by kernel_rfl) (by kernel_rfl) (by kernel_rfl) (fun _ _ _ h => h) (by kernel_rfl) LS (fun _ hu => by exact cv_u32 (.tmp 60) rfl (by kernel_rfl) (by omega) (by omega)) ?_
    refine held_take (i := 11) (v := .int .u32 a5) rfl (by kernel_rfl) (by kernel_rfl) (by kernel_rfl) (fun _ _ _ h => h) (by kernel_rfl) LS (fun _ hu => by kernel_rfl) ?_
    refine held_take (i := 12) (v := .int .u64 a5) rfl (by kernel_rfl) (by kernel_rfl) (by kernel_rfl) (fun _ _ _ h => h) (by kernel_rfl) LS (fun _ hu => by exact cv_u32 (.tmp 62) rfl (by kernel_rfl) (by omega) (by omega)) ?_
    refine held_take (i := 13) (v := .int .u64 (a4 + a5)) rfl (by kernel_rfl) (by kernel_rfl) (by kernel_rfl) (fun _ _ _ h => h) (by kernel_rfl) LS (fun _ hu => by exact ad_u64 (.tmp 61) (.tmp 63) rfl (by kernel_rfl) (by kernel_rfl) (by omega) (by omega)) ?_
    refine held_call (i := 5) (f := 13) (args := #[.agg #[.bool true, .int .u64 a2, .int .u64 a0, .int .u64 a1, .int .u64 0], .int .u64 a3, .int .u64 a4]) rfl (by kernel_rfl) (by kernel_rfl) (by kernel_rfl) ((C1 _).mono ?_)
    rintro e y1 ⟨rfl, LN⟩
    replace LS := LS.trans (LN.mono LS.size)
    refine ⟨_, rfl, LS, ?_⟩
    refine held_call (i := 14) (f := 13) (args := #[.agg #[.bool true, .int .u64 a2, .int .u64 a0, .int .u64 a1, .int .u64 0], .int .u64 a3, .int .u64 (a4 + a5)]) rfl (by kernel_rfl) (by kernel_rfl) (by kernel_rfl) ((C2 _).mono ?_)
    rintro e y2 ⟨rfl, LN⟩
    replace LS := LS.trans (LN.mono LS.size)
    refine ⟨_, rfl, LS, ?_⟩
    refine held_take (i := 15) (v := .int .u64 W1) rfl (by kernel_rfl) (by kernel_rfl) (by kernel_rfl) (fun _ _ _ h => h) (by kernel_rfl) LS (fun _ hu => by kernel_rfl) ?_
    refine held_take (i := 16) (v := .int .u64 W2) rfl (by kernel_rfl) (by kernel_rfl) (by kernel_rfl) (fun _ _ _ h => h) (by kernel_rfl) LS (fun _ hu => by kernel_rfl) ?_
    refine held_done (by kernel_rfl) ?_
    have hL3 := Base.next hL LS
    clear RR C1 C2 CW1 CW2 rB hL LS
    go_wp2
    all_goals go_ret
    all_goals exact ⟨rfl, hL3⟩

set_option maxRecDepth 100000 in
theorem lifted (os : Os) (started : os.Started) (H : Type) (enc : TypeId × Value → H) :
    ReturnsInHanded {} Try.checked os 7 .any (Rows.rttOverSpec.pre6 enc Try.prog Try.f7 Rows.rttOverRow.domain false) (Rows.rttOverSpec.post enc Try.prog Try.f7 false true false false) := by
  refine returnsInHanded_of_change (C := Try.checked) own started (by kernel_rfl) Try.func7
    (ChangeSpec.witness6 (enc := enc) (C := Try.checked) false ⟨#[], #[.int .u32 0, .int .u32 0, .int .u32 0, .int .u32 0, .int .u32 0, .int .u32 0, .bool false], []⟩ 8 (by kernel_rfl) (by kernel_rfl) (by kernel_rfl) (by kernel_rfl)) ?_
  intro W base args ds gs before hval0 hW hcnd _
  have hval : ∀ (j : Nat) t v, Try.f7.params[j]? = some t → args[j]? = some v → Value.okWide Try.prog W .any base t v := hval0
  have hW' := hW
  obtain ⟨p, q, hA0, hV, rfl, hfz, hnd⟩ := hW
  have hA : DataW.TrodAll enc Try.prog W 0 (fun _ => true) true Try.f7.params.toList args.toList ds p := hA0
  rw [Try.params7] at hA hval
  obtain ⟨v0, vs0, d0, ds0, p0, q0, hargs, rfl, rfl, h0, r0⟩ := trodAll_cons hA
  obtain ⟨v1, vs1, d1, ds1, p1, q1, rfl, rfl, rfl, h1, r1⟩ := trodAll_cons r0
  obtain ⟨v2, vs2, d2, ds2, p2, q2, rfl, rfl, rfl, h2, r2⟩ := trodAll_cons r1
  obtain ⟨v3, vs3, d3, ds3, p3, q3, rfl, rfl, rfl, h3, r3⟩ := trodAll_cons r2
  obtain ⟨v4, vs4, d4, ds4, p4, q4, rfl, rfl, rfl, h4, r4⟩ := trodAll_cons r3
  obtain ⟨v5, vs5, d5, ds5, p5, q5, rfl, rfl, rfl, h5, r5⟩ := trodAll_cons r4
  obtain ⟨v6, vs6, d6, ds6, p6, q6, rfl, rfl, rfl, h6, r6⟩ := trodAll_cons r5
  obtain ⟨rfl, rfl, rfl⟩ := trodAll_nil r6
  obtain rfl : args = #[v0, v1, v2, v3, v4, v5, v6] := by cases args; simp_all
  obtain ⟨rfl, rfl⟩ := trodVars_none hV
  obtain ⟨a0, rfl, rfl, rfl, w0⟩ := open_int Try.underlying32 (hval 0 32 v0 rfl rfl) h0
  obtain ⟨a1, rfl, rfl, rfl, w1⟩ := open_int Try.underlying32 (hval 1 32 v1 rfl rfl) h1
  obtain ⟨a2, rfl, rfl, rfl, w2⟩ := open_int Try.underlying32 (hval 2 32 v2 rfl rfl) h2
  obtain ⟨a3, rfl, rfl, rfl, w3⟩ := open_int Try.underlying32 (hval 3 32 v3 rfl rfl) h3
  obtain ⟨a4, rfl, rfl, rfl, w4⟩ := open_int Try.underlying32 (hval 4 32 v4 rfl rfl) h4
  obtain ⟨a5, rfl, rfl, rfl, w5⟩ := open_int Try.underlying32 (hval 5 32 v5 rfl rfl) h5
  obtain ⟨a6, rfl, rfl, rfl⟩ := open_bool Try.underlying4 (hval 6 4 v6 rfl rfl) h6
  clear hA0 hval0
  refine (walk a0 a1 a2 a3 a4 a5 a6 W w0 w1 w2 w3 w4 w5).mono fun e W' ⟨he, bel⟩ => ?_
  subst he
  exact ⟨_, rfl, _, _, _, [], _, [], hW', trodAll_mk1 (shut_bool Try.underlying4 _), (trodAll_cons_mk (shut_int Try.underlying32 w0) (trodAll_cons_mk (shut_int Try.underlying32 w1) (trodAll_cons_mk (shut_int Try.underlying32 w2) (trodAll_cons_mk (shut_int Try.underlying32 w3) (trodAll_cons_mk (shut_int Try.underlying32 w4) (trodAll_cons_mk (shut_int Try.underlying32 w5) (trodAll_cons_mk (shut_bool Try.underlying4 _) trodAll_mk0))))))), rfl, bel.frame _, fun h => by cases h⟩

theorem over : Rows.rttOverRow.holds Try.pinned (OpenSpec.ofChange Rows.rttOverSpec) :=
  OpenClaim.holds_of_wide 7 Try.f7 rfl rfl rfl rfl rfl rfl rfl ⟨rfl, rfl, rfl, rfl, rfl⟩ rfl rfl rfl rfl rfl (by kernel_rfl) Try.func7 (by kernel_rfl)
    (of_decide_eq_true (by kernel_rfl)) (by unfold Func.isWrapper; first | (rw [if_pos (by decide +kernel)]; kernel_rfl) | (rw [if_neg (by decide +kernel)]; exact ⟨rfl, rfl⟩))
    (fun os started H enc _ => lifted os started H enc)

/-- The given statement. -/
theorem proved : Rows.RttOverSaid :=
  over
#print axioms proved
end Go.Proofs.Ytjnnlffpleanpaa.rttOver
