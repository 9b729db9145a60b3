/-
  The program's measures of round trips by contract: a sample, a timeout, a window.
-/
import Derived.Test.YtjnnlffpleanpaaRttRef
import Derived.Test.YtjnnlffpleanpaaWideRnd
import Derived.Test.YtjnnlffpleanpaaSat
import Derived.WalkSpells
import Derived.LoopTactic
import Derived.Lib.Hide
import Derived.BigQuiet
import Derived.Deep.QuietTactic
import Derived.Outline
set_option linter.unusedSimpArgs false
set_option linter.unusedVariables false
namespace Go.Proofs.Ytjnnlffpleanpaa.Rtt
set_option linter.unusedVariables false
set_option maxRecDepth 20000
open Go.ChangeShapes Go.WideShapes Go.ChangeAt Go.RowKit
open Go.Proofs.Ytjnnlffpleanpaa.Base Go.Proofs.Ytjnnlffpleanpaa.RttPlain Go.Proofs.Ytjnnlffpleanpaa.Hop

theorem blend_bd {k P x : Int} (k0 : 0 ≤ k) (k1 : k ≤ 7) (P0 : 0 ≤ P) (P1 : P ≤ k * 18446744073709551615) (x0 : 0 ≤ x) (x1 : x ≤ 18446744073709551615) :
    0 ≤ P % 18446744073709551616 ∧ 0 ≤ P / 18446744073709551616 + (P % 18446744073709551616 + x) / 18446744073709551616 ∧ P / 18446744073709551616 + (P % 18446744073709551616 + x) / 18446744073709551616 < k + 1 ∧ 0 ≤ (P + x) % 18446744073709551616 ∧ (P + x) % 18446744073709551616 ≤ 18446744073709551615 ∧ (P / 18446744073709551616 + (P % 18446744073709551616 + x) / 18446744073709551616) * 18446744073709551616 + (P + x) % 18446744073709551616 = P + x := by
  refine ⟨?_, ?_, ?_, ?_, ?_, ?_⟩ <;> omega
theorem wrap_sm {a : Int} (a0 : 0 ≤ a) (a1 : a < 8) : IntKind.u64.wrap a = a := by
  rw [IntKind.wrap_u64]
  omega
set_option maxHeartbeats 1000000 in
theorem blend7 (s x : Int) (s0 : 0 ≤ s) (s1 : s ≤ 18446744073709551615) (x0 : 0 ≤ x) (x1 : x ≤ 18446744073709551615) (w : World) :
    Calls Try.prog 15 #[.int .u64 7, .int .u64 s, .int .u64 x] w fun e w' => e = .returned (.int .u64 ((7 * s + x) / 8)) ∧ Below w.heap.size w w' := by
  obtain ⟨P, hP⟩ : ∃ P : Int, P = 7 * s := ⟨_, rfl⟩
  have HM := fun V => Wide.mul_any 7 s (by decide) (by decide) s0 s1 V
  rw [← hP] at HM ⊢
  obtain ⟨m0, h0, h1, l0, l1, e⟩ := blend_bd (k := 7) (P := P) (by decide) (by decide) (by omega) (by omega) x0 x1
  have W1 := wrap_sm h0 (by omega)
  have E := Lib.hid e
  clear e hP s0 s1
  go_enter Try.func15, Try.ntmps15
  go_wp2_with (first
    | (go_at_call 25; refine (HM _).mono ?_; rintro e w' ⟨rfl, rfl⟩)
    | (simp only [Bits.add64_0 (P % 18446744073709551616) x m0 x0])
    | (go_at_call 27; refine (Wide.div_yes _ _ 8 h0 h1 l0 l1 (by decide) _).mono ?_; rw [E.out]; rintro e w' ⟨rfl, hb⟩))
  go_ret
  exact ⟨rfl, hb⟩
set_option maxHeartbeats 1000000 in
theorem blend3 (s x : Int) (s0 : 0 ≤ s) (s1 : s ≤ 18446744073709551615) (x0 : 0 ≤ x) (x1 : x ≤ 18446744073709551615) (w : World) :
    Calls Try.prog 15 #[.int .u64 3, .int .u64 s, .int .u64 x] w fun e w' => e = .returned (.int .u64 ((3 * s + x) / 4)) ∧ Below w.heap.size w w' := by
  obtain ⟨P, hP⟩ : ∃ P : Int, P = 3 * s := ⟨_, rfl⟩
  have HM := fun V => Wide.mul_any 3 s (by decide) (by decide) s0 s1 V
  rw [← hP] at HM ⊢
  obtain ⟨m0, h0, h1, l0, l1, e⟩ := blend_bd (k := 3) (P := P) (by decide) (by decide) (by omega) (by omega) x0 x1
  have W1 := wrap_sm h0 (by omega)
  have E := Lib.hid e
  clear e hP s0 s1
  go_enter Try.func15, Try.ntmps15
  go_wp2_with (first
    | (go_at_call 25; refine (HM _).mono ?_; rintro e w' ⟨rfl, rfl⟩)
    | (simp only [Bits.add64_0 (P % 18446744073709551616) x m0 x0])
    | (go_at_call 27; refine (Wide.div_yes _ _ 4 h0 h1 l0 l1 (by decide) _).mono ?_; rw [E.out]; rintro e w' ⟨rfl, hb⟩))
  go_ret
  exact ⟨rfl, hb⟩
set_option maxHeartbeats 2000000 in
theorem sample_any (r : Rt) (hr : RFit r) (x : Int) (x0 : 0 ≤ x) (x1 : x ≤ 18446744073709551615) (w : World) :
    Calls Try.prog 9 #[.agg (rcells r), .int .u64 x] w fun e w' => e = .returned (.agg (rcells (sampleR r x))) ∧ Below w.heap.size w w' := by
  obtain ⟨a0, a1, b0, b1, c0, c1, d0, d1⟩ := hr
  obtain ⟨h, l, s, d, m⟩ := r
  simp only at a0 a1 b0 b1 c0 c1 d0 d1
  unfold rcells
  have q1 : x.tdiv 2 = x / 2 := Int.tdiv_eq_ediv_of_nonneg x0
  go_enter Try.func9, Try.ntmps9
  go_upto_region 1 with fail
  refine at_any ?_
  intro W hW
  obtain ⟨rB, oB, hL, hWs⟩ : Blk W w.heap.size #[.bool h, .int .u64 l, .int .u64 s, .int .u64 d, .int .u64 m] 24 ∧ Blk W (w.heap.size + 1) #[.bool false, .int .u64 0, .int .u64 0, .int .u64 0, .int .u64 0] 24 ∧ Below w.heap.size w W ∧ w.heap.size + 1 < W.heap.size := by
    have h1 := Blk.new w #[.bool h, .int .u64 l, .int .u64 s, .int .u64 d, .int .u64 m] 24
    have h2 := Blk.new (w.alloc (.cells #[.bool h, .int .u64 l, .int .u64 s, .int .u64 d, .int .u64 m] 24)) #[.bool false, .int .u64 0, .int .u64 0, .int .u64 0, .int .u64 0] 24
    rw [World.size_alloc] at h2
    subst hW
    exact ⟨h1.alloc _, h2, ((Below.refl _ _).alloc (Nat.le_refl _) _).alloc (by simp) _, h2.lt⟩
  clear hW
  have k0 : W.cell? ⟨w.heap.size, 0, none⟩ = some (.bool h) := rB.cell 0
  cases h with
  | false =>
    go_wp2_with (refine wpl_store_row rfl 24 (.tmp 4) (.tmp 13) rfl oB #[.bool true, .int .u64 x, .int .u64 x, .int .u64 (x / 2), .int .u64 x] rfl rfl (by kernel_rfl) rfl (by simp [Value.oneCell']) ?_)
    refine bodyPost_ret (results_cell_row rfl _ _ (w.heap.size + 1) 24 #[.bool true, .int .u64 x, .int .u64 x, .int .u64 (x / 2), .int .u64 x] (0, 0) _ rfl (oB.setRow _) Try.underlying24 rfl (by kernel_rfl)) rfl ?_
    exact ⟨rfl, below_setRow' hL (by omega)⟩
  | true =>
    go_upto_region 3 with fail
    have KB := fun V (hV : Fr (fun k => k = w.heap.size + 1) W V) => rB.kept hV (by omega)
    have CD := fun V => Sat.diff_any s x b0 b1 x0 x1 V
    have hd := Sat.diff_bd b0 x0 b1 x1
    have C1 := fun V => blend7 s x b0 b1 x0 x1 V
    have C2 := fun V => blend3 d (Sat.diff s x) c0 c1 hd.1 hd.2 V
    have LB : Below W.heap.size W W.drew := Base.drew1 (Below.refl _ _)
    have LS : Fr (fun k => k = w.heap.size + 1) W W.drew := Fr.of_below LB
    refine held_start (fun v => Fr (fun k => k = w.heap.size + 1) W v) (by kernel_rfl) ?_
    refine held_take (i := 0) (v := .int .u64 x) rfl (by kernel_rfl) (by kernel_rfl) (by kernel_rfl) (fun _ _ _ h => h) (by kernel_rfl) LS (fun _ hu => by kernel_rfl) ?_
    refine held_take (i := 1) (v := .pointer (some ⟨w.heap.size, 2, none⟩)) rfl (by kernel_rfl) (by kernel_rfl) (by kernel_rfl) (fun _ _ _ h => h) (by kernel_rfl) LS (fun _ hu => by kernel_rfl) ?_
    refine held_take (i := 2) (v := .int .u64 s) rfl (by kernel_rfl) (by kernel_rfl) (by kernel_rfl) (fun _ _ _ h => h) (by kernel_rfl) LS (fun _ hu => by exact lb_any 22 (.tmp 15) rfl (by kernel_rfl) (by kernel_rfl) ((KB _ hu).cell 2)) ?_
    refine held_take (i := 3) (v := .int .u64 x) rfl (by kernel_rfl) (by kernel_rfl) (by kernel_rfl) (fun _ _ _ h => h) (by kernel_rfl) LS (fun _ hu => by kernel_rfl) ?_
    refine held_take (i := 5) (v := .pointer (some ⟨w.heap.size, 3, none⟩)) rfl (by kernel_rfl) (by kernel_rfl) (by kernel_rfl) (fun _ _ _ h => h) (by kernel_rfl) LS (fun _ hu => by kernel_rfl) ?_
    refine held_take (i := 6) (v := .int .u64 d) rfl (by kernel_rfl) (by kernel_rfl) (by kernel_rfl) (fun _ _ _ h => h) (by kernel_rfl) LS (fun _ hu => by exact lb_any 22 (.tmp 19) rfl (by kernel_rfl) (by kernel_rfl) ((KB _ hu).cell 3)) ?_
    refine held_take (i := 7) (v := .pointer (some ⟨w.heap.size, 2, none⟩)) rfl (by kernel_rfl) (by kernel_rfl) (by kernel_rfl) (fun _ _ _ h => h) (by kernel_rfl) LS (fun _ hu => by kernel_rfl) ?_
    refine held_take (i := 8) (v := .int .u64 s) rfl (by kernel_rfl) (by kernel_rfl) (by kernel_rfl) (fun _ _ _ h => h) (by kernel_rfl) LS (fun _ hu => by exact lb_any 22 (.tmp 21) rfl (by kernel_rfl) (by kernel_rfl) ((KB _ hu).cell 2)) ?_
    refine held_take (i := 9) (v := .int .u64 x) rfl (by kernel_rfl) (by kernel_rfl) (by kernel_rfl) (fun _ _ _ h => h) (by kernel_rfl) LS (fun _ hu => by kernel_rfl) ?_
    refine held_take (i := 12) (v := .pointer (some ⟨w.heap.size, 4, none⟩)) rfl (by kernel_rfl) (by kernel_rfl) (by kernel_rfl) (fun _ _ _ h => h) (by kernel_rfl) LS (fun _ hu => by kernel_rfl) ?_
    refine held_take (i := 13) (v := .int .u64 m) rfl (by kernel_rfl) (by kernel_rfl) (by kernel_rfl) (fun _ _ _ h => h) (by kernel_rfl) LS (fun _ hu => by exact lb_any 22 (.tmp 26) rfl (by kernel_rfl) (by kernel_rfl) ((KB _ hu).cell 4)) ?_
    refine held_take (i := 14) (v := .int .u64 x) rfl (by kernel_rfl) (by kernel_rfl) (by kernel_rfl) (fun _ _ _ h => h) (by kernel_rfl) LS (fun _ hu => by kernel_rfl) ?_
    refine held_take (i := 15) (v := .int .u64 (min m x)) rfl (by kernel_rfl) (by kernel_rfl) (by kernel_rfl) (fun _ _ _ h => h) (by kernel_rfl) LS (fun _ hu => by exact mn_u64 (.tmp 27) (.tmp 28) _ (n := m) (m := x) rfl (by kernel_rfl) (by kernel_rfl)) ?_
    refine held_call (i := 4) (f := 15) (args := #[.int .u64 7, .int .u64 s, .int .u64 x]) rfl (by kernel_rfl) (by kernel_rfl) (by kernel_rfl) ((C1 _).mono ?_)
    rintro e y1 ⟨rfl, LN⟩
    replace LB := LB.trans (LN.mono LB.size)
    replace LS : Fr (fun k => k = w.heap.size + 1) W _ := Fr.of_below LB
    refine ⟨_, rfl, LS, ?_⟩
    refine held_call (i := 10) (f := 16) (args := #[.int .u64 s, .int .u64 x]) rfl (by kernel_rfl) (by kernel_rfl) (by kernel_rfl) ((CD _).mono ?_)
    rintro e y2 ⟨rfl, rfl⟩
    refine ⟨_, rfl, LS, ?_⟩
    refine held_call (i := 11) (f := 15) (args := #[.int .u64 3, .int .u64 d, .int .u64 (Sat.diff s x)]) rfl (by kernel_rfl) (by kernel_rfl) (by kernel_rfl) ((C2 _).mono ?_)
    rintro e y3 ⟨rfl, LN⟩
    replace LB := LB.trans (LN.mono LB.size)
    replace LS : Fr (fun k => k = w.heap.size + 1) W _ := Fr.of_below LB
    refine ⟨_, rfl, LS, ?_⟩
    refine held_take (i := 16) (v := .agg #[.bool true, .int .u64 x, .int .u64 ((7 * s + x) / 8), .int .u64 ((3 * d + Sat.diff s x) / 4), .int .u64 (min m x)]) rfl (by kernel_rfl) (by kernel_rfl) (by kernel_rfl) (fun _ _ _ h => h) (by kernel_rfl) LS (fun _ hu => by kernel_rfl) ?_
    have oB3 := oB.below LB oB.lt
    have SF := LS.setRow (g := w.heap.size + 1) (fun _ => rfl) #[.bool true, .int .u64 x, .int .u64 ((7 * s + x) / 8), .int .u64 ((3 * d + Sat.diff s x) / 4), .int .u64 (min m x)]
    refine held_st (i := 17) rfl (by kernel_rfl) (by kernel_rfl) (st_row 24 (.tmp 4) (.tmp 30) rfl (g := w.heap.size + 1) (cells := #[.bool true, .int .u64 x, .int .u64 ((7 * s + x) / 8), .int .u64 ((3 * d + Sat.diff s x) / 4), .int .u64 (min m x)]) (by kernel_rfl) (by kernel_rfl) oB3 (by kernel_rfl) rfl (by simp [Value.oneCell'])) SF ?_
    refine held_end 4 (.pointer (some ⟨w.heap.size + 1, 0, none⟩)) (by kernel_rfl) (by kernel_rfl) (by kernel_rfl) fun a' hd' hv => ?_
    go_wp2
    refine bodyPost_ret (results_cell_row rfl _ _ (w.heap.size + 1) 24 #[.bool true, .int .u64 x, .int .u64 ((7 * s + x) / 8), .int .u64 ((3 * d + Sat.diff s x) / 4), .int .u64 (min m x)] (0, 0) _ hv (oB3.setRow _) Try.underlying24 rfl (by kernel_rfl)) hd' ?_
    exact ⟨rfl, below_setRow' (hL.trans (LB.mono hL.size)) (by omega)⟩
set_option maxHeartbeats 2000000 in
theorem timeout_any (r : Rt) (hr : RFit r) (f g : Int) (f0 : 0 ≤ f) (f1 : f ≤ 18446744073709551615) (g0 : 0 ≤ g) (g1 : g ≤ 18446744073709551615) (w : World) :
    Calls Try.prog 11 #[.agg (rcells r), .int .u64 f, .int .u64 g] w fun e w' => e = .returned (.int .u64 (timeoutR r f g)) ∧ Below w.heap.size w w' := by
  obtain ⟨a0, a1, b0, b1, c0, c1, d0, d1⟩ := hr
  obtain ⟨h, l, s, d, m⟩ := r
  simp only at a0 a1 b0 b1 c0 c1 d0 d1
  unfold rcells
  go_enter Try.func11, Try.ntmps11
  go_upto_region 1 with fail
  refine at_any ?_
  intro W hW
  obtain ⟨rB, hL⟩ : Blk W w.heap.size #[.bool h, .int .u64 l, .int .u64 s, .int .u64 d, .int .u64 m] 24 ∧ Below w.heap.size w W := by
    subst hW
    exact ⟨Blk.new _ _ _, (Below.refl _ _).alloc (Nat.le_refl _) _⟩
  clear hW
  have k0 : W.cell? ⟨w.heap.size, 0, none⟩ = some (.bool h) := rB.cell 0
  have k1 : W.cell? ⟨w.heap.size, 1, none⟩ = some (.int .u64 l) := rB.cell 1
  have k2 : W.cell? ⟨w.heap.size, 2, none⟩ = some (.int .u64 s) := rB.cell 2
  have hlt := rB.lt
  cases h with
  | false =>
    have hm := Sat.mul_bd (show (0 : Int) ≤ 2 by decide) f0
    have CM := Sat.mul_any 2 f (by decide) (by decide) f0 f1 W
    have CA := Sat.add_any f (max (Sat.mul 2 f) g) f0 f1 (by omega) (by omega) W
    go_wp2_with (first
      | (go_at_call 20; refine CM.mono ?_; rintro e u1 ⟨rfl, rfl⟩)
      | (refine wpl_value (v := .int .u64 (max (Sat.mul 2 f) g)) rfl (mx_u64 (.tmp 12) (.tmp 13) _ (n := Sat.mul 2 f) (m := g) rfl rfl rfl) ?_)
      | (go_at_call 19; refine CA.mono ?_; rintro e u2 ⟨rfl, rfl⟩))
    all_goals go_ret
    all_goals exact ⟨rfl, hL⟩
  | true =>
    have hm := Sat.mul_bd (show (0 : Int) ≤ 4 by decide) c0
    have CM := fun V => Sat.mul_any 4 d (by decide) (by decide) c0 c1 V
    have CA := fun V => Sat.add_any s (max (Sat.mul 4 d) g) b0 b1 (by omega) (by omega) V
    go_upto_region 3 with fail
    have KB := fun V (hV : Below W.heap.size W V) => rB.below hV rB.lt
    have LS : Below W.heap.size W W.drew := Base.drew1 (Below.refl _ _)
    refine held_start (fun v => Below W.heap.size W v) (by kernel_rfl) ?_
    refine held_take (i := 0) (v := .pointer (some ⟨w.heap.size, 2, none⟩)) rfl (by kernel_rfl) (by kernel_rfl) (by kernel_rfl) (fun _ _ _ h => h) (by kernel_rfl) LS (fun _ hu => by kernel_rfl) ?_
    refine held_take (i := 1) (v := .int .u64 s) rfl (by kernel_rfl) (by kernel_rfl) (by kernel_rfl) (fun _ _ _ h => h) (by kernel_rfl) LS (fun _ hu => by exact lb_any 22 (.tmp 16) rfl (by kernel_rfl) (by kernel_rfl) ((KB _ hu).cell 2)) ?_
    refine held_take (i := 2) (v := .pointer (some ⟨w.heap.size, 3, none⟩)) rfl (by kernel_rfl) (by kernel_rfl) (by kernel_rfl) (fun _ _ _ h => h) (by kernel_rfl) LS (fun _ hu => by kernel_rfl) ?_
    refine held_take (i := 3) (v := .int .u64 d) rfl (by kernel_rfl) (by kernel_rfl) (by kernel_rfl) (fun _ _ _ h => h) (by kernel_rfl) LS (fun _ hu => by exact lb_any 22 (.tmp 18) rfl (by kernel_rfl) (by kernel_rfl) ((KB _ hu).cell 3)) ?_
    refine held_take (i := 5) (v := .int .u64 g) rfl (by kernel_rfl) (by kernel_rfl) (by kernel_rfl) (fun _ _ _ h => h) (by kernel_rfl) LS (fun _ hu => by kernel_rfl) ?_
    refine held_call (i := 4) (f := 20) (args := #[.int .u64 4, .int .u64 d]) rfl (by kernel_rfl) (by kernel_rfl) (by kernel_rfl) ((CM _).mono ?_)
    rintro e y1 ⟨rfl, rfl⟩
    refine ⟨_, rfl, LS, ?_⟩
    refine held_take (i := 6) (v := .int .u64 (max (Sat.mul 4 d) g)) rfl (by kernel_rfl) (by kernel_rfl) (by kernel_rfl) (fun _ _ _ h => h) (by kernel_rfl) LS (fun _ hu => by exact mx_u64 (.tmp 20) (.tmp 21) _ (n := Sat.mul 4 d) (m := g) rfl (by kernel_rfl) (by kernel_rfl)) ?_
    refine held_call (i := 7) (f := 19) (args := #[.int .u64 s, .int .u64 (max (Sat.mul 4 d) g)]) rfl (by kernel_rfl) (by kernel_rfl) (by kernel_rfl) ((CA _).mono ?_)
    rintro e y2 ⟨rfl, rfl⟩
    refine ⟨_, rfl, LS, ?_⟩
    refine held_take (i := 8) (v := .int .u64 (Sat.add s (max (Sat.mul 4 d) g))) rfl (by kernel_rfl) (by kernel_rfl) (by kernel_rfl) (fun _ _ _ h => h) (by kernel_rfl) LS (fun _ hu => by kernel_rfl) ?_
    refine held_end 6 (.int .u64 (Sat.add s (max (Sat.mul 4 d) g))) (by kernel_rfl) (by kernel_rfl) (by kernel_rfl) fun a' hd hv => ?_
    go_wp2
    refine bodyPost_ret (results_tmp rfl _ _ _) hd ?_
    rw [hv]
    exact ⟨rfl, hL.trans (LS.mono hL.size)⟩
set_option maxHeartbeats 2000000 in
theorem window_any (r : Rt) (hr : RFit r) (f g : Int) (f0 : 0 ≤ f) (f1 : f ≤ 18446744073709551615) (g0 : 0 ≤ g) (g1 : g ≤ 18446744073709551615) (w : World) :
    Calls Try.prog 13 #[.agg (rcells r), .int .u64 f, .int .u64 g] w fun e w' => e = .returned (.int .u64 (windowR r f g)) ∧ Below w.heap.size w w' := by
  obtain ⟨a0, a1, b0, b1, c0, c1, d0, d1⟩ := hr
  obtain ⟨h, l, s, d, m⟩ := r
  simp only at a0 a1 b0 b1 c0 c1 d0 d1
  unfold rcells
  go_enter Try.func13, Try.ntmps13
  go_upto_region 1 with fail
  refine at_any ?_
  intro W hW
  obtain ⟨rB, hL⟩ : Blk W w.heap.size #[.bool h, .int .u64 l, .int .u64 s, .int .u64 d, .int .u64 m] 24 ∧ Below w.heap.size w W := by
    subst hW
    exact ⟨Blk.new _ _ _, (Below.refl _ _).alloc (Nat.le_refl _) _⟩
  clear hW
  have k0 : W.cell? ⟨w.heap.size, 0, none⟩ = some (.bool h) := rB.cell 0
  have k1 : W.cell? ⟨w.heap.size, 1, none⟩ = some (.int .u64 l) := rB.cell 1
  have k2 : W.cell? ⟨w.heap.size, 2, none⟩ = some (.int .u64 s) := rB.cell 2
  have hlt := rB.lt
  cases h with
  | false =>
    have CD := Wide.down_any f 9 8 f0 f1 (by decide) (by decide) (by decide) (by decide) W
    go_wp2_with (first
      | (go_at_call 23; refine CD.mono ?_; rintro e u1 ⟨rfl, L1⟩)
      | (refine wpl_value (v := .int .u64 (max (Wide.down f 9 8) g)) rfl (mx_u64 (.tmp 17) (.tmp 18) _ (n := Wide.down f 9 8) (m := g) rfl rfl rfl) ?_))
    all_goals go_ret
    all_goals exact ⟨Sat.ret_u64 (Int.max_comm _ _), hL.trans (L1.mono hL.size)⟩
  | true =>
    have CD := Wide.down_any (max s l) 9 8 (by omega) (by omega) (by decide) (by decide) (by decide) (by decide) W
    go_wp2_with (first
      | (refine wpl_value (v := .int .u64 (max s l)) rfl (mx_u64 (.tmp 12) (.tmp 14) _ (n := s) (m := l) rfl rfl rfl) ?_)
      | (go_at_call 23; refine CD.mono ?_; rintro e u1 ⟨rfl, L1⟩)
      | (refine wpl_value (v := .int .u64 (max (Wide.down (max s l) 9 8) g)) rfl (mx_u64 (.tmp 17) (.tmp 18) _ (n := Wide.down (max s l) 9 8) (m := g) rfl rfl rfl) ?_))
    all_goals go_ret
    all_goals exact ⟨Sat.ret_u64 (Int.max_comm _ _), hL.trans (L1.mono hL.size)⟩
end Go.Proofs.Ytjnnlffpleanpaa.Rtt
