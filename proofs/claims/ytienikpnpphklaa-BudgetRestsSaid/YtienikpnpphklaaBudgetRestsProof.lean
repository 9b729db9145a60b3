/-
  Who rested for an interval is granted as many as may be at once, and no more. No conditions.
-/
import Derived.Test.YtienikpnpphklaaRows
import Derived.Test.YtienikpnpphklaaRow
import Derived.WalkKit
import Derived.ProofKit
import Derived.OpenShut
import Derived.ShutString
import Derived.ChangeOld
import Derived.Below
import Derived.Test.YtienikpnpphklaaBudAlive
namespace Go.Proofs.Ytienikpnpphklaa.budgetRests
open Go.ChangeShapes Go.WideShapes Go.ChangeAt Go.RowKit
open Go.ChangeMaps (open_string shut_string)
open Go.Proofs.Ytienikpnpphklaa.Base
set_option linter.unusedVariables false
set_option linter.unusedSimpArgs false

theorem own : ownKnob Try.prog.godebug = none := by kernel_rfl
theorem laidOut : laidOutB Try.prog = true := by kernel_rfl

open Go.Proofs.Ytienikpnpphklaa.Bud Go.Proofs.Ytienikpnpphklaa.BudPlain
set_option maxHeartbeats 4000000 in
theorem walk (a0 : Int) (a1 : Int) (a2 : Option Addr) (len2 cap2 : Nat) (z2 : List Int) (w : World) (w0 : (Lit.int .u8 a0).wf = true) (w1 : (Lit.int .u16 a1).wf = true) (w2 : Ints .u16 w a2 z2) (n2 : z2.length = len2) (m2 : len2 ≤ cap2) (o2 : cap2 ≤ maxLen) (f2 : ∀ x ∈ z2, (Lit.int .u16 x).wf = true) :
    Calls Try.prog 5 #[.int .u8 a0, .int .u16 a1, .slice a2 len2 cap2] w fun e w' => e = .returned (.bool true) ∧ Below w.heap.size w w' := by
  obtain ⟨m0', m1'⟩ := Base.u8_of w0
  obtain ⟨e0', e1'⟩ := Base.u16_of w1
  subst n2
  have hz : ∀ k, 0 ≤ z2.getD k 0 ∧ z2.getD k 0 ≤ 65535 := fun k => by
    rw [List.getD_eq_getElem?_getD]
    cases e : z2[k]? with
    | none => simp
    | some t => exact Base.u16_of (f2 t (List.mem_of_getElem? e))
  have CN := solo_new (a0 % 8 + 1) (a1 + 1) (by omega) (by omega) (by omega) (by omega) (Below.refl w.heap.size w)
  have CA := fun U => alive_bud U
  have g1 : (newB (a0 % 8 + 1) (a1 + 1)).l = [] := rfl
  have g2 : (newB (a0 % 8 + 1) (a1 + 1)).most = a0 % 8 + 1 := by show max 0 (min (a0 % 8 + 1) 64) = _; omega
  have g3 : (newB (a0 % 8 + 1) (a1 + 1)).every = a1 + 1 := rfl
  have g4 : (newB (a0 % 8 + 1) (a1 + 1)).last = 0 := rfl
  generalize newB (a0 % 8 + 1) (a1 + 1) = g0 at *
  go_enter Try.func5, Try.ntmps5
  by_cases h300 : (300 : Int) < (z2.length : Int)
  · go_wp2_with (first
      | (go_at_call 7; refine CN.mono ?_; rintro e u1 ⟨a, rfl, P1, _⟩)
      | (go_at_call 8; (with_reducible refine (CA u1).mono ?_); rintro e u2 ⟨rfl, L2⟩)
      | (go_at_call 8; (with_reducible refine (CA u2).mono ?_); rintro e u3 ⟨rfl, L3⟩))
    all_goals go_ret
    all_goals exact ⟨rfl, Base.next (Base.next P1.bel L2) L3⟩
  · go_wp2_with (first
      | (go_at_call 7; refine CN.mono ?_; rintro e u1 ⟨a, rfl, P1, _⟩)
      | (go_at_call 8; (with_reducible refine (CA u1).mono ?_); rintro e u2 ⟨rfl, L2⟩; have P2 := P1.next L2))
    clear P1 L2 CN CA
    go_loopw [9, 10] (fun t i wr => ∃ (k : Nat) (g : Bg) (N : Int), k ≤ z2.length ∧ t = .int .u64 N ∧ i = .int .i64 k ∧ g.l.length ≤ k ∧ 0 ≤ N ∧ N ≤ 65535 * k ∧ g.last ≤ N ∧ g.most = a0 % 8 + 1 ∧ g.every = a1 + 1 ∧ Solo w wr a g) (fun _ i _ => z2.length - (intOf i).toNat)
    case atStart => exact ⟨0, g0, 0, Nat.zero_le _, rfl, rfl, by rw [g1]; exact Nat.le_refl _, Int.le_refl _, by decide, by rw [g4]; exact Int.le_refl _, g2, g3, P2⟩
    case round =>
      obtain ⟨k, g, N, hk, rfl, rfl, hgl, N0, N1, hN, hm, he, hS⟩ := hrel
      by_cases hlt : k < z2.length
      · have hkI : (k : Int) < (z2.length : Int) := by omega
        obtain ⟨bz, oz, rfl, hbz, hc⟩ := w2.at_ hlt
        obtain ⟨x0, x1⟩ := hz k
        generalize z2.getD k 0 = x at *
        have hc1 : wr.cell? ⟨bz, oz + k, none⟩ = some (.int .u16 x) := (hS.bel.cell hbz).trans hc
        have C1 := solo_ask hS (by omega) (N + x) (by omega) (by omega)
        have hal := ask_len g (N + x)
        have hl2 : (askG g (N + x)).last ≤ N + x := by show max g.last (N + x) ≤ _; omega
        have hm2 : (askG g (N + x)).most = g.most := rfl
        have he2 : (askG g (N + x)).every = g.every := rfl
        clear hc
        generalize askG g (N + x) = g' at *
        generalize grants g (N + x) = gr at *
        generalize hN2 : N + x = N2 at *
        go_wp2_with (go_at_call 10; (with_reducible refine C1.mono ?_); rintro e u4 ⟨rfl, S4⟩)
        all_goals go_roundw
        case rel => exact ⟨k + 1, g', N2, by omega, rfl, by go_num, by omega, by omega, by omega, hl2, by omega, by omega, S4⟩
        case measure => simp [intOf]; omega
      · obtain rfl : k = z2.length := by omega
        have hall := hS.ok.all
        have hR : Rested g (a0 % 8 + 1) (a1 + 1) (N + a1 + 1) 0 := ⟨hm, he, by omega, g.l, by simp, fun t ht => by have := hall t ht; omega⟩
        clear hall hm he hN
        go_wp2
        go_loopw [11] (fun i wr2 => ∃ (j : Nat) (g2 : Bg), (j : Int) ≤ a0 % 8 + 1 ∧ i = .int .i64 j ∧ g2.l.length ≤ z2.length + j ∧ Rested g2 (a0 % 8 + 1) (a1 + 1) (N + a1 + 1) j ∧ Solo w wr2 a g2) (fun i _ => 9 - (intOf i).toNat)
        case atStart => exact ⟨0, g, by omega, rfl, by omega, hR, hS⟩
        case round =>
          obtain ⟨j, g2, hj, rfl, hl2, hR2, hS2⟩ := hrel
          clear hR hS
          by_cases hjm : (j : Int) < a0 % 8 + 1
          · obtain ⟨hg, hR3⟩ := hR2.more (by omega) hjm
            have C1 := solo_ask hS2 (by omega) (N + a1 + 1) (by omega) (by omega)
            have hal := ask_len g2 (N + a1 + 1)
            rw [hg] at C1
            clear hg hR2
            generalize askG g2 (N + a1 + 1) = g3 at *
            go_wp2_with (go_at_call 10; (with_reducible refine C1.mono ?_); rintro e u5 ⟨rfl, S5⟩)
            all_goals go_roundw
            case rel => exact ⟨j + 1, g3, by omega, by go_num, by omega, hR3, S5⟩
            case measure => simp [intOf]; omega
          · obtain ⟨q1, q2, q3⟩ := hR2.full (by omega) (by omega) (by omega)
            rw [show N + a1 + 1 + (a1 + 1 - 1) = N + a1 + 1 + a1 by omega] at q2 q3
            rw [show N + a1 + 1 + (a1 + 1) = N + a1 + 1 + a1 + 1 by omega] at q3
            have hal := ask_len g2 (N + a1 + 1)
            have hal2 := ask_len (askG g2 (N + a1 + 1)) (N + a1 + 1 + a1)
            have C1 := solo_ask hS2 (by omega) (N + a1 + 1) (by omega) (by omega)
            have C2 := fun U (h : Solo w U a (askG g2 (N + a1 + 1))) => solo_ask h (by omega) (N + a1 + 1 + a1) (by omega) (by omega)
            have C3 := fun U (h : Solo w U a (askG (askG g2 (N + a1 + 1)) (N + a1 + 1 + a1))) => solo_ask h (by omega) (N + a1 + 1 + a1 + 1) (by omega) (by omega)
            rw [q1] at C1
            rw [q2] at C2
            rw [q3] at C3
            clear q1 q2 q3 hR2
            generalize askG (askG g2 (N + a1 + 1)) (N + a1 + 1 + a1) = g4 at *
            generalize askG g2 (N + a1 + 1) = g3 at *
            go_wp2_with (first
              | (go_at_call 10; (with_reducible refine C1.mono ?_); rintro e u5 ⟨rfl, S5⟩)
              | (go_at_call 10; (with_reducible refine (C2 _ S5).mono ?_); rintro e u6 ⟨rfl, S6⟩)
              | (go_at_call 10; (with_reducible refine (C3 _ S6).mono ?_); rintro e u7 ⟨rfl, S7⟩))
            all_goals go_ret
            all_goals exact ⟨rfl, S7.bel⟩

set_option maxRecDepth 100000 in
theorem lifted (os : Os) (started : os.Started) (H : Type) (enc : TypeId × Value → H) :
    ReturnsInHanded {} Try.checked os 5 .any (Rows.budgetRestsSpec.pre6 enc Try.prog Try.f5 Rows.budgetRestsRow.domain false) (Rows.budgetRestsSpec.post enc Try.prog Try.f5 false true false false) := by
  refine returnsInHanded_of_change (C := Try.checked) own started (by kernel_rfl) Try.func5
    (ChangeSpec.witness6 (enc := enc) (C := Try.checked) false ⟨#[], #[.int .u8 0, .int .u16 0, .slice none 0 0], []⟩ 8 (by kernel_rfl) (by kernel_rfl) (by kernel_rfl) (by kernel_rfl)) ?_
  intro W base args ds gs before hval0 hW hcnd _
  have hval : ∀ (j : Nat) t v, Try.f5.params[j]? = some t → args[j]? = some v → Value.okWide Try.prog W .any base t v := hval0
  have hW' := hW
  obtain ⟨p, q, hA0, hV, rfl, hfz, hnd⟩ := hW
  have hA : DataW.TrodAll enc Try.prog W 0 (fun _ => true) true Try.f5.params.toList args.toList ds p := hA0
  rw [Try.params5] at hA hval
  obtain ⟨v0, vs0, d0, ds0, p0, q0, hargs, rfl, rfl, h0, r0⟩ := trodAll_cons hA
  obtain ⟨v1, vs1, d1, ds1, p1, q1, rfl, rfl, rfl, h1, r1⟩ := trodAll_cons r0
  obtain ⟨v2, vs2, d2, ds2, p2, q2, rfl, rfl, rfl, h2, r2⟩ := trodAll_cons r1
  obtain ⟨rfl, rfl, rfl⟩ := trodAll_nil r2
  obtain rfl : args = #[v0, v1, v2] := by cases args; simp_all
  obtain ⟨rfl, rfl⟩ := trodVars_none hV
  obtain ⟨a0, rfl, rfl, rfl, w0⟩ := open_int Try.underlying5 (hval 0 5 v0 rfl rfl) h0
  obtain ⟨a1, rfl, rfl, rfl, w1⟩ := open_int Try.underlying34 (hval 1 34 v1 rfl rfl) h1
  obtain ⟨a2, len2, cap2, rfl⟩ := okWide_slice Try.underlying35 (hval 2 35 v2 rfl rfl)
  have k2 := h2
  have lt2 : ∀ x ∈ p2, x.block < W.heap.size := by obtain ⟨m, hm⟩ := k2; exact DataW.trod_lt m _ _ _ hm
  obtain ⟨z2, w2, n2, m2, o2, f2⟩ : ∃ zs, Ints .u16 W a2 zs ∧ zs.length = len2 ∧ len2 ≤ cap2 ∧ cap2 ≤ maxLen ∧ (∀ x ∈ zs, (Lit.int .u16 x).wf = true) := by
    obtain ⟨fuel, hf⟩ := h2
    rcases open_ints Try.underlying35 Try.underlying34 (by kernel_rfl) hf with ⟨hcs, hx⟩ | ⟨x, l, c, zs, hcs, _, hl, hm, hz, hx, hcell, hwz⟩
    · simp [Value.cells] at hcs
      obtain ⟨rfl, rfl, rfl⟩ := hcs
      exact ⟨[], Row.nil _ _, rfl, Nat.le_refl _, Nat.zero_le _, (fun _ h => by cases h)⟩
    · simp [Value.cells] at hcs
      obtain ⟨rfl, rfl, rfl⟩ := hcs
      exact ⟨zs.take len2, ints_of hl (by simpa using hz) hcell, take_len hl (by simpa using hz), hl, hm, (fun x hx => hwz x (List.mem_of_mem_take hx))⟩
  clear hA0 hval0
  refine (walk a0 a1 a2 len2 cap2 z2 W w0 w1 w2 n2 m2 o2 f2).mono fun e W' ⟨he, bel⟩ => ?_
  subst he
  exact ⟨_, rfl, _, _, _, [], _, [], hW', trodAll_mk1 (shut_bool Try.underlying4 _), (trodAll_cons_mk (shut_int Try.underlying5 w0) (trodAll_cons_mk (shut_int Try.underlying34 w1) (trodAll_cons_mk (Below.trod laidOut (by kernel_rfl) (of_decide_eq_true (by kernel_rfl)) k2 bel lt2) trodAll_mk0))), rfl, bel.frame _, fun h => by cases h⟩

theorem over : Rows.budgetRestsRow.holds Try.pinned (OpenSpec.ofChange Rows.budgetRestsSpec) :=
  OpenClaim.holds_of_wide 5 Try.f5 rfl rfl rfl rfl rfl rfl rfl ⟨rfl, rfl, rfl, rfl, rfl⟩ rfl rfl rfl rfl rfl (by kernel_rfl) Try.func5 (by kernel_rfl)
    (of_decide_eq_true (by kernel_rfl)) (by unfold Func.isWrapper; first | (rw [if_pos (by decide +kernel)]; kernel_rfl) | (rw [if_neg (by decide +kernel)]; exact ⟨rfl, rfl⟩))
    (fun os started H enc _ => lifted os started H enc)

/-- The given statement. -/
theorem proved : Rows.BudgetRestsSaid :=
  over
#print axioms proved
end Go.Proofs.Ytienikpnpphklaa.budgetRests
