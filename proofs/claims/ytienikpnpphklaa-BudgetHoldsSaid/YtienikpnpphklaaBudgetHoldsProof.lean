/-
  In no interval more is granted than may be, whatever is asked when. No conditions.
-/
import Derived.Test.YtienikpnpphklaaRows
import Derived.Test.YtienikpnpphklaaRow
import Derived.WalkKit
import Derived.ProofKit
import Derived.OpenShut
import Derived.ShutString
import Derived.ChangeOld
import Derived.Below
import Derived.Test.YtienikpnpphklaaBudAlive
namespace Go.Proofs.Ytienikpnpphklaa.budgetHolds
open Go.ChangeShapes Go.WideShapes Go.ChangeAt Go.RowKit
open Go.ChangeMaps (open_string shut_string)
open Go.Proofs.Ytienikpnpphklaa.Base
set_option linter.unusedVariables false
set_option linter.unusedSimpArgs false

theorem own : ownKnob Try.prog.godebug = none := by kernel_rfl
theorem laidOut : laidOutB Try.prog = true := by kernel_rfl

open Go.Proofs.Ytienikpnpphklaa.Bud Go.Proofs.Ytienikpnpphklaa.BudPlain
set_option maxHeartbeats 4000000 in
theorem walk (a0 : Int) (a1 : Int) (a2 : Option Addr) (len2 cap2 : Nat) (z2 : List Int) (a3 : Int) (w : World) (w0 : (Lit.int .u8 a0).wf = true) (w1 : (Lit.int .u16 a1).wf = true) (w2 : Ints .u16 w a2 z2) (n2 : z2.length = len2) (m2 : len2 ≤ cap2) (o2 : cap2 ≤ maxLen) (f2 : ∀ x ∈ z2, (Lit.int .u16 x).wf = true) (w3 : (Lit.int .u32 a3).wf = true) :
    Calls Try.prog 4 #[.int .u8 a0, .int .u16 a1, .slice a2 len2 cap2, .int .u32 a3] w fun e w' => e = .returned (.bool true) ∧ Below w.heap.size w w' := by
  obtain ⟨m0', m1'⟩ := Base.u8_of w0
  obtain ⟨e0', e1'⟩ := Base.u16_of w1
  obtain ⟨r0', r1'⟩ := Base.u32_of w3
  subst n2
  have hz : ∀ k, 0 ≤ z2.getD k 0 ∧ z2.getD k 0 ≤ 65535 := fun k => by
    rw [List.getD_eq_getElem?_getD]
    cases e : z2[k]? with
    | none => simp
    | some t => exact Base.u16_of (f2 t (List.mem_of_getElem? e))
  have CN := solo_new (a0 % 8) a1 (by omega) (by omega) e0' (by omega) (Below.refl w.heap.size w)
  have CA := fun U => alive_bud U
  have g1 : (newB (a0 % 8) a1).l = [] := rfl
  have g2 : (newB (a0 % 8) a1).most = a0 % 8 := by show max 0 (min (a0 % 8) 64) = _; omega
  have g3 : (newB (a0 % 8) a1).every = a1 := rfl
  have g4 : (newB (a0 % 8) a1).last = 0 := rfl
  generalize newB (a0 % 8) a1 = g0 at *
  go_enter Try.func4, Try.ntmps4
  by_cases h300 : (300 : Int) < (z2.length : Int)
  · go_wp2_with (first
      | (go_at_call 7; refine CN.mono ?_; rintro e u1 ⟨a, rfl, P1, _⟩)
      | (go_at_call 8; (with_reducible refine (CA u1).mono ?_); rintro e u2 ⟨rfl, L2⟩)
      | (go_at_call 8; (with_reducible refine (CA u2).mono ?_); rintro e u3 ⟨rfl, L3⟩))
    all_goals go_ret
    all_goals exact ⟨rfl, Base.next (Base.next P1.bel L2) L3⟩
  · go_wp2_with (first
      | (go_at_call 7; refine CN.mono ?_; rintro e u1 ⟨a, rfl, P1, _⟩)
      | (go_at_call 8; (with_reducible refine (CA u1).mono ?_); rintro e u2 ⟨rfl, L2⟩; have P2 := P1.next L2))
    clear P1 L2 CN CA
    go_loopw [10, 11, 12] (fun t n i wr => ∃ (k : Nat) (g : Bg) (N : Int), k ≤ z2.length ∧ t = .int .u64 N ∧ n = .int .i64 (inW a3 a1 g.l) ∧ i = .int .i64 k ∧ g.l.length ≤ k ∧ 0 ≤ N ∧ N ≤ 2000 * k ∧ g.last ≤ N ∧ inW a3 a1 g.l ≤ g.most ∧ g.most = a0 % 8 ∧ g.every = a1 ∧ Solo w wr a g) (fun _ _ i _ => z2.length - (intOf i).toNat)
    case atStart => exact ⟨0, g0, 0, Nat.zero_le _, rfl, by rw [g1]; rfl, rfl, by rw [g1]; exact Nat.le_refl _, Int.le_refl _, by decide, by rw [g4]; exact Int.le_refl _, by rw [g1, g2]; show (0 : Int) ≤ _; omega, g2, g3, P2⟩
    case round =>
      obtain ⟨k, g, N, hk, rfl, rfl, rfl, hgl, N0, N1, hN, hw, hm, he, hS⟩ := hrel
      by_cases hlt : k < z2.length
      · have hkI : (k : Int) < (z2.length : Int) := by omega
        obtain ⟨bz, oz, rfl, hbz, hc⟩ := w2.at_ hlt
        obtain ⟨x0, x1⟩ := hz k
        generalize z2.getD k 0 = x at *
        have hc1 : wr.cell? ⟨bz, oz + k, none⟩ = some (.int .u16 x) := (hS.bel.cell hbz).trans hc
        have C1 := solo_ask hS (by omega) (N + x % 2000) (by omega) (by omega)
        have hal := ask_len g (N + x % 2000)
        have hH := ask_holds hS.ok (f := a3) (e := a1) (now := N + x % 2000) he (by omega) hw
        have hl2 : (askG g (N + x % 2000)).last ≤ N + x % 2000 := by show max g.last (N + x % 2000) ≤ _; omega
        have hm2 : (askG g (N + x % 2000)).most = g.most := rfl
        have he2 : (askG g (N + x % 2000)).every = g.every := rfl
        have hnn := inW_nonneg a3 a1 g.l
        obtain ⟨hH1, hH2⟩ := hH
        have hH := Lib.hid hH2
        clear hH2 hc
        generalize askG g (N + x % 2000) = g' at *
        generalize hgr : grants g (N + x % 2000) = gr at *
        clear hgr
        generalize hN2 : N + x % 2000 = N2 at *
        generalize inW a3 a1 g.l = n0 at *
        cases gr with
        | false =>
          have hv : inW a3 a1 g'.l = n0 := by rw [hH.out, if_neg (fun h => by cases h.1), Int.add_zero]
          replace hv := Lib.hid hv
          go_wp2_with (go_at_call 10; (with_reducible refine C1.mono ?_); rintro e u4 ⟨rfl, S4⟩)
          all_goals go_roundw
          case rel => exact ⟨k + 1, g', N2, by omega, rfl, by rw [hv.out], by go_num, by omega, by omega, by omega, hl2, by rw [hm2]; exact hH1, by omega, by omega, S4⟩
          case measure => simp [intOf]; omega
        | true =>
          by_cases t1 : a3 ≤ N2
          · by_cases t2 : N2 - a3 < a1
            · have hv : inW a3 a1 g'.l = n0 + 1 := by rw [hH.out, if_pos ⟨rfl, t1, t2⟩]
              replace hv := Lib.hid hv
              go_wp2_with (go_at_call 10; (with_reducible refine C1.mono ?_); rintro e u4 ⟨rfl, S4⟩)
              all_goals go_roundw
              case rel => exact ⟨k + 1, g', N2, by omega, rfl, by rw [hv.out], by go_num, by omega, by omega, by omega, hl2, by rw [hm2]; exact hH1, by omega, by omega, S4⟩
              case measure => simp [intOf]; omega
            · have hv : inW a3 a1 g'.l = n0 := by rw [hH.out, if_neg (fun h => t2 h.2.2), Int.add_zero]
              replace hv := Lib.hid hv
              go_wp2_with (go_at_call 10; (with_reducible refine C1.mono ?_); rintro e u4 ⟨rfl, S4⟩)
              all_goals go_roundw
              case rel => exact ⟨k + 1, g', N2, by omega, rfl, by rw [hv.out], by go_num, by omega, by omega, by omega, hl2, by rw [hm2]; exact hH1, by omega, by omega, S4⟩
              case measure => simp [intOf]; omega
          · have hv : inW a3 a1 g'.l = n0 := by rw [hH.out, if_neg (fun h => t1 h.2.1), Int.add_zero]
            replace hv := Lib.hid hv
            go_wp2_with (go_at_call 10; (with_reducible refine C1.mono ?_); rintro e u4 ⟨rfl, S4⟩)
            all_goals go_roundw
            case rel => exact ⟨k + 1, g', N2, by omega, rfl, by rw [hv.out], by go_num, by omega, by omega, by omega, hl2, by rw [hm2]; exact hH1, by omega, by omega, S4⟩
            case measure => simp [intOf]; omega
      · obtain rfl : k = z2.length := by omega
        have hle : inW a3 a1 g.l ≤ a0 % 8 := by omega
        generalize inW a3 a1 g.l = n0 at *
        go_wp2
        all_goals go_ret
        all_goals exact ⟨rfl, hS.bel⟩

set_option maxRecDepth 100000 in
theorem lifted (os : Os) (started : os.Started) (H : Type) (enc : TypeId × Value → H) :
    ReturnsInHanded {} Try.checked os 4 .any (Rows.budgetHoldsSpec.pre6 enc Try.prog Try.f4 Rows.budgetHoldsRow.domain false) (Rows.budgetHoldsSpec.post enc Try.prog Try.f4 false true false false) := by
  refine returnsInHanded_of_change (C := Try.checked) own started (by kernel_rfl) Try.func4
    (ChangeSpec.witness6 (enc := enc) (C := Try.checked) false ⟨#[], #[.int .u8 0, .int .u16 0, .slice none 0 0, .int .u32 0], []⟩ 8 (by kernel_rfl) (by kernel_rfl) (by kernel_rfl) (by kernel_rfl)) ?_
  intro W base args ds gs before hval0 hW hcnd _
  have hval : ∀ (j : Nat) t v, Try.f4.params[j]? = some t → args[j]? = some v → Value.okWide Try.prog W .any base t v := hval0
  have hW' := hW
  obtain ⟨p, q, hA0, hV, rfl, hfz, hnd⟩ := hW
  have hA : DataW.TrodAll enc Try.prog W 0 (fun _ => true) true Try.f4.params.toList args.toList ds p := hA0
  rw [Try.params4] at hA hval
  obtain ⟨v0, vs0, d0, ds0, p0, q0, hargs, rfl, rfl, h0, r0⟩ := trodAll_cons hA
  obtain ⟨v1, vs1, d1, ds1, p1, q1, rfl, rfl, rfl, h1, r1⟩ := trodAll_cons r0
  obtain ⟨v2, vs2, d2, ds2, p2, q2, rfl, rfl, rfl, h2, r2⟩ := trodAll_cons r1
  obtain ⟨v3, vs3, d3, ds3, p3, q3, rfl, rfl, rfl, h3, r3⟩ := trodAll_cons r2
  obtain ⟨rfl, rfl, rfl⟩ := trodAll_nil r3
  obtain rfl : args = #[v0, v1, v2, v3] := by cases args; simp_all
  obtain ⟨rfl, rfl⟩ := trodVars_none hV
  obtain ⟨a0, rfl, rfl, rfl, w0⟩ := open_int Try.underlying5 (hval 0 5 v0 rfl rfl) h0
  obtain ⟨a1, rfl, rfl, rfl, w1⟩ := open_int Try.underlying34 (hval 1 34 v1 rfl rfl) h1
  obtain ⟨a2, len2, cap2, rfl⟩ := okWide_slice Try.underlying35 (hval 2 35 v2 rfl rfl)
  have k2 := h2
  have lt2 : ∀ x ∈ p2, x.block < W.heap.size := by obtain ⟨m, hm⟩ := k2; exact DataW.trod_lt m _ _ _ hm
  obtain ⟨z2, w2, n2, m2, o2, f2⟩ : ∃ zs, Ints .u16 W a2 zs ∧ zs.length = len2 ∧ len2 ≤ cap2 ∧ cap2 ≤ maxLen ∧ (∀ x ∈ zs, (Lit.int .u16 x).wf = true) := by
    obtain ⟨fuel, hf⟩ := h2
    rcases open_ints Try.underlying35 Try.underlying34 (by kernel_rfl) hf with ⟨hcs, hx⟩ | ⟨x, l, c, zs, hcs, _, hl, hm, hz, hx, hcell, hwz⟩
    · simp [Value.cells] at hcs
      obtain ⟨rfl, rfl, rfl⟩ := hcs
      exact ⟨[], Row.nil _ _, rfl, Nat.le_refl _, Nat.zero_le _, (fun _ h => by cases h)⟩
    · simp [Value.cells] at hcs
      obtain ⟨rfl, rfl, rfl⟩ := hcs
      exact ⟨zs.take len2, ints_of hl (by simpa using hz) hcell, take_len hl (by simpa using hz), hl, hm, (fun x hx => hwz x (List.mem_of_mem_take hx))⟩
  obtain ⟨a3, rfl, rfl, rfl, w3⟩ := open_int Try.underlying36 (hval 3 36 v3 rfl rfl) h3
  clear hA0 hval0
  refine (walk a0 a1 a2 len2 cap2 z2 a3 W w0 w1 w2 n2 m2 o2 f2 w3).mono fun e W' ⟨he, bel⟩ => ?_
  subst he
  exact ⟨_, rfl, _, _, _, [], _, [], hW', trodAll_mk1 (shut_bool Try.underlying4 _), (trodAll_cons_mk (shut_int Try.underlying5 w0) (trodAll_cons_mk (shut_int Try.underlying34 w1) (trodAll_cons_mk (Below.trod laidOut (by kernel_rfl) (of_decide_eq_true (by kernel_rfl)) k2 bel lt2) (trodAll_cons_mk (shut_int Try.underlying36 w3) trodAll_mk0)))), rfl, bel.frame _, fun h => by cases h⟩

theorem over : Rows.budgetHoldsRow.holds Try.pinned (OpenSpec.ofChange Rows.budgetHoldsSpec) :=
  OpenClaim.holds_of_wide 4 Try.f4 rfl rfl rfl rfl rfl rfl rfl ⟨rfl, rfl, rfl, rfl, rfl⟩ rfl rfl rfl rfl rfl (by kernel_rfl) Try.func4 (by kernel_rfl)
    (of_decide_eq_true (by kernel_rfl)) (by unfold Func.isWrapper; first | (rw [if_pos (by decide +kernel)]; kernel_rfl) | (rw [if_neg (by decide +kernel)]; exact ⟨rfl, rfl⟩))
    (fun os started H enc _ => lifted os started H enc)

/-- The given statement. -/
theorem proved : Rows.BudgetHoldsSaid :=
  over
#print axioms proved
end Go.Proofs.Ytienikpnpphklaa.budgetHolds
