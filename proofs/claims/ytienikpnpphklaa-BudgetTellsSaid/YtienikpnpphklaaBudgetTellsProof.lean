/-
  A budget grants what the document says, of any most and every, at any times. No conditions.
-/
import Derived.Test.YtienikpnpphklaaRows
import Derived.Test.YtienikpnpphklaaRow
import Derived.WalkKit
import Derived.ProofKit
import Derived.OpenShut
import Derived.ShutString
import Derived.ChangeOld
import Derived.Below
import Derived.Test.YtienikpnpphklaaBudAlive
namespace Go.Proofs.Ytienikpnpphklaa.budgetTells
open Go.ChangeShapes Go.WideShapes Go.ChangeAt Go.RowKit
open Go.ChangeMaps (open_string shut_string)
open Go.Proofs.Ytienikpnpphklaa.Base
set_option linter.unusedVariables false
set_option linter.unusedSimpArgs false

theorem own : ownKnob Try.prog.godebug = none := by kernel_rfl
theorem laidOut : laidOutB Try.prog = true := by kernel_rfl

open Go.Proofs.Ytienikpnpphklaa.Bud Go.Proofs.Ytienikpnpphklaa.BudPlain
set_option maxHeartbeats 4000000 in
theorem walk (a0 : Int) (a1 : Int) (a2 : Option Addr) (len2 cap2 : Nat) (z2 : List Int) (w : World) (w0 : (Lit.int .i64 a0).wf = true) (w1 : (Lit.int .u64 a1).wf = true) (w2 : Ints .u64 w a2 z2) (n2 : z2.length = len2) (m2 : len2 ≤ cap2) (o2 : cap2 ≤ maxLen) (f2 : ∀ x ∈ z2, (Lit.int .u64 x).wf = true) :
    Calls Try.prog 3 #[.int .i64 a0, .int .u64 a1, .slice a2 len2 cap2] w fun e w' => e = .returned (.bool true) ∧ Below w.heap.size w w' := by
  obtain ⟨m0', m1'⟩ := Base.i64_of w0
  obtain ⟨e0', e1'⟩ := Base.u64_of w1
  subst n2
  have hz : ∀ k, 0 ≤ z2.getD k 0 ∧ z2.getD k 0 ≤ 18446744073709551615 := fun k => by
    rw [List.getD_eq_getElem?_getD]
    cases e : z2[k]? with
    | none => simp
    | some t => exact Base.u64_of (f2 t (List.mem_of_getElem? e))
  have CN := solo_new a0 a1 m0' m1' e0' e1' (Below.refl w.heap.size w)
  have CA := fun U => alive_bud U
  have CR := fun U => ref_new a0 a1 e0' e1' U
  have hlen : (newB a0 a1).l.length = 0 := rfl
  generalize newB a0 a1 = g0 at *
  go_enter Try.func3, Try.ntmps3
  by_cases h300 : (300 : Int) < (z2.length : Int)
  · go_wp2_with (first
      | (go_at_call 7; refine CN.mono ?_; rintro e u1 ⟨a, rfl, P1, _⟩)
      | (go_at_call 8; (with_reducible refine (CA u1).mono ?_); rintro e u2 ⟨rfl, L2⟩)
      | (go_at_call 8; (with_reducible refine (CA u2).mono ?_); rintro e u3 ⟨rfl, L3⟩))
    all_goals go_ret
    all_goals exact ⟨rfl, Base.next (Base.next P1.bel L2) L3⟩
  · go_wp2_with (first
      | (go_at_call 7; refine CN.mono ?_; rintro e u1 ⟨a, rfl, P1, _⟩)
      | (go_at_call 8; (with_reducible refine (CA u1).mono ?_); rintro e u2 ⟨rfl, L2⟩; have P2 := P1.next L2)
      | (go_at_call 9; (with_reducible refine (CR u2).mono ?_); rintro e u3 ⟨b, rfl, hb3, L3⟩))
    have D3 := P2.duo hb3 L3
    have B3 : Below w.heap.size w u3 := Base.next P2.bel L3
    have hA : ∀ k, (w.heap.size ≤ k ∧ k < u3.heap.size) → w.heap.size ≤ k := fun k h => h.1
    generalize hAA : (fun k => w.heap.size ≤ k ∧ k < u3.heap.size) = A at D3
    replace hA : ∀ k, A k → w.heap.size ≤ k := fun k h => by rw [← hAA] at h; exact h.1
    clear hAA P1 P2 hb3 L3 L2 CN CR CA
    go_loopw [9] (fun i wr => ∃ (k : Nat) (g : Bg), k ≤ z2.length ∧ i = .int .i64 k ∧ g.l.length ≤ k ∧ Duo A u3 wr a b g g) (fun i _ => z2.length - (intOf i).toNat)
    case atStart => exact ⟨0, g0, Nat.zero_le _, rfl, by omega, D3⟩
    case round =>
      obtain ⟨k, g, hk, rfl, hgl, hD⟩ := hrel
      have hL := hD.fr.below B3 B3.size hA
      by_cases hlt : k < z2.length
      · have hkI : (k : Int) < (z2.length : Int) := by omega
        obtain ⟨bz, oz, rfl, hbz, hc⟩ := w2.at_ hlt
        obtain ⟨x0, x1⟩ := hz k
        have hal := ask_len g (z2.getD k 0)
        generalize z2.getD k 0 = x at *
        have hc1 : wr.cell? ⟨bz, oz + k, none⟩ = some (.int .u64 x) := (hL.cell hbz).trans hc
        have C1 := duo_p hD.drew (by omega) x x0 x1
        have hcv : ∀ v p q, Duo A u3 v a b p q → v.cell? ⟨bz, oz + k, none⟩ = some (.int .u64 x) := fun v p q h => ((h.fr.below B3 B3.size hA).cell hbz).trans hc
        clear hc
        go_upto_region 8 with fail
        go_region_with (first
          | (go_at_call 10; refine C1.mono ?_; rintro e v1 ⟨rfl, D1⟩; have hc2 := hcv v1 _ _ D1; have C2 := duo_r D1 (by omega) x x0 x1)
          | (go_at_call 11; refine C2.mono ?_; rintro e v2 ⟨rfl, D2⟩; obtain ⟨q, cp, hq⟩ := D2.cell; have C3 := duo_granted D2 (by omega))
          | (go_at_call 12; refine C3.mono ?_; rintro e v3 ⟨rfl, L3⟩; have D3 := D2.next L3; obtain ⟨q', cp', hq'⟩ := D3.cell))
        all_goals go_wp2
        all_goals go_roundw
        all_goals first
          | (simp [intOf]; omega)
          | exact ⟨k + 1, askG g x, by omega, by go_num, by omega, D3⟩
      · obtain rfl : k = z2.length := by omega
        go_wp2
        all_goals go_ret
        all_goals exact ⟨rfl, hL⟩

set_option maxRecDepth 100000 in
theorem lifted (os : Os) (started : os.Started) (H : Type) (enc : TypeId × Value → H) :
    ReturnsInHanded {} Try.checked os 3 .any (Rows.budgetTellsSpec.pre6 enc Try.prog Try.f3 Rows.budgetTellsRow.domain false) (Rows.budgetTellsSpec.post enc Try.prog Try.f3 false true false false) := by
  refine returnsInHanded_of_change (C := Try.checked) own started (by kernel_rfl) Try.func3
    (ChangeSpec.witness6 (enc := enc) (C := Try.checked) false ⟨#[], #[.int .i64 0, .int .u64 0, .slice none 0 0], []⟩ 8 (by kernel_rfl) (by kernel_rfl) (by kernel_rfl) (by kernel_rfl)) ?_
  intro W base args ds gs before hval0 hW hcnd _
  have hval : ∀ (j : Nat) t v, Try.f3.params[j]? = some t → args[j]? = some v → Value.okWide Try.prog W .any base t v := hval0
  have hW' := hW
  obtain ⟨p, q, hA0, hV, rfl, hfz, hnd⟩ := hW
  have hA : DataW.TrodAll enc Try.prog W 0 (fun _ => true) true Try.f3.params.toList args.toList ds p := hA0
  rw [Try.params3] at hA hval
  obtain ⟨v0, vs0, d0, ds0, p0, q0, hargs, rfl, rfl, h0, r0⟩ := trodAll_cons hA
  obtain ⟨v1, vs1, d1, ds1, p1, q1, rfl, rfl, rfl, h1, r1⟩ := trodAll_cons r0
  obtain ⟨v2, vs2, d2, ds2, p2, q2, rfl, rfl, rfl, h2, r2⟩ := trodAll_cons r1
  obtain ⟨rfl, rfl, rfl⟩ := trodAll_nil r2
  obtain rfl : args = #[v0, v1, v2] := by cases args; simp_all
  obtain ⟨rfl, rfl⟩ := trodVars_none hV
  obtain ⟨a0, rfl, rfl, rfl, w0⟩ := open_int Try.underlying3 (hval 0 3 v0 rfl rfl) h0
  obtain ⟨a1, rfl, rfl, rfl, w1⟩ := open_int Try.underlying22 (hval 1 22 v1 rfl rfl) h1
  obtain ⟨a2, len2, cap2, rfl⟩ := okWide_slice Try.underlying23 (hval 2 23 v2 rfl rfl)
  have k2 := h2
  have lt2 : ∀ x ∈ p2, x.block < W.heap.size := by obtain ⟨m, hm⟩ := k2; exact DataW.trod_lt m _ _ _ hm
  obtain ⟨z2, w2, n2, m2, o2, f2⟩ : ∃ zs, Ints .u64 W a2 zs ∧ zs.length = len2 ∧ len2 ≤ cap2 ∧ cap2 ≤ maxLen ∧ (∀ x ∈ zs, (Lit.int .u64 x).wf = true) := by
    obtain ⟨fuel, hf⟩ := h2
    rcases open_ints Try.underlying23 Try.underlying22 (by kernel_rfl) hf with ⟨hcs, hx⟩ | ⟨x, l, c, zs, hcs, _, hl, hm, hz, hx, hcell, hwz⟩
    · simp [Value.cells] at hcs
      obtain ⟨rfl, rfl, rfl⟩ := hcs
      exact ⟨[], Row.nil _ _, rfl, Nat.le_refl _, Nat.zero_le _, (fun _ h => by cases h)⟩
    · simp [Value.cells] at hcs
      obtain ⟨rfl, rfl, rfl⟩ := hcs
      exact ⟨zs.take len2, ints_of hl (by simpa using hz) hcell, take_len hl (by simpa using hz), hl, hm, (fun x hx => hwz x (List.mem_of_mem_take hx))⟩
  clear hA0 hval0
  refine (walk a0 a1 a2 len2 cap2 z2 W w0 w1 w2 n2 m2 o2 f2).mono fun e W' ⟨he, bel⟩ => ?_
  subst he
  exact ⟨_, rfl, _, _, _, [], _, [], hW', trodAll_mk1 (shut_bool Try.underlying4 _), (trodAll_cons_mk (shut_int Try.underlying3 w0) (trodAll_cons_mk (shut_int Try.underlying22 w1) (trodAll_cons_mk (Below.trod laidOut (by kernel_rfl) (of_decide_eq_true (by kernel_rfl)) k2 bel lt2) trodAll_mk0))), rfl, bel.frame _, fun h => by cases h⟩

theorem over : Rows.budgetTellsRow.holds Try.pinned (OpenSpec.ofChange Rows.budgetTellsSpec) :=
  OpenClaim.holds_of_wide 3 Try.f3 rfl rfl rfl rfl rfl rfl rfl ⟨rfl, rfl, rfl, rfl, rfl⟩ rfl rfl rfl rfl rfl (by kernel_rfl) Try.func3 (by kernel_rfl)
    (of_decide_eq_true (by kernel_rfl)) (by unfold Func.isWrapper; first | (rw [if_pos (by decide +kernel)]; kernel_rfl) | (rw [if_neg (by decide +kernel)]; exact ⟨rfl, rfl⟩))
    (fun os started H enc _ => lifted os started H enc)

/-- The given statement. -/
theorem proved : Rows.BudgetTellsSaid :=
  over
#print axioms proved
end Go.Proofs.Ytienikpnpphklaa.budgetTells
