/-
  What was forked grants the same, neither touches the other, and a time that goes back is as the greatest so far. No conditions.
-/
import Derived.Test.YtienikpnpphklaaRows
import Derived.Test.YtienikpnpphklaaRow
import Derived.WalkKit
import Derived.ProofKit
import Derived.OpenShut
import Derived.ShutString
import Derived.ChangeOld
import Derived.Below
import Derived.Test.YtienikpnpphklaaBudAlive
namespace Go.Proofs.Ytienikpnpphklaa.budgetForks
open Go.ChangeShapes Go.WideShapes Go.ChangeAt Go.RowKit
open Go.ChangeMaps (open_string shut_string)
open Go.Proofs.Ytienikpnpphklaa.Base
set_option linter.unusedVariables false
set_option linter.unusedSimpArgs false

theorem own : ownKnob Try.prog.godebug = none := by kernel_rfl
theorem laidOut : laidOutB Try.prog = true := by kernel_rfl

open Go.Proofs.Ytienikpnpphklaa.Bud Go.Proofs.Ytienikpnpphklaa.BudPlain
theorem grants_back {g : Bg} (h : BOk g) : grants g 0 = grants g g.last := by
  have h0 := h.t0
  have e1 : nowB g 0 = g.last := by unfold nowB; omega
  have e2 : nowB g g.last = g.last := by unfold nowB; omega
  unfold grants
  rw [e1, e2]
section
variable {ρ : Operand → Value} {o : Oper} {u : World}
theorem eq_len (x y : Operand) (ho : o.op = .binOp .eql 3 x y 3) {n : Int} (hx : ρ x = .int .i64 n) (hy : ρ y = .int .i64 n) : (execOp ρ o).run Try.prog u = .ok (.value (.bool true)) u := by
  unfold execOp
  rw [ho]
  simp [hx, hy, go_sem]
theorem eq_bools (x y : Operand) (ho : o.op = .binOp .eql 4 x y 4) {n : Bool} (hx : ρ x = .bool n) (hy : ρ y = .bool n) : (execOp ρ o).run Try.prog u = .ok (.value (.bool true)) u := by
  unfold execOp
  rw [ho]
  simp [hx, hy, go_sem]
end
set_option maxHeartbeats 8000000 in
theorem walk (a0 : Int) (a1 : Int) (a2 : Option Addr) (len2 cap2 : Nat) (z2 : List Int) (a3 : Option Addr) (len3 cap3 : Nat) (z3 : List Int) (w : World) (w0 : (Lit.int .i64 a0).wf = true) (w1 : (Lit.int .u64 a1).wf = true) (w2 : Ints .u64 w a2 z2) (n2 : z2.length = len2) (m2 : len2 ≤ cap2) (o2 : cap2 ≤ maxLen) (f2 : ∀ x ∈ z2, (Lit.int .u64 x).wf = true) (w3 : Ints .u64 w a3 z3) (n3 : z3.length = len3) (m3 : len3 ≤ cap3) (o3 : cap3 ≤ maxLen) (f3 : ∀ x ∈ z3, (Lit.int .u64 x).wf = true) :
    Calls Try.prog 6 #[.int .i64 a0, .int .u64 a1, .slice a2 len2 cap2, .slice a3 len3 cap3] w fun e w' => e = .returned (.bool true) ∧ Below w.heap.size w w' := by
  obtain ⟨m0', m1'⟩ := Base.i64_of w0
  obtain ⟨e0', e1'⟩ := Base.u64_of w1
  subst n2
  subst n3
  have hz : ∀ k, 0 ≤ z2.getD k 0 ∧ z2.getD k 0 ≤ 18446744073709551615 := fun k => by
    rw [List.getD_eq_getElem?_getD]
    cases e : z2[k]? with
    | none => simp
    | some t => exact Base.u64_of (f2 t (List.mem_of_getElem? e))
  have hy : ∀ k, 0 ≤ z3.getD k 0 ∧ z3.getD k 0 ≤ 18446744073709551615 := fun k => by
    rw [List.getD_eq_getElem?_getD]
    cases e : z3[k]? with
    | none => simp
    | some t => exact Base.u64_of (f3 t (List.mem_of_getElem? e))
  have CN := solo_new a0 a1 m0' m1' e0' e1' (Below.refl w.heap.size w)
  have CA := fun U => alive_bud U
  have CR := fun U => ref_new a0 a1 e0' e1' U
  have hlen : (newB a0 a1).l.length = 0 := rfl
  have hla : (newB a0 a1).last = 0 := rfl
  generalize newB a0 a1 = g0 at *
  go_enter Try.func6, Try.ntmps6
  by_cases h300 : (100 : Int) < (z2.length : Int)
  · go_wp2_with (first
      | (go_at_call 7; refine CN.mono ?_; rintro e u1 ⟨a, rfl, P1, _⟩)
      | (go_at_call 8; (with_reducible refine (CA u1).mono ?_); rintro e u2 ⟨rfl, L2⟩)
      | (go_at_call 8; (with_reducible refine (CA u2).mono ?_); rintro e u3 ⟨rfl, L3⟩))
    all_goals go_ret
    all_goals exact ⟨rfl, Base.next (Base.next P1.bel L2) L3⟩
  · by_cases h301 : (100 : Int) < (z3.length : Int)
    · go_wp2_with (first
        | (go_at_call 7; refine CN.mono ?_; rintro e u1 ⟨a, rfl, P1, _⟩)
        | (go_at_call 8; (with_reducible refine (CA u1).mono ?_); rintro e u2 ⟨rfl, L2⟩)
        | (go_at_call 8; (with_reducible refine (CA u2).mono ?_); rintro e u3 ⟨rfl, L3⟩))
      all_goals go_ret
      all_goals exact ⟨rfl, Base.next (Base.next P1.bel L2) L3⟩
    · go_wp2_with (first
        | (go_at_call 7; refine CN.mono ?_; rintro e u1 ⟨a, rfl, P1, _⟩)
        | (go_at_call 8; (with_reducible refine (CA u1).mono ?_); rintro e u2 ⟨rfl, L2⟩; have P2 := P1.next L2)
        | (go_at_call 9; (with_reducible refine (CR u2).mono ?_); rintro e u3 ⟨b, rfl, hb3, L3⟩))
      have D3 := P2.duo hb3 L3
      have B3 : Below w.heap.size w u3 := Base.next P2.bel L3
      have hA : ∀ k, (w.heap.size ≤ k ∧ k < u3.heap.size) → w.heap.size ≤ k := fun k h => h.1
      generalize hAA : (fun k => w.heap.size ≤ k ∧ k < u3.heap.size) = A at D3
      replace hA : ∀ k, A k → w.heap.size ≤ k := fun k h => by rw [← hAA] at h; exact h.1
      clear hAA P1 P2 hb3 L3 L2 CN CR CA
      go_loopw [11, 12] (fun t i wr => ∃ (k : Nat) (g : Bg), k ≤ z2.length ∧ t = .int .u64 g.last ∧ i = .int .i64 k ∧ g.l.length ≤ k ∧ Duo A u3 wr a b g g) (fun _ i _ => z2.length - (intOf i).toNat)
      case atStart => exact ⟨0, g0, Nat.zero_le _, by rw [hla], rfl, by omega, D3⟩
      case round =>
        obtain ⟨k, g, hk, rfl, rfl, hgl, hD⟩ := hrel
        have hL := hD.fr.below B3 B3.size hA
        by_cases hlt : k < z2.length
        · have hkI : (k : Int) < (z2.length : Int) := by omega
          obtain ⟨bz, oz, rfl, hbz, hc⟩ := w2.at_ hlt
          obtain ⟨x0, x1⟩ := hz k
          have hal := ask_len g (z2.getD k 0)
          have hmx : (if g.last < z2.getD k 0 then z2.getD k 0 else g.last) = (askG g (z2.getD k 0)).last := by show _ = max g.last (z2.getD k 0); omega
          generalize z2.getD k 0 = x at *
          have hc1 : wr.cell? ⟨bz, oz + k, none⟩ = some (.int .u64 x) := (hL.cell hbz).trans hc
          have C1 := duo_p hD (by omega) x x0 x1
          have hcv : ∀ v p q, Duo A u3 v a b p q → v.cell? ⟨bz, oz + k, none⟩ = some (.int .u64 x) := fun v p q h => ((h.fr.below B3 B3.size hA).cell hbz).trans hc
          have C2 := fun V (h : Duo A u3 V a b (askG g x) g) => duo_r h (by omega) x x0 x1
          clear hc
          generalize askG g x = g' at *
          generalize grants g x = gr at *
          go_wp2_with (first
            | (go_at_call 10; (with_reducible refine C1.mono ?_); rintro e v1 ⟨rfl, D1⟩; have hc2 := hcv v1 _ _ D1)
            | (go_at_call 11; (with_reducible refine (C2 _ D1).mono ?_); rintro e v2 ⟨rfl, D2⟩))
          all_goals go_roundw
          case rel => exact ⟨k + 1, g', by omega, by rw [← hmx], by go_num, by omega, D2⟩
          case measure => simp [intOf]; omega
        · obtain rfl : k = z2.length := by omega
          obtain ⟨T1, T2, hb, hr, t1, t2, t3, hF⟩ := hD
          have hok := hb.ok
          have hgb := grants_back hok
          have ht0 := hok.t0
          have ht1 := hok.t1
          have hT1 : ∀ k, T1 k → w.heap.size ≤ k := fun k h => by
            rcases (t1 k h).2 with q | q
            · exact hA k q
            · exact Nat.le_trans B3.size q
          have C1 := fork_any hb (by omega)
          have C2 := fun V (h : Below wr.heap.size wr V) => fork_any (hb.below h) (by omega)
          have C3 := fun V (h : Below wr.heap.size wr V) => ref_fork (hr.below h) (by omega)
          clear hz hA hok
          go_wp2_with (first
            | (go_at_call 13; (with_reducible refine C1.mono ?_); rintro e v1 ⟨af, rfl, hf, L1⟩)
            | (go_at_call 13; (with_reducible refine (C2 _ L1).mono ?_); rintro e v2 ⟨ag, rfl, hg, L2⟩; have M2 := Base.next L1 L2)
            | (go_at_call 14; (with_reducible refine (C3 _ M2).mono ?_); rintro e v3 ⟨bs, rfl, hs, L3⟩; have M3 := Base.next M2 L3))
          clear C1 C2 C3
          have z1 := L1.size
          have z2' := L2.size
          have z3' := L3.size
          have hb3 := hb.below M3
          have hr3 := hr.below M3
          have hf3 := (hf.below L2).below L3
          have hg3 := hg.below L3
          have W3 : Below w.heap.size w v3 := Base.next hL M3
          obtain ⟨A2, eA⟩ : ∃ A2 : Nat → Prop, ∀ k, A2 k ↔ ((wr.heap.size ≤ k ∧ k < v1.heap.size) ∨ (v2.heap.size ≤ k ∧ k < v3.heap.size)) := ⟨_, fun _ => Iff.rfl⟩
          obtain ⟨I2, eI⟩ : ∃ I2 : Nat → Prop, ∀ k, I2 k ↔ (v1.heap.size ≤ k ∧ k < v2.heap.size) := ⟨_, fun _ => Iff.rfl⟩
          replace hg3 : Bud I2 v3 ag g := hg3.mono fun k h => (eI k).2 h
          have D4 : Duo A2 v3 v3 af bs g g := ⟨_, _, hf3, hs, fun k h => ⟨by omega, .inl ((eA k).2 (.inl h))⟩, fun k h => ⟨by omega, .inl ((eA k).2 (.inr h))⟩, fun k h h' => by omega, Fr.refl _ _⟩
          have hA2 : ∀ k, A2 k → w.heap.size ≤ k := fun k h => by have := (eA k).1 h; have := hL.size; omega
          have nA1 : ∀ k, T1 k → ¬ A2 k := fun k h h' => by have := (t1 k h).1; have := (eA k).1 h'; omega
          have nA2 : ∀ k, T2 k → ¬ A2 k := fun k h h' => by have := (t2 k h).1; have := (eA k).1 h'; omega
          have nA3 : ∀ k, I2 k → ¬ A2 k := fun k h h' => by have := (eI k).1 h; have := (eA k).1 h'; omega
          have nb : ∀ k, T1 k → ¬ I2 k := fun k h h' => by have := (t1 k h).1; have := (eI k).1 h'; omega
          have nr : ∀ k, T2 k → ¬ I2 k := fun k h h' => by have := (t2 k h).1; have := (eI k).1 h'; omega
          have ng : ∀ k, I2 k → w.heap.size ≤ k := fun k h => by have := (eI k).1 h; have := hL.size; omega
          clear eA eI hf hs hf3 hg hb hr D3 B3 L1 L2 L3 M2 z1 z2' z3' hF t1 t2
          go_loopw [16] (fun i wq => ∃ (j : Nat) (q : Bg), j ≤ z3.length ∧ i = .int .i64 j ∧ q.l.length ≤ z2.length + j ∧ Duo A2 v3 wq af bs q q) (fun i _ => z3.length - (intOf i).toNat)
          case atStart => exact ⟨0, g, Nat.zero_le _, rfl, by omega, D4⟩
          case round =>
            obtain ⟨j, q, hj, rfl, hql, hD⟩ := hrel
            have hL2 := hD.fr.below W3 W3.size hA2
            by_cases hlt2 : j < z3.length
            · have hkI : (j : Int) < (z3.length : Int) := by omega
              obtain ⟨bz, oz, rfl, hbz, hc⟩ := w3.at_ hlt2
              obtain ⟨x0, x1⟩ := hy j
              have hal := ask_len q (z3.getD j 0)
              generalize z3.getD j 0 = x at *
              have hc1 : wr.cell? ⟨bz, oz + j, none⟩ = some (.int .u64 x) := (hL2.cell hbz).trans hc
              have C1 := duo_p hD.drew (by omega) x x0 x1
              have hcv : ∀ v p q, Duo A2 v3 v af bs p q → v.cell? ⟨bz, oz + j, none⟩ = some (.int .u64 x) := fun v p q h => ((h.fr.below W3 W3.size hA2).cell hbz).trans hc
              have C2 := fun V (h : Duo A2 v3 V af bs (askG q x) q) => duo_r h (by omega) x x0 x1
              clear hc hb3 hr3 hg3
              generalize askG q x = q' at *
              generalize grants q x = gr at *
              go_upto_region 19 with fail
              go_region_with (first
                | (go_at_call 10; refine C1.mono ?_; rintro e x1' ⟨rfl, E1⟩; have hc2 := hcv x1' _ _ E1)
                | (go_at_call 11; refine (C2 _ E1).mono ?_; rintro e x2' ⟨rfl, E2⟩))
              all_goals go_wp2
              all_goals go_roundw
              all_goals first
                | (simp [intOf]; omega)
                | exact ⟨j + 1, q', by omega, by go_num, by omega, E2⟩
            · obtain rfl : j = z3.length := by omega
              have hF2 := hD.fr
              have hb4 := hb3.kept hF2 nA1
              have hr4 := hr3.kept hF2 nA2
              have hg4 := hg3.kept hF2 nA3
              obtain ⟨vv, hB, hO, _⟩ := hr4.ex
              have hbi := hr4.inB
              obtain ⟨aa, cp, rfl, _, _, _⟩ := hO.read
              have c3 : wr.cell? ⟨b, 3, none⟩ = some (.slice aa g.l.length cp) := hB.cell 3
              have hbw := hB.lt
              have hdr : Below wr.heap.size wr wr.drew := Base.drew1 (Below.refl _ _)
              have C1 := granted_any (hb4.below hdr) (by omega)
              have C2 := fun V (h : Below wr.heap.size wr V) => ask_any (hg4.below h) (by omega) 0 (by decide) (by decide)
              have C3 := fun V V' (h : Below wr.heap.size wr V) (h' : Fr I2 V V') => ask_any ((hb4.below h).kept h' nb) (by omega) g.last ht0 ht1
              rw [hgb] at C2
              have hwr := hL2.size
              clear hb3 hr3 hg3 hD hy D4 hB hO hr4 hb4 hg4 hF2
              generalize grants g g.last = gr at *
              go_upto_region 21 with fail
              have hbT2 : T2 b := hbi
              have hS0 : Fr (fun k => T1 k ∨ I2 k) wr wr.drew := Fr.of_below hdr
              have c3v : ∀ v, Fr (fun k => T1 k ∨ I2 k) wr v → v.cell? ⟨b, 3, none⟩ = some (.slice aa g.l.length cp) := fun v hv => (hv.cell (p := ⟨b, 3, none⟩) hbw (fun h => h.elim (fun h => t3 b h hbT2) (fun h => nr b hbT2 h))).trans c3
              refine held_start (fun v => Fr (fun k => T1 k ∨ I2 k) wr v) (by kernel_rfl) ?_
              refine held_take (i := 0) (v := .pointer (some a)) rfl (by kernel_rfl) (by kernel_rfl) (by kernel_rfl) (fun _ _ _ h => h) (by kernel_rfl) hS0 (fun v hv => by kernel_rfl) ?_
              refine held_take (i := 2) (v := .pointer (some ⟨b, 0, none⟩)) rfl (by kernel_rfl) (by kernel_rfl) (by kernel_rfl) (fun _ _ _ h => h) (by kernel_rfl) hS0 (fun v hv => by kernel_rfl) ?_
              refine held_take (i := 3) (v := .pointer (some ⟨b, 0, none⟩)) rfl (by kernel_rfl) (by kernel_rfl) (by kernel_rfl) (fun _ _ _ h => h) (by kernel_rfl) hS0 (fun v hv => by kernel_rfl) ?_
              refine held_take (i := 4) (v := .pointer (some ⟨b, 3, none⟩)) rfl (by kernel_rfl) (by kernel_rfl) (by kernel_rfl) (fun _ _ _ h => h) (by kernel_rfl) hS0 (fun v hv => by kernel_rfl) ?_
              refine held_take (i := 5) (v := .slice aa g.l.length cp) rfl (by kernel_rfl) (by kernel_rfl) (by kernel_rfl) (fun _ _ _ h => h) (by kernel_rfl) hS0 (fun v hv => by exact lb_sl (.tmp 103) rfl (by kernel_rfl) (c3v v hv)) ?_
              refine held_take (i := 6) (v := .int .i64 g.l.length) rfl (by kernel_rfl) (by kernel_rfl) (by kernel_rfl) (fun _ _ _ h => h) (by kernel_rfl) hS0 (fun v hv => by kernel_rfl) ?_
              refine held_call (i := 1) (f := 12) (args := #[.pointer (some a)]) rfl (by kernel_rfl) (by kernel_rfl) (by kernel_rfl) (C1.mono ?_)
              rintro e x1 ⟨rfl, E1⟩
              replace E1 := hdr.trans (E1.mono hdr.size)
              have S1 : Fr (fun k => T1 k ∨ I2 k) wr x1 := Fr.of_below E1
              refine ⟨_, rfl, S1, ?_⟩
              refine held_take (i := 7) (v := .bool true) rfl (by kernel_rfl) (by kernel_rfl) (by kernel_rfl) (fun _ _ _ h => h) (by kernel_rfl) S1 (fun v hv => by exact eq_len (n := g.l.length) (.tmp 100) (.tmp 105) rfl (by kernel_rfl) (by kernel_rfl)) ?_
              refine held_take (i := 8) (v := .bool true) rfl (by kernel_rfl) (by kernel_rfl) (by kernel_rfl) (fun _ _ _ h => h) (by kernel_rfl) S1 (fun v hv => by kernel_rfl) ?_
              refine held_take (i := 9) (v := .pointer (some ag)) rfl (by kernel_rfl) (by kernel_rfl) (by kernel_rfl) (fun _ _ _ h => h) (by kernel_rfl) S1 (fun v hv => by kernel_rfl) ?_
              refine held_take (i := 11) (v := .pointer (some a)) rfl (by kernel_rfl) (by kernel_rfl) (by kernel_rfl) (fun _ _ _ h => h) (by kernel_rfl) S1 (fun v hv => by kernel_rfl) ?_
              refine held_take (i := 12) (v := .int .u64 g.last) rfl (by kernel_rfl) (by kernel_rfl) (by kernel_rfl) (fun _ _ _ h => h) (by kernel_rfl) S1 (fun v hv => by kernel_rfl) ?_
              refine held_call (i := 10) (f := 10) (args := #[.pointer (some ag), .int .u64 0]) rfl (by kernel_rfl) (by kernel_rfl) (by kernel_rfl) ((C2 _ E1).mono ?_)
              rintro e x2 ⟨rfl, _, E2⟩
              have S2 : Fr (fun k => T1 k ∨ I2 k) wr x2 := S1.trans E2 fun k _ h => .inr h
              refine ⟨_, rfl, S2, ?_⟩
              refine held_call (i := 13) (f := 10) (args := #[.pointer (some a), .int .u64 g.last]) rfl (by kernel_rfl) (by kernel_rfl) (by kernel_rfl) ((C3 _ _ E1 E2).mono ?_)
              rintro e x3 ⟨rfl, _, E3⟩
              have S3 : Fr (fun k => T1 k ∨ I2 k) wr x3 := S2.trans E3 fun k _ h => .inl h
              refine ⟨_, rfl, S3, ?_⟩
              refine held_take (i := 14) (v := .bool true) rfl (by kernel_rfl) (by kernel_rfl) (by kernel_rfl) (fun _ _ _ h => h) (by kernel_rfl) S3 (fun v hv => by exact eq_bools (n := gr) (.tmp 109) (.tmp 112) rfl (by kernel_rfl) (by kernel_rfl)) ?_
              refine held_take (i := 15) (v := .bool true) rfl (by kernel_rfl) (by kernel_rfl) (by kernel_rfl) (fun _ _ _ h => h) (by kernel_rfl) S3 (fun v hv => by kernel_rfl) ?_
              refine held_take (i := 16) (v := .bool true) rfl (by kernel_rfl) (by kernel_rfl) (by kernel_rfl) (fun _ _ _ h => h) (by kernel_rfl) S3 (fun v hv => by kernel_rfl) ?_
              refine held_end 8 (.bool true) (by kernel_rfl) (by kernel_rfl) (by kernel_rfl) fun a' hd hv => ?_
              go_wp2
              refine bodyPost_ret (results_tmp rfl _ _ _) hd ?_
              rw [hv]
              exact ⟨rfl, hL2.trans (S3.toBelow' hL2.size fun k _ h => h.elim (fun h => hT1 k h) fun h => ng k h)⟩

set_option maxRecDepth 100000 in
theorem lifted (os : Os) (started : os.Started) (H : Type) (enc : TypeId × Value → H) :
    ReturnsInHanded {} Try.checked os 6 .any (Rows.budgetForksSpec.pre6 enc Try.prog Try.f6 Rows.budgetForksRow.domain false) (Rows.budgetForksSpec.post enc Try.prog Try.f6 false true false false) := by
  refine returnsInHanded_of_change (C := Try.checked) own started (by kernel_rfl) Try.func6
    (ChangeSpec.witness6 (enc := enc) (C := Try.checked) false ⟨#[], #[.int .i64 0, .int .u64 0, .slice none 0 0, .slice none 0 0], []⟩ 8 (by kernel_rfl) (by kernel_rfl) (by kernel_rfl) (by kernel_rfl)) ?_
  intro W base args ds gs before hval0 hW hcnd _
  have hval : ∀ (j : Nat) t v, Try.f6.params[j]? = some t → args[j]? = some v → Value.okWide Try.prog W .any base t v := hval0
  have hW' := hW
  obtain ⟨p, q, hA0, hV, rfl, hfz, hnd⟩ := hW
  have hA : DataW.TrodAll enc Try.prog W 0 (fun _ => true) true Try.f6.params.toList args.toList ds p := hA0
  rw [Try.params6] at hA hval
  obtain ⟨v0, vs0, d0, ds0, p0, q0, hargs, rfl, rfl, h0, r0⟩ := trodAll_cons hA
  obtain ⟨v1, vs1, d1, ds1, p1, q1, rfl, rfl, rfl, h1, r1⟩ := trodAll_cons r0
  obtain ⟨v2, vs2, d2, ds2, p2, q2, rfl, rfl, rfl, h2, r2⟩ := trodAll_cons r1
  obtain ⟨v3, vs3, d3, ds3, p3, q3, rfl, rfl, rfl, h3, r3⟩ := trodAll_cons r2
  obtain ⟨rfl, rfl, rfl⟩ := trodAll_nil r3
  obtain rfl : args = #[v0, v1, v2, v3] := by cases args; simp_all
  obtain ⟨rfl, rfl⟩ := trodVars_none hV
  obtain ⟨a0, rfl, rfl, rfl, w0⟩ := open_int Try.underlying3 (hval 0 3 v0 rfl rfl) h0
  obtain ⟨a1, rfl, rfl, rfl, w1⟩ := open_int Try.underlying22 (hval 1 22 v1 rfl rfl) h1
  obtain ⟨a2, len2, cap2, rfl⟩ := okWide_slice Try.underlying23 (hval 2 23 v2 rfl rfl)
  have k2 := h2
  have lt2 : ∀ x ∈ p2, x.block < W.heap.size := by obtain ⟨m, hm⟩ := k2; exact DataW.trod_lt m _ _ _ hm
  obtain ⟨z2, w2, n2, m2, o2, f2⟩ : ∃ zs, Ints .u64 W a2 zs ∧ zs.length = len2 ∧ len2 ≤ cap2 ∧ cap2 ≤ maxLen ∧ (∀ x ∈ zs, (Lit.int .u64 x).wf = true) := by
    obtain ⟨fuel, hf⟩ := h2
    rcases open_ints Try.underlying23 Try.underlying22 (by kernel_rfl) hf with ⟨hcs, hx⟩ | ⟨x, l, c, zs, hcs, _, hl, hm, hz, hx, hcell, hwz⟩
    · simp [Value.cells] at hcs
      obtain ⟨rfl, rfl, rfl⟩ := hcs
      exact ⟨[], Row.nil _ _, rfl, Nat.le_refl _, Nat.zero_le _, (fun _ h => by cases h)⟩
    · simp [Value.cells] at hcs
      obtain ⟨rfl, rfl, rfl⟩ := hcs
      exact ⟨zs.take len2, ints_of hl (by simpa using hz) hcell, take_len hl (by simpa using hz), hl, hm, (fun x hx => hwz x (List.mem_of_mem_take hx))⟩
  obtain ⟨a3, len3, cap3, rfl⟩ := okWide_slice Try.underlying23 (hval 3 23 v3 rfl rfl)
  have k3 := h3
  have lt3 : ∀ x ∈ p3, x.block < W.heap.size := by obtain ⟨m, hm⟩ := k3; exact DataW.trod_lt m _ _ _ hm
  obtain ⟨z3, w3, n3, m3, o3, f3⟩ : ∃ zs, Ints .u64 W a3 zs ∧ zs.length = len3 ∧ len3 ≤ cap3 ∧ cap3 ≤ maxLen ∧ (∀ x ∈ zs, (Lit.int .u64 x).wf = true) := by
    obtain ⟨fuel, hf⟩ := h3
    rcases open_ints Try.underlying23 Try.underlying22 (by kernel_rfl) hf with ⟨hcs, hx⟩ | ⟨x, l, c, zs, hcs, _, hl, hm, hz, hx, hcell, hwz⟩
    · simp [Value.cells] at hcs
      obtain ⟨rfl, rfl, rfl⟩ := hcs
      exact ⟨[], Row.nil _ _, rfl, Nat.le_refl _, Nat.zero_le _, (fun _ h => by cases h)⟩
    · simp [Value.cells] at hcs
      obtain ⟨rfl, rfl, rfl⟩ := hcs
      exact ⟨zs.take len3, ints_of hl (by simpa using hz) hcell, take_len hl (by simpa using hz), hl, hm, (fun x hx => hwz x (List.mem_of_mem_take hx))⟩
  clear hA0 hval0
  refine (walk a0 a1 a2 len2 cap2 z2 a3 len3 cap3 z3 W w0 w1 w2 n2 m2 o2 f2 w3 n3 m3 o3 f3).mono fun e W' ⟨he, bel⟩ => ?_
  subst he
  exact ⟨_, rfl, _, _, _, [], _, [], hW', trodAll_mk1 (shut_bool Try.underlying4 _), (trodAll_cons_mk (shut_int Try.underlying3 w0) (trodAll_cons_mk (shut_int Try.underlying22 w1) (trodAll_cons_mk (Below.trod laidOut (by kernel_rfl) (of_decide_eq_true (by kernel_rfl)) k2 bel lt2) (trodAll_cons_mk (Below.trod laidOut (by kernel_rfl) (of_decide_eq_true (by kernel_rfl)) k3 bel lt3) trodAll_mk0)))), rfl, bel.frame _, fun h => by cases h⟩

theorem over : Rows.budgetForksRow.holds Try.pinned (OpenSpec.ofChange Rows.budgetForksSpec) :=
  OpenClaim.holds_of_wide 6 Try.f6 rfl rfl rfl rfl rfl rfl rfl ⟨rfl, rfl, rfl, rfl, rfl⟩ rfl rfl rfl rfl rfl (by kernel_rfl) Try.func6 (by kernel_rfl)
    (of_decide_eq_true (by kernel_rfl)) (by unfold Func.isWrapper; first | (rw [if_pos (by decide +kernel)]; kernel_rfl) | (rw [if_neg (by decide +kernel)]; exact ⟨rfl, rfl⟩))
    (fun os started H enc _ => lifted os started H enc)

/-- The given statement. -/
theorem proved : Rows.BudgetForksSaid :=
  over
#print axioms proved
end Go.Proofs.Ytienikpnpphklaa.budgetForks
