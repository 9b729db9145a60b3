/-
  One coin that is turned turns just the parts that have it. No conditions.
-/
import Derived.Test.YtakdacjdjhlnkaaBools
import Derived.Test.YtakdacjdjhlnkaaRows
import Derived.Test.YtakdacjdjhlnkaaRow
import Derived.WalkKit
import Derived.ProofKit
import Derived.OpenShut
import Derived.ShutString
import Derived.ChangeOld
import Derived.Below
import Derived.Test.YtakdacjdjhlnkaaFoldAlive
import Derived.Test.YtakdacjdjhlnkaaMin3
import Derived.Test.YtakdacjdjhlnkaaOwnSet
import Derived.Deep.Cut
namespace Go.Proofs.Ytakdacjdjhlnkaa.foldTurns
open Go.ChangeShapes Go.WideShapes Go.ChangeAt Go.RowKit
open Go.ChangeMaps (open_string shut_string)
open Go.Proofs.Ytakdacjdjhlnkaa.Base
set_option linter.unusedVariables false

theorem own : ownKnob Try.prog.godebug = none := by kernel_rfl
theorem laidOut : laidOutB Try.prog = true := by kernel_rfl

open Go.Proofs.Ytakdacjdjhlnkaa.Fold Go.Proofs.Ytakdacjdjhlnkaa.FoldPlain
theorem mod_facts {a : Int} {k : Nat} (h0 : 0 ≤ a) (hk : 1 ≤ k) : ∃ t : Nat, a.tmod (k : Int) = t ∧ t < k := by
  have h1 := Int.emod_nonneg a (show (k : Int) ≠ 0 by omega)
  have h2 := Int.emod_lt_of_pos a (show (0 : Int) < k by omega)
  exact ⟨(a % (k : Int)).toNat, by rw [Int.tmod_eq_emod_of_nonneg h0]; omega, by omega⟩
theorem turn_fact {l : List Bool} {k L H : Nat} (hk : k < l.length) (hL : L ≤ H) (hH : H ≤ l.length) :
    (L ≤ k → ((os l L != os l H) != (os (l.set k (!l.getD k false)) L != os (l.set k (!l.getD k false)) H)) = decide (k < H)) ∧ (¬ L ≤ k → ((os l L != os l H) == (os (l.set k (!l.getD k false)) L != os (l.set k (!l.getD k false)) H)) = true) := by
  rw [os_turn hk L (by omega), os_turn hk H hH]
  constructor
  · intro h1
    rw [decide_eq_false (by omega : ¬ k < L)]
    by_cases h2 : k < H
    · rw [decide_eq_true h2]
      cases os l L <;> cases os l H <;> rfl
    · rw [decide_eq_false h2]
      cases os l L <;> cases os l H <;> rfl
  · intro h1
    rw [decide_eq_true (by omega : k < L), decide_eq_true (by omega : k < H)]
    cases os l L <;> cases os l H <;> rfl
set_option maxHeartbeats 2000000 in
theorem walk (a0 : Option Addr) (len0 cap0 : Nat) (z0 : List Bool) (a1 : Int) (a2 : Int) (a3 : Int) (w : World) (w0 : Bools w a0 z0) (n0 : z0.length = len0) (m0 : len0 ≤ cap0) (o0 : cap0 ≤ maxLen) (w1 : (Lit.int .u16 a1).wf = true) (w2 : (Lit.int .u16 a2).wf = true) (w3 : (Lit.int .u16 a3).wf = true) :
    Calls Try.prog 6 #[.slice a0 len0 cap0, .int .u16 a1, .int .u16 a2, .int .u16 a3] w fun e w' => e = .returned (.bool true) ∧ Below w.heap.size w w' := by
  subst n0
  unfold maxLen at o0
  obtain ⟨p0, p1⟩ := Base.u16_of w1
  obtain ⟨q0, q1⟩ := Base.u16_of w2
  obtain ⟨r0, r1⟩ := Base.u16_of w3
  by_cases hlen : (500 : Int) < (z0.length : Int) ∨ (z0.length : Int) = 0
  · rcases hlen with hlen | hlen
    · go_enter Try.func6, Try.ntmps6
      go_wp2_with (first
        | (go_at_call 7; (with_reducible refine (alive_fold w).mono ?_); rintro e wa ⟨rfl, ha⟩)
        | (go_at_call 7; refine (alive_fold wa).mono ?_; rintro e wb ⟨rfl, hb⟩))
      all_goals go_ret
      all_goals exact ⟨rfl, Base.next ha hb⟩
    · go_enter Try.func6, Try.ntmps6
      go_wp2_with (first
        | (go_at_call 7; (with_reducible refine (alive_fold w).mono ?_); rintro e wa ⟨rfl, ha⟩)
        | (go_at_call 7; refine (alive_fold wa).mono ?_; rintro e wb ⟨rfl, hb⟩))
      all_goals go_ret
      all_goals exact ⟨rfl, Base.next ha hb⟩
  · have hlen' : (z0.length : Int) ≤ 500 := by omega
    have hpos : (0 : Int) < (z0.length : Int) := by omega
    obtain ⟨K, eK, hK⟩ := mod_facts (k := z0.length) p0 (by omega)
    obtain ⟨A, eA, hA⟩ := mod_facts (k := z0.length + 1) q0 (by omega)
    obtain ⟨B, eB, hB⟩ := mod_facts (k := z0.length + 1) r0 (by omega)
    have hN : ((z0.length : Int) + 1 == 0) = false := by rw [beq_eq_false_iff_ne]; omega
    have hN0 : ((z0.length : Int) == 0) = false := by rw [beq_eq_false_iff_ne]; omega
    push_cast at eA eB
    obtain ⟨lo, l1, l2, l3, hmin⟩ := min2 (A : Int) (B : Int)
    obtain ⟨hi, g1, g2, g3, hmax⟩ := max2 (A : Int) (B : Int)
    obtain ⟨L, rfl⟩ := Int.eq_ofNat_of_zero_le (show 0 ≤ lo by omega)
    obtain ⟨H, rfl⟩ := Int.eq_ofNat_of_zero_le (show 0 ≤ hi by omega)
    have hLH : (L : Int) ≤ H := by omega
    have hHn : (H : Int) ≤ (z0.length : Int) := by omega
    have hKn : (K : Int) < (z0.length : Int) := by omega
    have b1 : (A : Int) ≤ 500 := by omega
    have b2 : (B : Int) ≤ 500 := by omega
    have b3 : (K : Int) ≤ 500 := by omega
    have hF := Lib.hid (turn_fact (l := z0) (k := K) (L := L) (H := H) hK (by omega) (by omega))
    have C1 := fun W hz => odds_any a0 z0.length cap0 z0 W rfl m0 (by omega) hz
    have hl2 : (z0.set K (!z0.getD K false)).length = z0.length := List.length_set
    have C2 := fun a c W h1 hz => odds_any a z0.length c (z0.set K (!z0.getD K false)) W hl2 h1 (by omega) hz
    have C3 : ∀ (l : List Bool) a c W, l.length = z0.length → Bools W a (odds l) →
        Calls Try.prog 14 #[.slice a (z0.length + 1) c, .int .i64 L, .int .i64 H] W fun e w' => e = .returned (.tuple #[.bool (os l L != os l H), .bool true]) ∧ Below W.heap.size W w' := fun l a c W hl hz => by
      have h := odd_any a (z0.length + 1) c (odds l) L H W (by rw [← hl]; exact opre_len _ _) (by omega) (by omega) (by omega) (by omega) (by omega) hz
      have hlo : (odds l).length = z0.length + 1 := by rw [← hl]; exact opre_len _ _
      rw [overB_true (by omega) hLH (by omega), oddV_at (by omega) (by omega)] at h
      unfold odds at h
      rw [opre_get (show L ≤ l.length by omega), opre_get (show H ≤ l.length by omega)] at h
      exact h
    have hxK := Lib.hid (show (z0.map Value.bool)[K]? = some (.bool (z0.getD K false)) by simp [List.getD, hK])
    generalize z0.getD K false = y at *
    have hD := Lib.hid (show ∀ (w : World) (g : Nat), (∀ u, Row (w.setCell ⟨g, K, none⟩ u) (some ⟨g, 0, none⟩) ((z0.map Value.bool).set K u)) → Bools (w.setCell ⟨g, K, none⟩ (.bool (!y))) (some ⟨g, 0, none⟩) (z0.set K (!y)) from fun w g h => by unfold Bools; rw [List.map_set]; exact h _)
    generalize z0.set K (!y) = D at *
    clear l1 l2 l3 g1 g2 g3 hA hB w1 w2 w3 hlen
    obtain ⟨i0, hi0, hz0, hz1, hz2⟩ := info_parts infob
    have hzn : z0.length ≤ 500 := by omega
    go_enter Try.func6, Try.ntmps6
    go_wp2_with (first
      | (go_at_call 7; (with_reducible refine (alive_fold w).mono ?_); rintro e wa ⟨rfl, ha⟩))
    go_quiet (fail)
    have hq := Base.drawn ha nq
    generalize wa.drewN nq = wb at *
    go_wp2_with (first
      | ((with_reducible refine wpl_value (v := .int .i64 L) ?_ ?_ ?_); rfl; exact hmin (.tmp 47) (.tmp 48) _ rfl rfl rfl _)
      | ((with_reducible refine wpl_value (v := .int .i64 H) ?_ ?_ ?_); rfl; exact hmax (.tmp 50) (.tmp 51) _ rfl rfl rfl _)
      | (at_builtin; refine wpl_append_row _ rfl _ (.tmp 53) _ rfl w.heap.size 4 i0 _ 1 1 Try.underlying23 hi0 hz0 hz1 hz2 rfl (by omega) (.slice none 0 0) 0 [] rfl (World.ownsRow_nil _ _ _ _) a0 z0.length cap0 (z0.map .bool) rfl (by simp) (w0.below hq) (bools_one _) (by unfold maxLen; omega) (by omega) hq.size ?_; intro v1 x1 hown1 hg1 hat1; have hown2 : x1.ownsRow w.heap.size 4 1 v1 z0.length (z0.map .bool) := (by simpa using hown1); have L1 : Below w.heap.size w x1 := hq.grown hg1 hq.size (by simp [Value.ownBlock]); clear hown1 hg1 hat1; obtain ⟨g, cap, u, rfl, e1, e2, e3, e4, hx, hcell, hfr, hset⟩ := own_set1 hown2 (by simp) hK; obtain rfl : Value.bool y = u := Option.some.inj (hxK.out.symm.trans hx); have R2 := hD.out _ _ hset; have L2 : Below w.heap.size w (x1.setCell ⟨g, K, none⟩ (.bool (!y))) := (Fr.setCell (S := fun k => k = g) (Fr.refl _ x1) (p := ⟨g, K, none⟩) (fun _ => rfl) _).below L1 L1.size (fun k hk => hk ▸ e1); clear hown2 hx hset hxK hD)
      | (go_at_call 8; (with_reducible refine (C1 _ (w0.below L2)).mono ?_); rintro e x3 ⟨a3', c3, rfl, h1, h2, h3, R3, L3⟩; have M3 := Base.next L2 L3; have R2b := R2.below L3; clear C1)
      | (go_at_call 14; refine (C3 z0 a3' c3 x3 rfl R3.row).mono ?_; rintro e x4 ⟨rfl, L4⟩; have M4 := Base.next M3 L4; have R2c := R2b.below L4; clear R3 R2b)
      | (go_at_call 8; refine (C2 (some ⟨g, 0, none⟩) cap x4 e3 R2c).mono ?_; rintro e x5 ⟨a5', c5, rfl, h1, h2, h3, R5, L5⟩; have M5 := Base.next M4 L5; clear C2)
      | (go_at_call 14; refine (C3 D a5' c5 x5 hl2 R5.row).mono ?_; rintro e x6 ⟨rfl, L6⟩; have M6 := Base.next M5 L6))
    all_goals go_ret
    all_goals first
      | exact ⟨Base.ret_bool (by rw [beq_iff_eq]; exact hF.out.1 (by assumption)), M6⟩
      | exact ⟨Base.ret_bool (hF.out.2 (by assumption)), M6⟩

set_option maxRecDepth 100000 in
theorem lifted (os : Os) (started : os.Started) (H : Type) (enc : TypeId × Value → H) :
    ReturnsInHanded {} Try.checked os 6 .any (Rows.foldTurnsSpec.pre6 enc Try.prog Try.f6 Rows.foldTurnsRow.domain false) (Rows.foldTurnsSpec.post enc Try.prog Try.f6 false true false false) := by
  refine returnsInHanded_of_change (C := Try.checked) own started (by kernel_rfl) Try.func6
    (ChangeSpec.witness6 (enc := enc) (C := Try.checked) false ⟨#[], #[.slice none 0 0, .int .u16 0, .int .u16 0, .int .u16 0], []⟩ 8 (by kernel_rfl) (by kernel_rfl) (by kernel_rfl) (by kernel_rfl)) ?_
  intro W base args ds gs before hval0 hW hcnd _
  have hval : ∀ (j : Nat) t v, Try.f6.params[j]? = some t → args[j]? = some v → Value.okWide Try.prog W .any base t v := hval0
  have hW' := hW
  obtain ⟨p, q, hA0, hV, rfl, hfz, hnd⟩ := hW
  have hA : DataW.TrodAll enc Try.prog W 0 (fun _ => true) true Try.f6.params.toList args.toList ds p := hA0
  rw [Try.params6] at hA hval
  obtain ⟨v0, vs0, d0, ds0, p0, q0, hargs, rfl, rfl, h0, r0⟩ := trodAll_cons hA
  obtain ⟨v1, vs1, d1, ds1, p1, q1, rfl, rfl, rfl, h1, r1⟩ := trodAll_cons r0
  obtain ⟨v2, vs2, d2, ds2, p2, q2, rfl, rfl, rfl, h2, r2⟩ := trodAll_cons r1
  obtain ⟨v3, vs3, d3, ds3, p3, q3, rfl, rfl, rfl, h3, r3⟩ := trodAll_cons r2
  obtain ⟨rfl, rfl, rfl⟩ := trodAll_nil r3
  obtain rfl : args = #[v0, v1, v2, v3] := by cases args; simp_all
  obtain ⟨rfl, rfl⟩ := trodVars_none hV
  obtain ⟨a0, len0, cap0, rfl⟩ := okWide_slice Try.underlying23 (hval 0 23 v0 rfl rfl)
  have k0 := h0
  have lt0 : ∀ x ∈ p0, x.block < W.heap.size := by obtain ⟨m, hm⟩ := k0; exact DataW.trod_lt m _ _ _ hm
  obtain ⟨z0, w0, n0, m0, o0⟩ : ∃ zs, Bools W a0 zs ∧ zs.length = len0 ∧ len0 ≤ cap0 ∧ cap0 ≤ maxLen := by
    obtain ⟨fuel, hf⟩ := h0
    rcases open_bools Try.underlying23 Try.underlying4 (by kernel_rfl) hf with ⟨hcs, hx⟩ | ⟨x, l, c, zs, E, S, hcs, hl, hm, hz, hx, hE, hS, hsp⟩
    · simp [Value.cells] at hcs
      obtain ⟨rfl, rfl, rfl⟩ := hcs
      exact ⟨[], Bools.nil _ _, rfl, Nat.le_refl _, Nat.zero_le _⟩
    · simp [Value.cells] at hcs
      obtain ⟨rfl, rfl, rfl⟩ := hcs
      exact ⟨zs, hsp, hz, hl, hm⟩
  obtain ⟨a1, rfl, rfl, rfl, w1⟩ := open_int Try.underlying35 (hval 1 35 v1 rfl rfl) h1
  obtain ⟨a2, rfl, rfl, rfl, w2⟩ := open_int Try.underlying35 (hval 2 35 v2 rfl rfl) h2
  obtain ⟨a3, rfl, rfl, rfl, w3⟩ := open_int Try.underlying35 (hval 3 35 v3 rfl rfl) h3
  clear hA0 hval0
  refine (walk a0 len0 cap0 z0 a1 a2 a3 W w0 n0 m0 o0 w1 w2 w3).mono fun e W' ⟨he, bel⟩ => ?_
  subst he
  exact ⟨_, rfl, _, _, _, [], _, [], hW', trodAll_mk1 (shut_bool Try.underlying4 _), (trodAll_cons_mk (Below.trod laidOut (by kernel_rfl) (of_decide_eq_true (by kernel_rfl)) k0 bel lt0) (trodAll_cons_mk (shut_int Try.underlying35 w1) (trodAll_cons_mk (shut_int Try.underlying35 w2) (trodAll_cons_mk (shut_int Try.underlying35 w3) trodAll_mk0)))), rfl, bel.frame _, fun h => by cases h⟩

theorem over : Rows.foldTurnsRow.holds Try.pinned (OpenSpec.ofChange Rows.foldTurnsSpec) :=
  OpenClaim.holds_of_wide 6 Try.f6 rfl rfl rfl rfl rfl rfl rfl ⟨rfl, rfl, rfl, rfl, rfl⟩ rfl rfl rfl rfl rfl (by kernel_rfl) Try.func6 (by kernel_rfl)
    (of_decide_eq_true (by kernel_rfl)) (by unfold Func.isWrapper; first | (rw [if_pos (by decide +kernel)]; kernel_rfl) | (rw [if_neg (by decide +kernel)]; exact ⟨rfl, rfl⟩))
    (fun os started H enc _ => lifted os started H enc)

/-- The given statement. -/
theorem proved : Rows.FoldTurnsSaid :=
  over
#print axioms proved
end Go.Proofs.Ytakdacjdjhlnkaa.foldTurns
