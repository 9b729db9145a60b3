/-
  Whatever is acknowledged and cut, at whatever times, a window, and the fair one, are never above what it began with and all that was acknowledged. No conditions.
-/
import Derived.Test.YtffdjgeonookpaaFlat
import Derived.Test.YtffdjgeonookpaaBools
import Derived.Test.YtffdjgeonookpaaRows
import Derived.Test.YtffdjgeonookpaaRow
import Derived.WalkKit
import Derived.ProofKit
import Derived.OpenShut
import Derived.ShutString
import Derived.ChangeOld
import Derived.Below
import Derived.Test.YtffdjgeonookpaaCubicAlive
namespace Go.Proofs.Ytffdjgeonookpaa.cubicPlays
open Go.ChangeShapes Go.WideShapes Go.ChangeAt Go.RowKit
open Go.ChangeMaps (open_string shut_string)
open Go.Proofs.Ytffdjgeonookpaa.Base
set_option linter.unusedVariables false
set_option linter.unusedSimpArgs false

theorem own : ownKnob Try.prog.godebug = none := by kernel_rfl
theorem laidOut : laidOutB Try.prog = true := by kernel_rfl

open Go.Proofs.Ytffdjgeonookpaa.Cubic Go.Proofs.Ytffdjgeonookpaa.CubicPlain Go.Proofs.Ytffdjgeonookpaa.Reno Go.Proofs.Ytffdjgeonookpaa.RenoPlain Go.Proofs.Ytffdjgeonookpaa.Hop
set_option maxHeartbeats 4000000 in
set_option maxRecDepth 20000 in
theorem walk (a0 : Int) (a1 : Int) (a2 : Int) (a3 : Option Addr) (len3 cap3 : Nat) (z3 : List (List Value)) (a4 : Option Addr) (len4 cap4 : Nat) (z4 : List Bool) (w : World) (w0 : (Lit.int .u16 a0).wf = true) (w1 : (Lit.int .u16 a1).wf = true) (w2 : (Lit.int .u8 a2).wf = true) (w3 : Recs w a3 [.int .u16, .int .u16] z3) (n3 : z3.length = len3) (m3 : len3 ≤ cap3) (o3 : cap3 ≤ maxLen) (w4 : Bools w a4 z4) (n4 : z4.length = len4) (m4 : len4 ≤ cap4) (o4 : cap4 ≤ maxLen) :
    Calls Try.prog 9 #[.int .u16 a0, .int .u16 a1, .int .u8 a2, .slice a3 len3 cap3, .slice a4 len4 cap4] w fun e w' => e = .returned (.bool true) ∧ Below w.heap.size w w' := by
  obtain ⟨b0, b1⟩ := Base.u16_of w0
  obtain ⟨t0, t1⟩ := Base.u16_of w1
  obtain ⟨s0, s1⟩ := Base.u8_of w2
  subst n3
  subst n4
  have CA := fun V => alive_cubic V
  by_cases hb : (300 : Int) < (z3.length : Int)
  · go_enter Try.func9, Try.ntmps9
    go_upto_region 3 with fail
    refine at_any ?_
    intro W0 hW
    obtain ⟨rB, hL⟩ : Blk W0 w.heap.size #[.int .u64 (a2 + 1 + a0), .int .u64 a1, .int .u64 0, .int .u64 0, .int .u64 18446744073709551615, .int .u64 0, .int .u64 0] 29 ∧ Below w.heap.size w W0 := by
      subst hW
      exact ⟨Blk.new _ _ _, (Below.refl _ _).alloc (Nat.le_refl _) _⟩
    clear hW
    have k0 : W0.cell? ⟨w.heap.size, 0, none⟩ = some (.int .u64 (a2 + 1 + a0)) := rB.cell 0
    have hlt := rB.lt
    go_wp2_with (first
      | (go_at_call 11; (with_reducible refine (CA W0).mono ?_); rintro e X ⟨rfl, L1⟩)
      | (go_at_call 11; (with_reducible refine (CA X).mono ?_); rintro e X2 ⟨rfl, L2⟩))
    all_goals go_ret
    all_goals exact ⟨rfl, Base.next (Base.next hL L1) L2⟩
  · go_enter Try.func9, Try.ntmps9
    go_upto_region 3 with fail
    refine at_any ?_
    intro W0 hW
    obtain ⟨rB, hL⟩ : Blk W0 w.heap.size #[.int .u64 (a2 + 1 + a0), .int .u64 a1, .int .u64 0, .int .u64 0, .int .u64 18446744073709551615, .int .u64 0, .int .u64 0] 29 ∧ Below w.heap.size w W0 := by
      subst hW
      exact ⟨Blk.new _ _ _, (Below.refl _ _).alloc (Nat.le_refl _) _⟩
    clear hW
    have k0 : W0.cell? ⟨w.heap.size, 0, none⟩ = some (.int .u64 (a2 + 1 + a0)) := rB.cell 0
    have hlt := rB.lt
    go_upto_region 6 with (go_at_call 11; refine (CA W0).mono ?_; rintro e X ⟨rfl, L1⟩)
    have rX := rB.below L1 rB.lt
    have hM := Base.next hL L1
    clear rB hL L1 CA k0 hlt
    obtain ⟨rb, hrb⟩ : ∃ rb, rb = w.heap.size := ⟨_, rfl⟩
    obtain ⟨x0, hx0⟩ : ∃ x : Wn, x = ⟨a2 + 1 + a0, a1, 0, 0, 18446744073709551615, 0, 0⟩ := ⟨_, rfl⟩
    have g0 : Plays x0 (a2 + 1) (a2 + 1 + a0) := by
      subst hx0
      exact ⟨⟨⟨by show 0 ≤ a2 + 1 + a0; omega, by show a2 + 1 + a0 ≤ _; omega⟩, ⟨t0, by show a1 ≤ _; omega⟩, uC 0, uC 0, (show U 18446744073709551615 from ⟨by decide, by decide⟩), uC 0, uC 0⟩, by dsimp only; omega, by dsimp only; omega, by dsimp only; omega⟩
    replace rX : Blk X rb (wc x0) 29 := by subst hx0 hrb; exact rX
    have hle : w.heap.size ≤ rb := by omega
    rw [← hrb]
    clear hx0 hrb
    go_wp2
    go_loopw [13, 14, 15, 16, 39] (fun most now _ _ i wr => ∃ (k : Nat) (x : Wn) (M T : Int), k ≤ z3.length ∧ i = .int .i64 k ∧ most = .int .u64 M ∧ now = .int .u64 T ∧ Blk wr rb (wc x) 29 ∧ Plays x (a2 + 1) M ∧ 0 ≤ M ∧ M ≤ 66000 + 65535 * k ∧ 0 ≤ T ∧ T ≤ 65535000 * k ∧ Below w.heap.size w wr) (fun _ _ _ _ i _ => z3.length - (intOf i).toNat)
    case atStart => exact ⟨0, x0, _, 0, Nat.zero_le _, rfl, rfl, rfl, rX, g0, by omega, by omega, by decide, by decide, hM⟩
    case round =>
      obtain ⟨k, x, M, T, hk, rfl, rfl, rfl, rB, hx, hM0, hM1, hT0, hT1, hL⟩ := hrel
      clear rX g0 hM
      have hlt := rB.lt
      have rB' := rB
      unfold wc at rB'
      obtain ⟨k0, k1, k2, k3, k4, k5, k6⟩ := blk7 rB'
      by_cases hlk : k < z3.length
      · have hkI : (k : Int) < (z3.length : Int) := by omega
        obtain ⟨hf, b', off', rfl, hb', hcw⟩ := w3.at_ (m := 2) rfl (by decide) hlk
        generalize z3.getD k [] = z at *
        obtain ⟨l, us, rfl, wp, hf⟩ := hf.int_
        obtain ⟨d, us, rfl, wq, hf⟩ := hf.int_
        obtain rfl := hf.nil_
        have hc0 : w.cell? ⟨b', off' + k * 2, none⟩ = some (.int .u16 l) := hcw 0 _ rfl
        have hc1 : w.cell? ⟨b', off' + k * 2 + 1, none⟩ = some (.int .u16 d) := hcw 1 _ rfl
        have hv0 := (hL.cell (p := ⟨b', off' + k * 2, none⟩) hb').trans hc0
        have hv1 := (hL.cell (p := ⟨b', off' + k * 2 + 1, none⟩) hb').trans hc1
        obtain ⟨l0, l1⟩ := Base.u16_of wp
        obtain ⟨d0, d1⟩ := Base.u16_of wq
        clear hcw hf wp wq
        have hT2 : 0 ≤ T + d * 1000 ∧ T + d * 1000 ≤ 65535000 * ((k + 1 : Nat) : Int) := by omega
        have hs30 : U 30000 := ⟨by decide, by decide⟩
        obtain ⟨hp, hup⟩ := hx.grow (acked := l) (now := T + d * 1000) (smooth := 30000) (by omega) (by omega) (by omega) l0 l1 ⟨hT2.1, by omega⟩ hs30
        have C1 := fun V => Go.Proofs.Ytffdjgeonookpaa.Cubic.grow_any x hx.fit l (a2 + 1) (T + d * 1000) 30000 ⟨l0, by omega⟩ ⟨by omega, by omega⟩ ⟨hT2.1, by omega⟩ hs30 V
        obtain ⟨q, hq⟩ : ∃ q, growC x l (a2 + 1) (T + d * 1000) 30000 = q := ⟨_, rfl⟩
        rw [hq] at hp hup C1
        unfold WinPost wc at C1
        clear hq
        go_upto_region 11 with fail
        generalize T + d * 1000 = T1 at *
        have e0 := fun p : In (Lt wr) => inCell p k0
        have e1 := fun p : In (Lt wr) => inCell p k1
        have e2 := fun p : In (Lt wr) => inCell p k2
        have e3 := fun p : In (Lt wr) => inCell p k3
        have e4 := fun p : In (Lt wr) => inCell p k4
        have e5 := fun p : In (Lt wr) => inCell p k5
        have e6 := fun p : In (Lt wr) => inCell p k6
        have ev := fun p : In (Lt wr) => inCell p hv0
        clear k0 k1 k2 k3 k4 k5 k6
        refine wp_region_rest (C := fun w' => ∃ p : In (Lt wr), w' = p.w) 10 1 (by kernel_rfl) (by kernel_rfl) (by kernel_rfl) (by kernel_rfl) (by kernel_rfl) ⟨⟨wr.drew, Lt.drew wr⟩, rfl⟩ ?_
        simp only [List.toList_toArray, List.take_succ_cons, List.take_zero]
        repeat (go_big_quiet_step (first | (go_at_call 16; refine in_below (v := .agg #[.int .u64 q.cw, .int .u64 q.th, .int .u64 q.ac, .int .u64 q.pk, .int .u64 q.ep, .int .u64 q.k, .int .u64 q.fr]) ?_; exact C1 _)))
        refine wpQuiet_nil ?_
        rintro w5 ⟨⟨_, hw5⟩, rfl⟩
        have hw5 : Below wr.heap.size wr w5 := hw5
        clear e0 e1 e2 e3 e4 e5 e6 ev C1
        have rB5 := rB.below hw5 hlt
        refine wpAny_of_held (S := fun _ => True) _ _ _ _ ?_
        refine held_st (i := 10) rfl (by kernel_rfl) (by kernel_rfl) (st_row 29 (.tmp 12) (.tmp 62) rfl (g := rb) (cells := #[.int .u64 q.cw, .int .u64 q.th, .int .u64 q.ac, .int .u64 q.pk, .int .u64 q.ep, .int .u64 q.k, .int .u64 q.fr]) (by kernel_rfl) (by kernel_rfl) rB5 (by kernel_rfl) rfl (by simp [Value.oneCell'])) trivial ?_
        refine held_done (by kernel_rfl) ?_
        have rB6 : Blk (w5.setRow rb #[.int .u64 q.cw, .int .u64 q.th, .int .u64 q.ac, .int .u64 q.pk, .int .u64 q.ep, .int .u64 q.k, .int .u64 q.fr]) rb #[.int .u64 q.cw, .int .u64 q.th, .int .u64 q.ac, .int .u64 q.pk, .int .u64 q.ep, .int .u64 q.k, .int .u64 q.fr] 29 := rB5.setRow _
        have hL6 : Below w.heap.size w (w5.setRow rb #[.int .u64 q.cw, .int .u64 q.th, .int .u64 q.ac, .int .u64 q.pk, .int .u64 q.ep, .int .u64 q.k, .int .u64 q.fr]) := below_setRow' (Base.next hL hw5) hle
        generalize w5.setRow rb #[.int .u64 q.cw, .int .u64 q.th, .int .u64 q.ac, .int .u64 q.pk, .int .u64 q.ep, .int .u64 q.k, .int .u64 q.fr] = Z at *
        have hcell6 := (hL6.cell (p := ⟨b', off' + k * 2, none⟩) hb').trans hc0
        have w4Z := w4.below hL6
        clear hv0 hv1 hc0 hc1 hw5 rB5 rB rB' hL hx
        obtain ⟨k0, k1, k2, k3, k4, k5, k6⟩ := blk7 rB6
        have hltZ := rB6.lt
        have n1 : ¬ M + l < q.cw := by have := hp.cw; omega
        have n2 : ¬ M + l < q.fr := by have := hp.fr; omega
        have n3 : ¬ q.cw < x.cw := by omega
        have hq1 : q.cw ≤ 40000000 := by have := hp.cw; omega
        have hq0 : 0 ≤ q.cw := by have := hp.fit.cw.1; omega
        have hend : ∀ (y : Wn) V, Blk V rb (wc y) 29 → Plays y (a2 + 1) (M + l) → Below w.heap.size w V → (∃ (k1 : Nat) (x : Wn) (M1 T2 : Int), k1 ≤ z3.length ∧ Value.int .i64 ((k : Int) + 1) = .int .i64 k1 ∧ Value.int .u64 (M + l) = .int .u64 M1 ∧ Value.int .u64 T1 = .int .u64 T2 ∧ Blk V rb (wc x) 29 ∧ Plays x (a2 + 1) M1 ∧ 0 ≤ M1 ∧ M1 ≤ 66000 + 65535 * k1 ∧ 0 ≤ T2 ∧ T2 ≤ 65535000 * k1 ∧ Below w.heap.size w V) := fun y V h1 h2 h3 => ⟨k + 1, y, M + l, T1, by omega, by go_num, rfl, rfl, h1, h2, by omega, by omega, hT2.1, hT2.2, h3⟩
        have stay := hend q Z rB6 hp hL6
        by_cases hk4 : k < z4.length
        · have hk4I : (k : Int) < (z4.length : Int) := by omega
          obtain ⟨b4, o4, rfl, hb4, hc4⟩ := w4Z.at_ hk4
          generalize z4.getD k false = cb at *
          cases cb with
          | false =>
            clear hend hup
            go_wp2
            all_goals go_roundw
            all_goals first
              | exact stay
              | (simp [intOf]; omega)
          | true =>
            by_cases h2m : 2 * (a2 + 1) ≤ q.cw
            · have CU := fun V => Go.Proofs.Ytffdjgeonookpaa.Cubic.cut_any q hp.fit 7 10 (uC 7) (uC 10) V
              have hpc := hp.cut (by omega) h2m
              generalize cutC q 7 10 = y at *
              unfold WinPost wc at CU
              clear stay
              go_upto_region 16 with fail
              go_wp2_with (first
                | (go_at_call 18; refine (CU _).mono ?_; rintro e v ⟨rfl, LC⟩; have rBy := rB6.below LC rB6.lt; have hLy := Base.next hL6 LC)
                | (refine wpl_store_row rfl 29 (.tmp 12) (.tmp 105) rfl rBy #[.int .u64 y.cw, .int .u64 y.th, .int .u64 y.ac, .int .u64 y.pk, .int .u64 y.ep, .int .u64 y.k, .int .u64 y.fr] rfl rfl (by kernel_rfl) rfl (by simp [Value.oneCell']) ?_))
              all_goals go_roundw
              all_goals first
                | exact hend y _ (rBy.setRow _) hpc (below_setRow' hLy hle)
                | (simp [intOf]; omega)
            · clear hend hup
              go_wp2
              all_goals go_roundw
              all_goals first
                | exact stay
                | (simp [intOf]; omega)
        · have hk4I : ¬ (k : Int) < (z4.length : Int) := by omega
          clear hend hup
          go_wp2
          all_goals go_roundw
          all_goals first
            | exact stay
            | (simp [intOf]; omega)
      · obtain rfl : k = z3.length := by omega
        have hlst := hx.least
        go_wp2
        all_goals go_ret
        all_goals exact ⟨rfl, hL⟩

set_option maxRecDepth 100000 in
theorem lifted (os : Os) (started : os.Started) (H : Type) (enc : TypeId × Value → H) :
    ReturnsInHanded {} Try.checked os 9 .any (Rows.cubicPlaysSpec.pre6 enc Try.prog Try.f9 Rows.cubicPlaysRow.domain false) (Rows.cubicPlaysSpec.post enc Try.prog Try.f9 false true false false) := by
  refine returnsInHanded_of_change (C := Try.checked) own started (by kernel_rfl) Try.func9
    (ChangeSpec.witness6 (enc := enc) (C := Try.checked) false ⟨#[], #[.int .u16 0, .int .u16 0, .int .u8 0, .slice none 0 0, .slice none 0 0], []⟩ 8 (by kernel_rfl) (by kernel_rfl) (by kernel_rfl) (by kernel_rfl)) ?_
  intro W base args ds gs before hval0 hW hcnd _
  have hval : ∀ (j : Nat) t v, Try.f9.params[j]? = some t → args[j]? = some v → Value.okWide Try.prog W .any base t v := hval0
  have hW' := hW
  obtain ⟨p, q, hA0, hV, rfl, hfz, hnd⟩ := hW
  have hA : DataW.TrodAll enc Try.prog W 0 (fun _ => true) true Try.f9.params.toList args.toList ds p := hA0
  rw [Try.params9] at hA hval
  obtain ⟨v0, vs0, d0, ds0, p0, q0, hargs, rfl, rfl, h0, r0⟩ := trodAll_cons hA
  obtain ⟨v1, vs1, d1, ds1, p1, q1, rfl, rfl, rfl, h1, r1⟩ := trodAll_cons r0
  obtain ⟨v2, vs2, d2, ds2, p2, q2, rfl, rfl, rfl, h2, r2⟩ := trodAll_cons r1
  obtain ⟨v3, vs3, d3, ds3, p3, q3, rfl, rfl, rfl, h3, r3⟩ := trodAll_cons r2
  obtain ⟨v4, vs4, d4, ds4, p4, q4, rfl, rfl, rfl, h4, r4⟩ := trodAll_cons r3
  obtain ⟨rfl, rfl, rfl⟩ := trodAll_nil r4
  obtain rfl : args = #[v0, v1, v2, v3, v4] := by cases args; simp_all
  obtain ⟨rfl, rfl⟩ := trodVars_none hV
  obtain ⟨a0, rfl, rfl, rfl, w0⟩ := open_int Try.underlying37 (hval 0 37 v0 rfl rfl) h0
  obtain ⟨a1, rfl, rfl, rfl, w1⟩ := open_int Try.underlying37 (hval 1 37 v1 rfl rfl) h1
  obtain ⟨a2, rfl, rfl, rfl, w2⟩ := open_int Try.underlying5 (hval 2 5 v2 rfl rfl) h2
  obtain ⟨a3, len3, cap3, rfl⟩ := okWide_slice Try.underlying38 (hval 3 38 v3 rfl rfl)
  have k3 := h3
  have lt3 : ∀ x ∈ p3, x.block < W.heap.size := by obtain ⟨m, hm⟩ := k3; exact DataW.trod_lt m _ _ _ hm
  obtain ⟨z3, w3, n3, m3, o3⟩ : ∃ zs, Recs W a3 [.int .u16, .int .u16] zs ∧ zs.length = len3 ∧ len3 ≤ cap3 ∧ cap3 ≤ maxLen := by
    obtain ⟨fuel, hf⟩ := h3
    rcases open_recs Try.underlying38 (show leaf Try.prog 6 40 = some [.int .u16, .int .u16] by kernel_rfl) (by kernel_rfl) (by decide) hf with ⟨hcs, hx⟩ | ⟨x, l, c, zs, hcs, hl, hm, hz, hsp⟩
    · simp [Value.cells] at hcs
      obtain ⟨rfl, rfl, rfl⟩ := hcs
      exact ⟨[], Recs.nil _ _ _, rfl, Nat.le_refl _, Nat.zero_le _⟩
    · simp [Value.cells] at hcs
      obtain ⟨rfl, rfl, rfl⟩ := hcs
      exact ⟨zs, hsp, hz, hl, hm⟩
  obtain ⟨a4, len4, cap4, rfl⟩ := okWide_slice Try.underlying39 (hval 4 39 v4 rfl rfl)
  have k4 := h4
  have lt4 : ∀ x ∈ p4, x.block < W.heap.size := by obtain ⟨m, hm⟩ := k4; exact DataW.trod_lt m _ _ _ hm
  obtain ⟨z4, w4, n4, m4, o4⟩ : ∃ zs, Bools W a4 zs ∧ zs.length = len4 ∧ len4 ≤ cap4 ∧ cap4 ≤ maxLen := by
    obtain ⟨fuel, hf⟩ := h4
    rcases open_bools Try.underlying39 Try.underlying4 (by kernel_rfl) hf with ⟨hcs, hx⟩ | ⟨x, l, c, zs, E, S, hcs, hl, hm, hz, hx, hE, hS, hsp⟩
    · simp [Value.cells] at hcs
      obtain ⟨rfl, rfl, rfl⟩ := hcs
      exact ⟨[], Bools.nil _ _, rfl, Nat.le_refl _, Nat.zero_le _⟩
    · simp [Value.cells] at hcs
      obtain ⟨rfl, rfl, rfl⟩ := hcs
      exact ⟨zs, hsp, hz, hl, hm⟩
  clear hA0 hval0
  refine (walk a0 a1 a2 a3 len3 cap3 z3 a4 len4 cap4 z4 W w0 w1 w2 w3 n3 m3 o3 w4 n4 m4 o4).mono fun e W' ⟨he, bel⟩ => ?_
  subst he
  exact ⟨_, rfl, _, _, _, [], _, [], hW', trodAll_mk1 (shut_bool Try.underlying4 _), (trodAll_cons_mk (shut_int Try.underlying37 w0) (trodAll_cons_mk (shut_int Try.underlying37 w1) (trodAll_cons_mk (shut_int Try.underlying5 w2) (trodAll_cons_mk (Below.trod laidOut (by kernel_rfl) (of_decide_eq_true (by kernel_rfl)) k3 bel lt3) (trodAll_cons_mk (Below.trod laidOut (by kernel_rfl) (of_decide_eq_true (by kernel_rfl)) k4 bel lt4) trodAll_mk0))))), rfl, bel.frame _, fun h => by cases h⟩

theorem over : Rows.cubicPlaysRow.holds Try.pinned (OpenSpec.ofChange Rows.cubicPlaysSpec) :=
  OpenClaim.holds_of_wide 9 Try.f9 rfl rfl rfl rfl rfl rfl rfl ⟨rfl, rfl, rfl, rfl, rfl⟩ rfl rfl rfl rfl rfl (by kernel_rfl) Try.func9 (by kernel_rfl)
    (of_decide_eq_true (by kernel_rfl)) (by unfold Func.isWrapper; first | (rw [if_pos (by decide +kernel)]; kernel_rfl) | (rw [if_neg (by decide +kernel)]; exact ⟨rfl, rfl⟩))
    (fun os started H enc _ => lifted os started H enc)

/-- The given statement. -/
theorem proved : Rows.CubicPlaysSaid :=
  over
#print axioms proved
end Go.Proofs.Ytffdjgeonookpaa.cubicPlays
