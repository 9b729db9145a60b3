/-
  Whatever is acknowledged and cut, a window is never above what it began with and all that was acknowledged. No conditions.
-/
import Derived.Test.YtnnceeefilpgeaaBools
import Derived.Test.YtnnceeefilpgeaaRows
import Derived.Test.YtnnceeefilpgeaaRow
import Derived.WalkKit
import Derived.ProofKit
import Derived.OpenShut
import Derived.ShutString
import Derived.ChangeOld
import Derived.Below
import Derived.Test.YtnnceeefilpgeaaRenoAlive
namespace Go.Proofs.Ytnnceeefilpgeaa.renoPlays
open Go.ChangeShapes Go.WideShapes Go.ChangeAt Go.RowKit
open Go.ChangeMaps (open_string shut_string)
open Go.Proofs.Ytnnceeefilpgeaa.Base
set_option linter.unusedVariables false
set_option linter.unusedSimpArgs false

theorem own : ownKnob Try.prog.godebug = none := by kernel_rfl
theorem laidOut : laidOutB Try.prog = true := by kernel_rfl

open Go.Proofs.Ytnnceeefilpgeaa.Reno Go.Proofs.Ytnnceeefilpgeaa.RenoPlain Go.Proofs.Ytnnceeefilpgeaa.Hop
theorem plays {m M l : Int} {x : Wn} (m0 : 1 ≤ m) (m1 : m ≤ 256) (l0 : 0 ≤ l) (l1 : l ≤ 65535) (c0 : m ≤ x.cw) (a0 : 0 ≤ x.ac) (h : x.cw + x.ac ≤ M) (hM : M ≤ 40000000) :
    m ≤ (growR x l m).cw ∧ 0 ≤ (growR x l m).ac ∧ (growR x l m).cw + (growR x l m).ac ≤ M + l := by
  have h1 : Sat.mul 2 m = 2 * m := by unfold Sat.mul; rw [if_pos (by omega)]
  obtain ⟨c, t, a, p, e, k, f⟩ := x
  dsimp only at c0 a0 h
  have h2 : Sat.add a l = a + l := by unfold Sat.add; rw [if_pos (by omega)]
  have h3 : Sat.add c m = c + m := by unfold Sat.add; rw [if_pos (by omega)]
  obtain ⟨y, hy, y0, y1, y2⟩ : ∃ y, min l (2 * m) = y ∧ 0 ≤ y ∧ y ≤ l ∧ y ≤ 2 * m := ⟨_, rfl, by omega, by omega, by omega⟩
  have h4 : Sat.add c y = c + y := by unfold Sat.add; rw [if_pos (by omega)]
  unfold growR slowW
  rw [h1, hy]
  simp only
  rw [h2, h3, h4]
  clear h1 h2 h3 h4 hy
  split
  · refine ⟨?_, ?_, ?_⟩ <;> dsimp only <;> omega
  · split
    · refine ⟨?_, ?_, ?_⟩ <;> dsimp only <;> omega
    · refine ⟨?_, ?_, ?_⟩ <;> dsimp only <;> omega
theorem halves {c : Int} (h0 : 0 ≤ c) (h1 : c ≤ 18446744073709551615) : Wide.down c 1 2 = c / 2 := by
  unfold Wide.down
  rw [if_neg (by omega), Int.mul_one]
set_option maxHeartbeats 4000000 in
set_option maxRecDepth 20000 in
theorem walk (a0 : Int) (a1 : Int) (a2 : Int) (a3 : Option Addr) (len3 cap3 : Nat) (z3 : List Int) (a4 : Option Addr) (len4 cap4 : Nat) (z4 : List Bool) (w : World) (w0 : (Lit.int .u16 a0).wf = true) (w1 : (Lit.int .u16 a1).wf = true) (w2 : (Lit.int .u8 a2).wf = true) (w3 : Ints .u16 w a3 z3) (n3 : z3.length = len3) (m3 : len3 ≤ cap3) (o3 : cap3 ≤ maxLen) (f3 : ∀ x ∈ z3, (Lit.int .u16 x).wf = true) (w4 : Bools w a4 z4) (n4 : z4.length = len4) (m4 : len4 ≤ cap4) (o4 : cap4 ≤ maxLen) :
    Calls Try.prog 6 #[.int .u16 a0, .int .u16 a1, .int .u8 a2, .slice a3 len3 cap3, .slice a4 len4 cap4] w fun e w' => e = .returned (.bool true) ∧ Below w.heap.size w w' := by
  obtain ⟨b0, b1⟩ := Base.u16_of w0
  obtain ⟨t0, t1⟩ := Base.u16_of w1
  obtain ⟨s0, s1⟩ := Base.u8_of w2
  subst n3
  subst n4
  have CA := fun V => alive_reno V
  by_cases hb : (500 : Int) < (z3.length : Int)
  · go_enter Try.func6, Try.ntmps6
    go_upto_region 3 with fail
    refine at_any ?_
    intro W0 hW
    obtain ⟨rB, hL⟩ : Blk W0 w.heap.size #[.int .u64 (a2 + 1 + a0), .int .u64 a1, .int .u64 0, .int .u64 0, .int .u64 0, .int .u64 0, .int .u64 0] 24 ∧ Below w.heap.size w W0 := by
      subst hW
      exact ⟨Blk.new _ _ _, (Below.refl _ _).alloc (Nat.le_refl _) _⟩
    clear hW
    have k0 : W0.cell? ⟨w.heap.size, 0, none⟩ = some (.int .u64 (a2 + 1 + a0)) := rB.cell 0
    have hlt := rB.lt
    go_wp2_with (first
      | (go_at_call 9; (with_reducible refine (CA W0).mono ?_); rintro e X ⟨rfl, L1⟩)
      | (go_at_call 9; (with_reducible refine (CA X).mono ?_); rintro e X2 ⟨rfl, L2⟩))
    all_goals go_ret
    all_goals exact ⟨rfl, Base.next (Base.next hL L1) L2⟩
  · go_enter Try.func6, Try.ntmps6
    go_upto_region 3 with fail
    refine at_any ?_
    intro W0 hW
    obtain ⟨rB, hL⟩ : Blk W0 w.heap.size #[.int .u64 (a2 + 1 + a0), .int .u64 a1, .int .u64 0, .int .u64 0, .int .u64 0, .int .u64 0, .int .u64 0] 24 ∧ Below w.heap.size w W0 := by
      subst hW
      exact ⟨Blk.new _ _ _, (Below.refl _ _).alloc (Nat.le_refl _) _⟩
    clear hW
    have k0 : W0.cell? ⟨w.heap.size, 0, none⟩ = some (.int .u64 (a2 + 1 + a0)) := rB.cell 0
    have hlt := rB.lt
    go_upto_region 6 with (go_at_call 9; refine (CA W0).mono ?_; rintro e X ⟨rfl, L1⟩)
    have rX := rB.below L1 rB.lt
    have hM := Base.next hL L1
    clear rB hL L1 CA k0 hlt
    obtain ⟨rb, hrb⟩ : ∃ rb, rb = w.heap.size := ⟨_, rfl⟩
    obtain ⟨x0, hx0⟩ : ∃ x : Wn, x = ⟨a2 + 1 + a0, a1, 0, 0, 0, 0, 0⟩ := ⟨_, rfl⟩
    have f0 : WFit x0 := by subst hx0; exact ⟨⟨by show 0 ≤ a2 + 1 + a0; omega, by show a2 + 1 + a0 ≤ _; omega⟩, ⟨t0, by show a1 ≤ _; omega⟩, uS 0, uS 0, uS 0, uS 0, uS 0⟩
    have g0 : a2 + 1 ≤ x0.cw ∧ 0 ≤ x0.ac ∧ x0.cw + x0.ac ≤ a2 + 1 + a0 := by subst hx0; dsimp only; omega
    replace rX : Blk X rb (wc x0) 24 := by subst hx0 hrb; exact rX
    have hle : w.heap.size ≤ rb := by omega
    rw [← hrb]
    clear hx0 hrb
    go_wp2
    go_loopw [13, 14, 37] (fun most _ i wr => ∃ (k : Nat) (x : Wn) (M : Int), k ≤ z3.length ∧ i = .int .i64 k ∧ most = .int .u64 M ∧ Blk wr rb (wc x) 24 ∧ WFit x ∧ a2 + 1 ≤ x.cw ∧ 0 ≤ x.ac ∧ x.cw + x.ac ≤ M ∧ 0 ≤ M ∧ M ≤ 66000 + 65535 * k ∧ Below w.heap.size w wr) (fun _ _ i _ => z3.length - (intOf i).toNat)
    case atStart => exact ⟨0, x0, _, Nat.zero_le _, rfl, rfl, rX, f0, g0.1, g0.2.1, g0.2.2, by omega, by omega, hM⟩
    case round =>
      obtain ⟨k, x, M, hk, rfl, rfl, rB, hx, hc, hac, hsum, hM0, hM1, hL⟩ := hrel
      clear rX f0 g0 hM
      have hlt := rB.lt
      have rB' := rB
      unfold wc at rB'
      obtain ⟨k0, k1, k2, k3, k4, k5, k6⟩ := blk7 rB'
      by_cases hlk : k < z3.length
      · have hkI : (k : Int) < (z3.length : Int) := by omega
        obtain ⟨b', off', rfl, hb', hcw⟩ := w3.at_ hlk
        have hcell := (hL.cell (p := ⟨b', off' + k, none⟩) hb').trans hcw
        have hlw := f3 (z3.getD k 0) (by rw [show z3.getD k 0 = z3[k] by simp [List.getD, hlk]]; exact List.getElem_mem hlk)
        generalize z3.getD k 0 = l at *
        obtain ⟨l0, l1⟩ := Base.u16_of hlw
        have hp := plays (m := a2 + 1) (by omega) (by omega) l0 l1 hc hac hsum (by omega)
        have hfq := fit_grow hx (acked := l) (mss := a2 + 1) ⟨l0, by omega⟩ ⟨by omega, by omega⟩
        have C1 := fun V => grow_any x hx l (a2 + 1) ⟨l0, by omega⟩ ⟨by omega, by omega⟩ V
        obtain ⟨q, hq⟩ : ∃ q, growR x l (a2 + 1) = q := ⟨_, rfl⟩
        rw [hq] at hp hfq C1
        unfold WinPost wc at C1
        clear hq hlw
        go_upto_region 9 with fail
        have e0 := fun p : In (Lt wr) => inCell p k0
        have e1 := fun p : In (Lt wr) => inCell p k1
        have e2 := fun p : In (Lt wr) => inCell p k2
        have e3 := fun p : In (Lt wr) => inCell p k3
        have e4 := fun p : In (Lt wr) => inCell p k4
        have e5 := fun p : In (Lt wr) => inCell p k5
        have e6 := fun p : In (Lt wr) => inCell p k6
        have ev := fun p : In (Lt wr) => inCell p hcell
        clear k0 k1 k2 k3 k4 k5 k6
        refine wp_region_rest (C := fun w' => ∃ p : In (Lt wr), w' = p.w) 8 1 (by kernel_rfl) (by kernel_rfl) (by kernel_rfl) (by kernel_rfl) (by kernel_rfl) ⟨⟨wr.drew, Lt.drew wr⟩, rfl⟩ ?_
        simp only [List.toList_toArray, List.take_succ_cons, List.take_zero]
        repeat (go_big_quiet_step (first | (go_at_call 10; refine in_below (v := .agg #[.int .u64 q.cw, .int .u64 q.th, .int .u64 q.ac, .int .u64 q.pk, .int .u64 q.ep, .int .u64 q.k, .int .u64 q.fr]) ?_; exact C1 _)))
        refine wpQuiet_nil ?_
        rintro w5 ⟨⟨_, hw5⟩, rfl⟩
        have hw5 : Below wr.heap.size wr w5 := hw5
        clear e0 e1 e2 e3 e4 e5 e6 ev C1
        have rB5 := rB.below hw5 hlt
        have hc5 := keepCell hw5 hcell
        refine wpAny_of_held (S := fun _ => True) _ _ _ _ ?_
        refine held_st (i := 8) rfl (by kernel_rfl) (by kernel_rfl) (st_row 24 (.tmp 12) (.tmp 47) rfl (g := rb) (cells := #[.int .u64 q.cw, .int .u64 q.th, .int .u64 q.ac, .int .u64 q.pk, .int .u64 q.ep, .int .u64 q.k, .int .u64 q.fr]) (by kernel_rfl) (by kernel_rfl) rB5 (by kernel_rfl) rfl (by simp [Value.oneCell'])) trivial ?_
        refine held_done (by kernel_rfl) ?_
        have rB6 : Blk (w5.setRow rb #[.int .u64 q.cw, .int .u64 q.th, .int .u64 q.ac, .int .u64 q.pk, .int .u64 q.ep, .int .u64 q.k, .int .u64 q.fr]) rb #[.int .u64 q.cw, .int .u64 q.th, .int .u64 q.ac, .int .u64 q.pk, .int .u64 q.ep, .int .u64 q.k, .int .u64 q.fr] 24 := rB5.setRow _
        have hL6 : Below w.heap.size w (w5.setRow rb #[.int .u64 q.cw, .int .u64 q.th, .int .u64 q.ac, .int .u64 q.pk, .int .u64 q.ep, .int .u64 q.k, .int .u64 q.fr]) := below_setRow' (Base.next hL hw5) hle
        generalize w5.setRow rb #[.int .u64 q.cw, .int .u64 q.th, .int .u64 q.ac, .int .u64 q.pk, .int .u64 q.ep, .int .u64 q.k, .int .u64 q.fr] = Z at *
        have hcell6 := (hL6.cell (p := ⟨b', off' + k, none⟩) hb').trans hcw
        have w4Z := w4.below hL6
        clear hcell hc5 hw5 rB5 rB hL hcw hx hc hac
        obtain ⟨hp1, hp2, hp3⟩ := hp
        obtain ⟨k0, k1, k2, k3, k4, k5, k6⟩ := blk7 rB6
        have hltZ := rB6.lt
        have hfree := rB6
        have hle3 : ¬ M + l < q.cw + q.ac := by omega
        have hq1 : q.cw + q.ac ≤ 40000000 := by omega
        have hend : ∀ (y : Wn) V, Blk V rb (wc y) 24 → WFit y → a2 + 1 ≤ y.cw → 0 ≤ y.ac → y.cw + y.ac ≤ M + l → Below w.heap.size w V → (∃ (k1 : Nat) (x : Wn) (M1 : Int), k1 ≤ z3.length ∧ Value.int .i64 ((k : Int) + 1) = .int .i64 k1 ∧ Value.int .u64 (M + l) = .int .u64 M1 ∧ Blk V rb (wc x) 24 ∧ WFit x ∧ a2 + 1 ≤ x.cw ∧ 0 ≤ x.ac ∧ x.cw + x.ac ≤ M1 ∧ 0 ≤ M1 ∧ M1 ≤ 66000 + 65535 * k1 ∧ Below w.heap.size w V) := fun y V h1 h2 h3 h4 h5 h6 => ⟨k + 1, y, M + l, by omega, by go_num, rfl, h1, h2, h3, h4, h5, by omega, by omega, h6⟩
        have stay := hend q Z rB6 hfq hp1 hp2 hp3 hL6
        by_cases hk4 : k < z4.length
        · have hk4I : (k : Int) < (z4.length : Int) := by omega
          obtain ⟨b4, o4, rfl, hb4, hc4⟩ := w4Z.at_ hk4
          generalize z4.getD k false = cb at *
          cases cb with
          | false =>
            clear hend
            go_wp2
            all_goals go_roundw
            all_goals first
              | exact stay
              | (simp [intOf]; omega)
          | true =>
            by_cases h2m : 2 * (a2 + 1) ≤ q.cw
            · have CU := fun V => cut_any q hfq 1 2 (uS 1) (uS 2) V
              have hcut : cutR q 1 2 = ⟨q.cw / 2, q.cw / 2, 0, q.pk, q.ep, q.k, q.fr⟩ := by unfold cutR; rw [halves hfq.cw.1 hfq.cw.2]
              have hfc := fit_cut hfq (uS 1) (uS 2)
              rw [hcut] at CU hfc
              unfold WinPost wc at CU
              dsimp only at CU
              clear hcut stay
              go_upto_region 14 with fail
              generalize hd : q.cw / 2 = d at *
              have hd0 : a2 + 1 ≤ d ∧ d ≤ q.cw := by omega
              clear hd
              go_wp2_with (first
                | (go_at_call 14; refine (CU _).mono ?_; rintro e y ⟨rfl, LC⟩; have rBy := rB6.below LC rB6.lt; have hLy := Base.next hL6 LC)
                | (refine wpl_store_row rfl 24 (.tmp 12) (.tmp 80) rfl rBy #[.int .u64 d, .int .u64 d, .int .u64 0, .int .u64 q.pk, .int .u64 q.ep, .int .u64 q.k, .int .u64 q.fr] rfl rfl (by kernel_rfl) rfl (by simp [Value.oneCell']) ?_))
              all_goals go_roundw
              all_goals first
                | exact hend ⟨d, d, 0, q.pk, q.ep, q.k, q.fr⟩ _ (rBy.setRow _) hfc (by dsimp only; omega) (Int.le_refl 0) (by dsimp only; omega) (below_setRow' hLy hle)
                | (simp [intOf]; omega)
            · clear hend
              go_wp2
              all_goals go_roundw
              all_goals first
                | exact stay
                | (simp [intOf]; omega)
        · have hk4I : ¬ (k : Int) < (z4.length : Int) := by omega
          clear hend
          go_wp2
          all_goals go_roundw
          all_goals first
            | exact stay
            | (simp [intOf]; omega)
      · obtain rfl : k = z3.length := by omega
        go_wp2
        all_goals go_ret
        all_goals exact ⟨rfl, hL⟩

set_option maxRecDepth 100000 in
theorem lifted (os : Os) (started : os.Started) (H : Type) (enc : TypeId × Value → H) :
    ReturnsInHanded {} Try.checked os 6 .any (Rows.renoPlaysSpec.pre6 enc Try.prog Try.f6 Rows.renoPlaysRow.domain false) (Rows.renoPlaysSpec.post enc Try.prog Try.f6 false true false false) := by
  refine returnsInHanded_of_change (C := Try.checked) own started (by kernel_rfl) Try.func6
    (ChangeSpec.witness6 (enc := enc) (C := Try.checked) false ⟨#[], #[.int .u16 0, .int .u16 0, .int .u8 0, .slice none 0 0, .slice none 0 0], []⟩ 8 (by kernel_rfl) (by kernel_rfl) (by kernel_rfl) (by kernel_rfl)) ?_
  intro W base args ds gs before hval0 hW hcnd _
  have hval : ∀ (j : Nat) t v, Try.f6.params[j]? = some t → args[j]? = some v → Value.okWide Try.prog W .any base t v := hval0
  have hW' := hW
  obtain ⟨p, q, hA0, hV, rfl, hfz, hnd⟩ := hW
  have hA : DataW.TrodAll enc Try.prog W 0 (fun _ => true) true Try.f6.params.toList args.toList ds p := hA0
  rw [Try.params6] at hA hval
  obtain ⟨v0, vs0, d0, ds0, p0, q0, hargs, rfl, rfl, h0, r0⟩ := trodAll_cons hA
  obtain ⟨v1, vs1, d1, ds1, p1, q1, rfl, rfl, rfl, h1, r1⟩ := trodAll_cons r0
  obtain ⟨v2, vs2, d2, ds2, p2, q2, rfl, rfl, rfl, h2, r2⟩ := trodAll_cons r1
  obtain ⟨v3, vs3, d3, ds3, p3, q3, rfl, rfl, rfl, h3, r3⟩ := trodAll_cons r2
  obtain ⟨v4, vs4, d4, ds4, p4, q4, rfl, rfl, rfl, h4, r4⟩ := trodAll_cons r3
  obtain ⟨rfl, rfl, rfl⟩ := trodAll_nil r4
  obtain rfl : args = #[v0, v1, v2, v3, v4] := by cases args; simp_all
  obtain ⟨rfl, rfl⟩ := trodVars_none hV
  obtain ⟨a0, rfl, rfl, rfl, w0⟩ := open_int Try.underlying29 (hval 0 29 v0 rfl rfl) h0
  obtain ⟨a1, rfl, rfl, rfl, w1⟩ := open_int Try.underlying29 (hval 1 29 v1 rfl rfl) h1
  obtain ⟨a2, rfl, rfl, rfl, w2⟩ := open_int Try.underlying5 (hval 2 5 v2 rfl rfl) h2
  obtain ⟨a3, len3, cap3, rfl⟩ := okWide_slice Try.underlying31 (hval 3 31 v3 rfl rfl)
  have k3 := h3
  have lt3 : ∀ x ∈ p3, x.block < W.heap.size := by obtain ⟨m, hm⟩ := k3; exact DataW.trod_lt m _ _ _ hm
  obtain ⟨z3, w3, n3, m3, o3, f3⟩ : ∃ zs, Ints .u16 W a3 zs ∧ zs.length = len3 ∧ len3 ≤ cap3 ∧ cap3 ≤ maxLen ∧ (∀ x ∈ zs, (Lit.int .u16 x).wf = true) := by
    obtain ⟨fuel, hf⟩ := h3
    rcases open_ints Try.underlying31 Try.underlying29 (by kernel_rfl) hf with ⟨hcs, hx⟩ | ⟨x, l, c, zs, hcs, _, hl, hm, hz, hx, hcell, hwz⟩
    · simp [Value.cells] at hcs
      obtain ⟨rfl, rfl, rfl⟩ := hcs
      exact ⟨[], Row.nil _ _, rfl, Nat.le_refl _, Nat.zero_le _, (fun _ h => by cases h)⟩
    · simp [Value.cells] at hcs
      obtain ⟨rfl, rfl, rfl⟩ := hcs
      exact ⟨zs.take len3, ints_of hl (by simpa using hz) hcell, take_len hl (by simpa using hz), hl, hm, (fun x hx => hwz x (List.mem_of_mem_take hx))⟩
  obtain ⟨a4, len4, cap4, rfl⟩ := okWide_slice Try.underlying32 (hval 4 32 v4 rfl rfl)
  have k4 := h4
  have lt4 : ∀ x ∈ p4, x.block < W.heap.size := by obtain ⟨m, hm⟩ := k4; exact DataW.trod_lt m _ _ _ hm
  obtain ⟨z4, w4, n4, m4, o4⟩ : ∃ zs, Bools W a4 zs ∧ zs.length = len4 ∧ len4 ≤ cap4 ∧ cap4 ≤ maxLen := by
    obtain ⟨fuel, hf⟩ := h4
    rcases open_bools Try.underlying32 Try.underlying4 (by kernel_rfl) hf with ⟨hcs, hx⟩ | ⟨x, l, c, zs, E, S, hcs, hl, hm, hz, hx, hE, hS, hsp⟩
    · simp [Value.cells] at hcs
      obtain ⟨rfl, rfl, rfl⟩ := hcs
      exact ⟨[], Bools.nil _ _, rfl, Nat.le_refl _, Nat.zero_le _⟩
    · simp [Value.cells] at hcs
      obtain ⟨rfl, rfl, rfl⟩ := hcs
      exact ⟨zs, hsp, hz, hl, hm⟩
  clear hA0 hval0
  refine (walk a0 a1 a2 a3 len3 cap3 z3 a4 len4 cap4 z4 W w0 w1 w2 w3 n3 m3 o3 f3 w4 n4 m4 o4).mono fun e W' ⟨he, bel⟩ => ?_
  subst he
  exact ⟨_, rfl, _, _, _, [], _, [], hW', trodAll_mk1 (shut_bool Try.underlying4 _), (trodAll_cons_mk (shut_int Try.underlying29 w0) (trodAll_cons_mk (shut_int Try.underlying29 w1) (trodAll_cons_mk (shut_int Try.underlying5 w2) (trodAll_cons_mk (Below.trod laidOut (by kernel_rfl) (of_decide_eq_true (by kernel_rfl)) k3 bel lt3) (trodAll_cons_mk (Below.trod laidOut (by kernel_rfl) (of_decide_eq_true (by kernel_rfl)) k4 bel lt4) trodAll_mk0))))), rfl, bel.frame _, fun h => by cases h⟩

theorem over : Rows.renoPlaysRow.holds Try.pinned (OpenSpec.ofChange Rows.renoPlaysSpec) :=
  OpenClaim.holds_of_wide 6 Try.f6 rfl rfl rfl rfl rfl rfl rfl ⟨rfl, rfl, rfl, rfl, rfl⟩ rfl rfl rfl rfl rfl (by kernel_rfl) Try.func6 (by kernel_rfl)
    (of_decide_eq_true (by kernel_rfl)) (by unfold Func.isWrapper; first | (rw [if_pos (by decide +kernel)]; kernel_rfl) | (rw [if_neg (by decide +kernel)]; exact ⟨rfl, rfl⟩))
    (fun os started H enc _ => lifted os started H enc)

/-- The given statement. -/
theorem proved : Rows.RenoPlaysSaid :=
  over
#print axioms proved
end Go.Proofs.Ytnnceeefilpgeaa.renoPlays
