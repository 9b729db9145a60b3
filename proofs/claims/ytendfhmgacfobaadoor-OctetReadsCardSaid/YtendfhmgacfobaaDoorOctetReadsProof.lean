/-
  Of any bytes and any row of calls a reader returns what the reference reads. No conditions beside the table of math/bits, which the card ties to the program's text.
-/
import Derived.SizedLaws
import Derived.Test.YtendfhmgacfobaaDoorTab
import Derived.Test.YtendfhmgacfobaaDoorCards
import Derived.Test.YtendfhmgacfobaaDoorTie
import Derived.SevenTiedAt
import Derived.Handed
import Derived.Test.YtendfhmgacfobaaDoorRows
import Derived.Test.YtendfhmgacfobaaDoorRow
import Derived.WalkKit
import Derived.ProofKit
import Derived.OpenShut
import Derived.ShutString
import Derived.ChangeOld
import Derived.Below
import Derived.Test.YtendfhmgacfobaaDoorOctAlive
import Derived.BigQuiet
import Derived.Deep.QuietTactic
namespace Go.Proofs.YtendfhmgacfobaaDoor.octetReads
open Go.ChangeShapes Go.WideShapes Go.ChangeAt Go.RowKit
open Go.ChangeMaps (open_string shut_string)
open Go.Proofs.YtendfhmgacfobaaDoor.Base
set_option linter.unusedVariables false

theorem own : ownKnob Tryd.prog.godebug = none := by kernel_rfl
theorem laidOut : laidOutB Tryd.prog = true := by kernel_rfl

open Go.Proofs.YtendfhmgacfobaaDoor.Oct Go.Proofs.YtendfhmgacfobaaDoor.OctPlain Go.Proofs.YtendfhmgacfobaaDoor.Tab
theorem drop_len {l : List Int} {t : Nat} (h : t ≤ l.length) : ((l.drop t).length : Int) = (l.length : Int) - (t : Int) := by rw [List.length_drop]; omega
theorem drop_len2 {l : List Int} {t q : Nat} (h : t + q ≤ l.length) : ((l.drop (t + q)).length : Int) = (l.length : Int) - ((t : Int) + (q : Int)) := by rw [List.length_drop]; omega
set_option maxRecDepth 100000 in
set_option maxHeartbeats 2000000 in
theorem walk (a0 : Option Addr) (len0 cap0 : Nat) (z0 : List Int) (a1 : Option Addr) (len1 cap1 : Nat) (z1 : List Int)  (w : World) (w0 : Ints .u8 w a0 z0) (n0 : z0.length = len0) (m0 : len0 ≤ cap0) (o0 : cap0 ≤ maxLen) (f0 : ∀ x ∈ z0, (Lit.int .u8 x).wf = true) (b0 : cap0 * 1 ≤ 140737488351232) (e0 : a0 = none → len0 = 0 ∧ cap0 = 0) (w1 : Ints .i64 w a1 z1) (n1 : z1.length = len1) (m1 : len1 ≤ cap1) (o1 : cap1 ≤ maxLen) (f1 : ∀ x ∈ z1, (Lit.int .i64 x).wf = true) (b1 : cap1 * 8 ≤ 140737488351232) (e1 : a1 = none → len1 = 0 ∧ cap1 = 0) (hT : Tab.Tab w) :
    Calls Tryd.prog 4 #[.slice a0 len0 cap0, .slice a1 len1 cap1] w fun e w' => e = .returned (.bool true) ∧ Below w.heap.size w w' := by
  subst n0
  subst n1
  have hb : Bytes z0 := fun x hx => Base.u8_of (f0 x hx)
  have hlen : z0.length ≤ 140737488355328 := by omega
  have hl1 : z1.length ≤ 140737488355328 := by omega
  by_cases h200 : z1.length ≤ 200
  · go_enter Tryd.func4, Tryd.ntmps4
    go_wp2_with (first
      | (go_at_call 15; refine (new_any a0 z0.length cap0 z0 w rfl m0 hlen e0 w0).mono ?_; rintro e w3 ⟨b, rfl, H1, L1⟩; have hT1 := hT.below L1)
      | (go_at_call 8; refine (alive_octet w3 hT1).mono ?_; rintro e w4 ⟨rfl, L2⟩; have H2 := H1.below L2 (fun k hk => hk.2); have LL2 := Base.next L1 L2))
    have hS1 : b < w3.heap.size := H1.1.2
    have hSb : w.heap.size ≤ b := H1.1.1
    have hsz := L2.size
    have hH0 : Rd (fun k => w.heap.size ≤ k ∧ k < w3.heap.size) w4 b (z0.drop 0) := H2
    generalize w3.heap.size = B1 at hH0 hS1 hsz
    clear H1 H2 L1 L2 hT hT1
    go_loopw [6, 7] (fun s i wr => ∃ t k : Nat, k ≤ z1.length ∧ t ≤ z0.length ∧ s = .int .i64 t ∧ i = .int .i64 k ∧ Rd (fun k => w.heap.size ≤ k ∧ k < B1) wr b (z0.drop t) ∧ B1 ≤ wr.heap.size ∧ Below w.heap.size w wr)
      (fun _ i _ => z1.length - (intOf i).toNat)
    case atStart => exact ⟨0, 0, Nat.zero_le _, Nat.zero_le _, rfl, rfl, hH0, hsz, LL2⟩
    case round =>
      obtain ⟨t, k, hk, ht, rfl, rfl, hR, hB, hL⟩ := hrel
      clear hH0 hsz LL2
      have hdl : (z0.drop t).length ≤ 140737488355328 := by rw [List.length_drop]; omega
      have F : ∀ {w2}, Fr (fun k => k = b) wr w2 → Below w.heap.size w w2 := fun h2 => h2.below hL hL.size (by rintro i rfl; exact hSb)
      by_cases hlt : k < z1.length
      · obtain ⟨g, off, rfl, hgl, hcell⟩ := (w1.below hL).at_ hlt
        have hc2 : ∀ {w2}, Below w.heap.size w w2 → w2.cell? ⟨g, off + k, none⟩ = some (.int .i64 (z1.getD k 0)) := fun {w2} h2 => by
          obtain ⟨g', off', e, _, hc⟩ := (w1.below h2).at_ hlt
          cases e
          exact hc
        have yb := Base.i64_of (f1 (z1.getD k 0) (by rw [List.getD_eq_getElem?_getD, List.getElem?_eq_getElem hlt]; simp))
        clear f1 f0
        generalize z1.getD k 0 = y at hcell hc2 yb
        obtain ⟨y0, y1⟩ := yb
        by_cases hy0 : y = 0
        · subst hy0
          have c1 := num_any hR (hb.drop t) hdl
          have c2 := fun W hI => ref_num_at a0 z0.length cap0 t t z0 W rfl rfl ht hlen hb hI
          have hq := num_len (z0.drop t)
          rw [List.length_drop] at hq
          rw [List.drop_drop] at c1
          generalize (num (z0.drop t)).1 = nv at c1 c2
          generalize (num (z0.drop t)).2.1 = q at c1 c2 hq
          generalize (num (z0.drop t)).2.2 = ne at c1 c2
          have hdq := drop_len2 (l := z0) (t := t) (q := q) (by omega)
          go_wp2_with (first
            | (go_at_call 16; refine c1.mono ?_; rintro e w5 ⟨rfl, H5, F5⟩; have L5 := F F5)
            | (go_at_call 17; refine (c2 w5 (w0.below L5)).mono ?_; rintro e w' ⟨rfl, rfl⟩)
            | (go_at_call 21; refine (left_any H5).mono ?_; rw [hdq]; rintro e w' ⟨rfl, rfl⟩))
          all_goals go_roundw
          case rel => exact ⟨t + q, k + 1, by omega, by omega, by go_num, by go_num, H5, Nat.le_trans hB F5.size, L5⟩
          case measure => simp only [intOf]; omega
        · by_cases hy1 : y = 1
          · subst hy1
            by_cases h8 : 8 ≤ z0.length - t
            · have c1 := word_any hR (hb.drop t) (by rw [List.length_drop]; omega) hdl
              have c2 := fun W hI => ref_word_at a0 z0.length cap0 t t z0 W rfl rfl (by omega) hlen hb hI
              rw [List.drop_drop] at c1
              generalize val ((z0.drop t).take 8) = nv at c1 c2
              have hdq := drop_len2 (l := z0) (t := t) (q := 8) (by omega)
              rw [show ((8 : Nat) : Int) = 8 from rfl] at hdq
              go_wp2_with (first
                | (go_at_call 18; refine c1.mono ?_; rintro e w5 ⟨rfl, H5, F5⟩; have L5 := F F5)
                | (go_at_call 19; refine (c2 w5 (w0.below L5)).mono ?_; rintro e w' ⟨rfl, rfl⟩)
                | (go_at_call 21; refine (left_any H5).mono ?_; rw [hdq]; rintro e w' ⟨rfl, rfl⟩))
              all_goals go_roundw
              case rel => exact ⟨t + 8, k + 1, by omega, by omega, by go_num, by go_num, H5, Nat.le_trans hB F5.size, L5⟩
              case measure => simp only [intOf]; omega
            · have c1 := word_short hR (by rw [List.length_drop]; omega)
              have c2 := ref_word_short a0 z0.length cap0 t t wr rfl ht hlen (by omega)
              have hdq := drop_len ht
              go_wp2_with (first
                | (go_at_call 18; refine c1.mono ?_; rintro e w5 ⟨rfl, rfl⟩)
                | (go_at_call 19; refine c2.mono ?_; rintro e w' ⟨rfl, rfl⟩)
                | (go_at_call 21; refine (left_any hR).mono ?_; rw [hdq]; rintro e w' ⟨rfl, rfl⟩))
              all_goals go_roundw
              case rel => exact ⟨t, k + 1, by omega, ht, by go_num, by go_num, hR, hB, hL⟩
              case measure => simp only [intOf]; omega
          · by_cases hyn : y < 0
            · have c1 := take_neg hR y hyn
              have hdq := drop_len ht
              go_wp2_with (go_at_call 20; refine c1.mono ?_; rintro e w5 ⟨rfl, rfl⟩)
              go_quiet (fail)
              go_wp2_with (go_at_call 21; refine (left_any (hR.drewN _)).mono ?_; rw [hdq]; rintro e w' ⟨rfl, rfl⟩)
              all_goals go_roundw
              case rel => exact ⟨t, k + 1, by omega, ht, by go_num, by go_num, hR.drewN _, hB, Base.drawn hL _⟩
              case measure => simp only [intOf]; omega
            · by_cases hyl : (z0.length : Int) - t < y
              · have hdq := drop_len ht
                have c1 := take_short hR y (by rw [hdq]; exact hyl)
                go_wp2_with (go_at_call 20; refine c1.mono ?_; rintro e w5 ⟨rfl, rfl⟩)
                go_quiet (fail)
                go_wp2_with (go_at_call 21; refine (left_any (hR.drewN _)).mono ?_; rw [hdq]; rintro e w' ⟨rfl, rfl⟩)
                all_goals go_roundw
                case rel => exact ⟨t, k + 1, by omega, ht, by go_num, by go_num, hR.drewN _, hB, Base.drawn hL _⟩
                case measure => simp only [intOf]; omega
              · obtain ⟨n, rfl⟩ : ∃ n : Nat, y = n := ⟨y.toNat, by omega⟩
                have c1 := take_any hR n n rfl (by rw [List.length_drop]; omega) hdl
                rw [List.drop_drop] at c1
                have hdq := drop_len2 (l := z0) (t := t) (q := n) (by omega)
                obtain ⟨g0, off0, rfl, hg0, _⟩ := w0.at_ (i := t) (by omega)
                have e1 : IntKind.i64.wrap ((t : Int) + (n : Int)) = (t : Int) + (n : Int) := by rw [IntKind.wrap_i64]; omega
                have e2 : (t : Int) ≤ (t : Int) + (n : Int) := by omega
                have e3 : (t : Int) + (n : Int) ≤ (cap0 : Int) := by omega
                have e4 : ¬ cap0 = t := by omega
                have hln : ((z0.drop t).take n).length = n := by rw [List.length_take, List.length_drop]; omega
                go_wp2_with (go_at_call 20; refine c1.mono ?_; rintro e w5 ⟨a5, cap5, rfl, h1, h2, h3, R5, H5, F5⟩; have L5 := F F5; have hc5 := hc2 L5)
                have hs1 := fun i => str_of (w5.drewN i) a5 n cap5 ((z0.drop t).take n) hln (R5.row.drewN i)
                have hrow : Row w5 (some ⟨g0, off0 + t, none⟩) (((z0.drop t).take n).map (.int .u8)) := by
                  rw [List.map_take, List.map_drop]
                  exact ((RowIn.drop (Row.in_ (w0.below L5)) t).row).take n
                have hs2 := fun i c => str_of (w5.drewN i) (some ⟨g0, off0 + t, none⟩) n c ((z0.drop t).take n) hln (hrow.drewN i)
                clear hrow R5 h1 h2 h3
                go_quiet (fail)
                go_wp2_with (go_at_call 21; refine (left_any (H5.drewN _)).mono ?_; rw [hdq]; rintro e w' ⟨rfl, rfl⟩)
                all_goals go_roundw
                case rel => exact ⟨t + n, k + 1, by omega, by omega, by go_num, by go_num, H5.drewN _, Nat.le_trans hB F5.size, Base.drawn L5 _⟩
                case measure => simp only [intOf]; omega
      · obtain rfl : k = z1.length := by omega
        go_wp2
        go_ret
        exact ⟨rfl, hL⟩
  · go_enter Tryd.func4, Tryd.ntmps4
    go_wp2_with (first
      | (go_at_call 15; refine (new_any a0 z0.length cap0 z0 w rfl m0 hlen e0 w0).mono ?_; rintro e w3 ⟨b, rfl, H1, L1⟩; have hT1 := hT.below L1)
      | ((with_reducible refine (alive_octet w3 hT1).mono ?_); rintro e w4 ⟨rfl, L2⟩; have LL2 := Base.next L1 L2; have hT2 := hT1.below L2)
      | ((with_reducible refine (alive_octet w4 hT2).mono ?_); rintro e w5 ⟨rfl, L3⟩; have LL3 := Base.next LL2 L3))
    all_goals go_ret
    all_goals exact ⟨by simp, LL3⟩

theorem of_laid' {W : World} (h : laidMetH Tryd.prog Rows.octetReadsRow.laid W) : Tab.Tab W := Tab.of_laid_2 h
theorem door_met (os : Os) (args : Array Value) : laidMetH Tryd.prog Rows.octetReadsRow.laid ((World.doorLaid Tryd.prog 19 os).forCall (fun _ _ => 0) ⟨#[], args, []⟩).memory :=
  laidMetH_of_parts3 (fuel := 8) (laidMet_of_run' 8 (by kernel_rfl) (by kernel_rfl)) (by kernel_rfl) (by kernel_rfl)
set_option maxRecDepth 100000 in
theorem lifted (os : Os) (started : os.Started) (H : Type) (enc : TypeId × Value → H) :
    ReturnsInHanded {} Tryd.checked os 4 .any (fun w args => (Rows.octetReadsSpec.pre enc Tryd.prog Tryd.f4 [] false w args ∧ laidMetH Tryd.prog Rows.octetReadsRow.laid w) ∧ sizedMet enc Tryd.prog Tryd.f4 (OpenSpec.ofChange Rows.octetReadsSpec) false w args) (Rows.octetReadsSpec.post enc Tryd.prog Tryd.f4 false true false false) := by
  refine returnsInHanded_of_change_and (C := Tryd.checked) (X := fun w _ => laidMetH Tryd.prog Rows.octetReadsRow.laid w) (fun _ _ _ hh h => h.of_heap hh) own started (by kernel_rfl) Tryd.func4
    (ChangeSpec.witness_shaped (enc := enc) (C := Tryd.checked) (os := os) (X := fun w _ => laidMetH Tryd.prog Rows.octetReadsRow.laid w) false (World.doorLaid Tryd.prog 19 os) #[.slice none 0 0, .slice none 0 0] 8 rfl (World.shaped_of_RefB (by kernel_rfl) (by kernel_rfl)) (by kernel_rfl) (by kernel_rfl) (by kernel_rfl) (door_met os _)) ?_
  intro W base args ds gs before hval0 hW _ hsz0 hL _
  have hT := of_laid' hL
  have hval : ∀ (j : Nat) t v, Tryd.f4.params[j]? = some t → args[j]? = some v → Value.okWide Tryd.prog W .any base t v := hval0
  have hW' := hW
  obtain ⟨p, q, hA0, hV, rfl, hfz, hnd⟩ := hW
  have hA : DataW.TrodAll enc Tryd.prog W 0 (fun _ => true) true Tryd.f4.params.toList args.toList ds p := hA0
  rw [Tryd.params4] at hA hval
  obtain ⟨v0, vs0, d0, ds0, p0, q0, hargs, rfl, rfl, h0, r0⟩ := trodAll_cons hA
  obtain ⟨v1, vs1, d1, ds1, p1, q1, rfl, rfl, rfl, h1, r1⟩ := trodAll_cons r0
  obtain ⟨rfl, rfl, rfl⟩ := trodAll_nil r1
  obtain rfl : args = #[v0, v1] := by cases args; simp_all
  obtain ⟨rfl, rfl⟩ := trodVars_none hV
  have hsz : (DataW.weightsEach Tryd.prog [24, 31] [d0, d1]).all (· ≤ reachBytes) = true := hsz0
  obtain ⟨a0, len0, cap0, rfl⟩ := okWide_slice Tryd.underlying24 (hval 0 24 v0 rfl rfl)
  have k0 := h0
  have lt0 : ∀ x ∈ p0, x.block < W.heap.size := by obtain ⟨m, hm⟩ := k0; exact DataW.trod_lt m _ _ _ hm
  obtain ⟨z0, w0, n0, m0, o0, f0, b0, e0⟩ : ∃ zs, Ints .u8 W a0 zs ∧ zs.length = len0 ∧ len0 ≤ cap0 ∧ cap0 ≤ maxLen ∧ (∀ x ∈ zs, (Lit.int .u8 x).wf = true) ∧ cap0 * 1 ≤ 140737488351232 ∧ (a0 = none → len0 = 0 ∧ cap0 = 0) := by
    obtain ⟨fuel, hf⟩ := h0
    rcases open_ints Tryd.underlying24 Tryd.underlying5 (by kernel_rfl) hf with ⟨hcs, hx⟩ | ⟨x, l, c, zs, hcs, _, hl, hm, hz, hx, hcell, hwz⟩
    · simp [Value.cells] at hcs
      obtain ⟨rfl, rfl, rfl⟩ := hcs
      exact ⟨[], Row.nil _ _, rfl, Nat.le_refl _, Nat.zero_le _, (fun _ h => by cases h), by decide, fun _ => ⟨rfl, rfl⟩⟩
    · simp [Value.cells] at hcs
      obtain ⟨rfl, rfl, rfl⟩ := hcs
      exact ⟨zs.take len0, ints_of hl (by simpa using hz) hcell, take_len hl (by simpa using hz), hl, hm, (fun x hx => hwz x (List.mem_of_mem_take hx)), by
          have hd := congrArg Prod.fst hx
          dsimp only at hd
          have := sized_slice hsz (j := 0) (t := 24) (e := 5) (elems := lits .u8 (zs.take len0)) (spare := lits .u8 (zs.drop len0)) rfl (by rw [← hd]; rfl) Tryd.underlying24
          rw [show Tryd.prog.bytesOf 5 = 1 by kernel_rfl] at this
          simp only [lits, List.length_map, List.length_take, List.length_drop, reachBytes] at this
          have hz2 : zs.length = cap0 := (by simpa using hz)
          omega, fun e => by cases e⟩
  obtain ⟨a1, len1, cap1, rfl⟩ := okWide_slice Tryd.underlying31 (hval 1 31 v1 rfl rfl)
  have k1 := h1
  have lt1 : ∀ x ∈ p1, x.block < W.heap.size := by obtain ⟨m, hm⟩ := k1; exact DataW.trod_lt m _ _ _ hm
  obtain ⟨z1, w1, n1, m1, o1, f1, b1, e1⟩ : ∃ zs, Ints .i64 W a1 zs ∧ zs.length = len1 ∧ len1 ≤ cap1 ∧ cap1 ≤ maxLen ∧ (∀ x ∈ zs, (Lit.int .i64 x).wf = true) ∧ cap1 * 8 ≤ 140737488351232 ∧ (a1 = none → len1 = 0 ∧ cap1 = 0) := by
    obtain ⟨fuel, hf⟩ := h1
    rcases open_ints Tryd.underlying31 Tryd.underlying3 (by kernel_rfl) hf with ⟨hcs, hx⟩ | ⟨x, l, c, zs, hcs, _, hl, hm, hz, hx, hcell, hwz⟩
    · simp [Value.cells] at hcs
      obtain ⟨rfl, rfl, rfl⟩ := hcs
      exact ⟨[], Row.nil _ _, rfl, Nat.le_refl _, Nat.zero_le _, (fun _ h => by cases h), by decide, fun _ => ⟨rfl, rfl⟩⟩
    · simp [Value.cells] at hcs
      obtain ⟨rfl, rfl, rfl⟩ := hcs
      exact ⟨zs.take len1, ints_of hl (by simpa using hz) hcell, take_len hl (by simpa using hz), hl, hm, (fun x hx => hwz x (List.mem_of_mem_take hx)), by
          have hd := congrArg Prod.fst hx
          dsimp only at hd
          have := sized_slice hsz (j := 1) (t := 31) (e := 3) (elems := lits .i64 (zs.take len1)) (spare := lits .i64 (zs.drop len1)) rfl (by rw [← hd]; rfl) Tryd.underlying31
          rw [show Tryd.prog.bytesOf 3 = 8 by kernel_rfl] at this
          simp only [lits, List.length_map, List.length_take, List.length_drop, reachBytes] at this
          have hz2 : zs.length = cap1 := (by simpa using hz)
          omega, fun e => by cases e⟩
  clear hA0 hval0
  refine (walk a0 len0 cap0 z0 a1 len1 cap1 z1 W w0 n0 m0 o0 f0 b0 e0 w1 n1 m1 o1 f1 b1 e1 hT).mono fun e W' ⟨he, bel⟩ => ?_
  subst he
  exact ⟨_, rfl, _, _, _, [], _, [], hW', trodAll_mk1 (shut_bool Tryd.underlying4 _), (trodAll_cons_mk (Below.trod laidOut (by kernel_rfl) (of_decide_eq_true (by kernel_rfl)) k0 bel lt0) (trodAll_cons_mk (Below.trod laidOut (by kernel_rfl) (of_decide_eq_true (by kernel_rfl)) k1 bel lt1) trodAll_mk0)), rfl, bel.frame _, fun h => by cases h⟩

theorem over : Rows.octetReadsRow.holds Tryd.pinned (OpenSpec.ofChange Rows.octetReadsSpec) :=
  OpenClaim.holds_of_wide 4 Tryd.f4 rfl rfl rfl rfl rfl rfl rfl ⟨rfl, rfl, rfl, rfl, rfl⟩ rfl rfl rfl rfl rfl (by kernel_rfl) Tryd.func4 (by kernel_rfl)
    (of_decide_eq_true (by kernel_rfl)) (by unfold Func.isWrapper; first | (rw [if_pos (by decide +kernel)]; kernel_rfl) | (rw [if_neg (by decide +kernel)]; exact ⟨rfl, rfl⟩))
    (fun os started H enc _ => lifted os started H enc)

/-- The given statement: the row, its listed variables tied to the program's text. -/
theorem proved : Rows.OctetReadsCardSaid :=
  Claim7.holds_tied_plain_at .later [] [.data, .data] true (true, "e23d3ad83702d537fea1bfb2e30d37bf8c61cd0cadd5d3844564589b1a2d803b") false
    over (fun _ h => by cases h) (by kernel_rfl) (fun _ h => by cases h) octetReads_row_tie rfl ⟨rfl, rfl⟩ (by kernel_rfl) rfl
    (fun f fn hf hfn => by
      obtain rfl : f = 4 := Option.some.inj ((show Tryd.prog.funcNamed "splittally/splittallylaw6.OctetReads" = some 4 by kernel_rfl).symm.trans hf) |>.symm
      obtain rfl : fn = Tryd.f4 := (Option.some.inj (Tryd.func4.symm.trans hfn)).symm
      exact ⟨by kernel_rfl, fun j t ht => by
        rw [Tryd.params4] at ht
        have hm : t ∈ [24, 31] := by simpa using Array.mem_of_getElem? ht
        have hall : ([24, 31].all fun u => !Tryd.prog.wantsStandIn u) = true := by kernel_rfl
        exact (show Tryd.prog.wantsStandIn t = false by simpa using List.all_eq_true.1 hall t hm)⟩)
    (by kernel_rfl)
#print axioms proved
end Go.Proofs.YtendfhmgacfobaaDoor.octetReads
