/-
  A source and its fork return the same words and count alike, and neither touches the other. No conditions.
-/
import Derived.SizedLaws
import Derived.Test.YtffdpamhflhfpaaRows
import Derived.Test.YtffdpamhflhfpaaRow
import Derived.WalkKit
import Derived.ProofKit
import Derived.OpenShut
import Derived.ShutString
import Derived.ChangeOld
import Derived.Below
import Derived.Test.YtffdpamhflhfpaaDraw
namespace Go.Proofs.Ytffdpamhflhfpaa.drawForks
open Go.ChangeShapes Go.WideShapes Go.ChangeAt Go.RowKit
open Go.ChangeMaps (open_string shut_string)
open Go.Proofs.Ytffdpamhflhfpaa.Base
set_option linter.unusedVariables false

theorem own : ownKnob Try.prog.godebug = none := by kernel_rfl
theorem laidOut : laidOutB Try.prog = true := by kernel_rfl

open Go.Proofs.Ytffdpamhflhfpaa.Draw Go.Proofs.Ytffdpamhflhfpaa.DrawPlain
theorem walk (a0 : Option Addr) (len0 cap0 : Nat) (z0 : List Int) (a1 : Int) (a2 : Int) (w : World) (w0 : Ints .u64 w a0 z0) (n0 : z0.length = len0) (m0 : len0 ≤ cap0) (o0 : cap0 ≤ maxLen) (f0 : ∀ x ∈ z0, (Lit.int .u64 x).wf = true) (b0 : cap0 * 8 ≤ 140737488351232) (e0 : a0 = none → len0 = 0 ∧ cap0 = 0) (w1 : (Lit.int .u8 a1).wf = true) (w2 : (Lit.int .u8 a2).wf = true) :
    Calls Try.prog 6 #[.slice a0 len0 cap0, .int .u8 a1, .int .u8 a2] w fun e w' => e = .returned (.bool true) ∧ Below w.heap.size w w' := by
  obtain ⟨q0, q1⟩ := Base.u8_of w1
  obtain ⟨r0, r1⟩ := Base.u8_of w2
  obtain ⟨M, rfl⟩ := Int.eq_ofNat_of_zero_le q0
  obtain ⟨N, rfl⟩ := Int.eq_ofNat_of_zero_le r0
  clear w1 w2
  subst n0
  obtain ⟨i0, hi0, hz0, hz1, hz2⟩ := info_parts info
  go_enter Try.func6, Try.ntmps6
  go_wp2_with (first
    | (go_at_call 12; refine (new_any a0 z0.length cap0 z0 w rfl m0 (by omega) e0 w0).mono ?_; rintro e w1 ⟨b, rfl, hs1, hb1⟩)
    | (go_at_call 9; refine (alive_draw _).mono ?_; rintro e wa ⟨rfl, ha⟩))
  have hS1 : b < w1.heap.size := hs1.1.2
  have hSb : w.heap.size ≤ b := hs1.1.1
  have haw := ha.size
  have hbw := hb1.size
  have hw : Below w.heap.size w wa := hb1.trans (ha.mono hb1.size)
  have hs0 : Src (fun k => w.heap.size ≤ k ∧ k < w1.heap.size) wa b (z0.drop 0) 0 := hs1.below ha (fun k hk => hk.2)
  generalize w1.heap.size = B1 at hs0 hS1 hbw haw
  clear hs1 hb1 ha w0
  go_loopw [8] (fun i wr => ∃ k : Nat, k ≤ M ∧ i = .int .i64 k ∧ Src (fun k => w.heap.size ≤ k ∧ k < B1) wr b (z0.drop k) k ∧ B1 ≤ wr.heap.size ∧ Below w.heap.size w wr)
    (fun i _ => M - (intOf i).toNat)
  case atStart => exact ⟨0, Nat.zero_le _, rfl, hs0, haw, hw⟩
  case round =>
    obtain ⟨k, hk, rfl, hs, hB, hL⟩ := hrel
    clear hs0 haw hw
    by_cases hlt : k < M
    · have n1 := next_word hs (by omega)
      go_wp2_with (go_at_call 13; refine n1.mono ?_; rintro e w2 ⟨rfl, hs2, hf2⟩)
      all_goals go_roundw
      case rel => exact ⟨k + 1, by omega, by go_num, hs2, Nat.le_trans hB hf2.size, hf2.below hL hL.size (by rintro i rfl; exact hSb)⟩
      case measure => simp [intOf]; omega
    · obtain rfl : k = M := by omega
      have f1 := fork_any hs (by simp; omega)
      go_wp2_with (go_at_call 16; refine f1.mono ?_; rintro e wf ⟨b', rfl, hsf, hbf⟩)
      have hLf : Below w.heap.size w wf := hL.trans (hbf.mono hL.size)
      have hs' : Src (fun k => w.heap.size ≤ k ∧ k < B1) wf b (z0.drop k) k := hs.below hbf (fun i hi => by omega)
      have hF1 := hsf.1.1
      have hF2 := hsf.1.2
      have hF3 := hbf.size
      have hF4 := hL.size
      generalize hgr : wr.heap.size = Br at hsf hF1 hF2 hF3 hB hF4
      generalize hgf : wf.heap.size = Bf at hsf hF2 hF3
      have hwf : Bf ≤ wf.heap.size := by omega
      clear f1 hs hL hbf
      go_loopw [10, 11] (fun v i wr => ∃ j : Nat, j ≤ N ∧ i = .int .i64 j ∧ wr.ownsRow Bf 22 1 v j (words z0 k j) ∧ Src (fun i => Br ≤ i ∧ i < Bf) wr b' (z0.drop (k + j)) (k + j) ∧
          Src (fun i => w.heap.size ≤ i ∧ i < B1) wr b (z0.drop k) k ∧ Bf ≤ wr.heap.size ∧ Below w.heap.size w wr)
        (fun _ i _ => N - (intOf i).toNat)
      case atStart => exact ⟨0, Nat.zero_le _, rfl, World.ownsRow_nil _ _ _ _, hsf, hs', hwf, hLf⟩
      case round =>
        obtain ⟨j, hj, rfl, hown, hsj, hss, hBr, hLr⟩ := hrel
        clear hsf hs' hwf hLf
        by_cases hlt : j < N
        · have n1 := next_word hsj (by omega)
          generalize hx : word z0 (k + j) = x at n1
          have HX := Lib.hid hx
          clear hx
          go_wp2_with (first
            | (go_at_call 13; refine n1.mono ?_; rintro e w2 ⟨rfl, hs2, hf2⟩; have hown2 := ownsRow_fr hown hf2 (fun i hi => by omega); have hB2 := Nat.le_trans hBr hf2.size)
            | (at_builtin; refine wpl_append_row _ rfl (.tmp 39) (.tmp 42) _ rfl Bf 22 i0 _ 1 8 Try.underlying27 hi0 hz0 hz1 hz2 rfl (by omega) _ _ _ rfl (hown2.alloc _) (some ⟨w2.heap.size, 0, none⟩) 1 1 [.int .u64 x] rfl rfl (Row.lit w2 _ [.int .u64 x]) (by simp [Value.oneCell']) (by unfold maxLen; omega) (by omega) (by simp; omega) ?_; intro v3 w3 hown3 hg3 hat3))
          all_goals go_roundw
          case rel =>
            have hg := hown2.lt
            have hF : Fr (fun i => Bf ≤ i) (w2.alloc (.cells #[.int .u64 x] 22)) w3 := Fr.of_grown hg3 fun i hi => (hg i hi).1
            have hF' : Fr (fun i => Bf ≤ i) w2 w3 := (Fr.alloc (Fr.refl _ w2) _).trans hF fun i _ h => h
            rw [← HX.out, ← words_succ] at hown3
            have hs3 := hss.kept hf2 (fun i hi => by omega)
            have hL2 := hf2.below hLr hLr.size (by rintro i rfl; omega)
            exact ⟨j + 1, by omega, by go_num, hown3, hs2.kept hF' (fun i hi => by omega), hs3.kept hF' (fun i hi => by omega), Nat.le_trans hB2 hF'.size, hF'.below hL2 hL2.size (fun i hi => by omega)⟩
          case measure => simp [intOf]; omega
        · obtain rfl : j = N := by omega
          obtain ⟨a1, cap1, rfl, hn1, hc1, hz1', R1⟩ := rowIn_of_own Nat.one_pos hown
          unfold maxLen at hc1
          clear hown
          have hs0 : Src (fun i => w.heap.size ≤ i ∧ i < B1) wr b (z0.drop (k + 0)) (k + 0) := hss
          go_wp2
          go_loopw [12] (fun i wr => ∃ t : Nat, t ≤ j ∧ i = .int .i64 t ∧ RowIn (fun i => Bf ≤ i) wr a1 (words z0 k j) ∧ Src (fun i => Br ≤ i ∧ i < Bf) wr b' (z0.drop (k + j)) (k + j) ∧
              Src (fun i => w.heap.size ≤ i ∧ i < B1) wr b (z0.drop (k + t)) (k + t) ∧ Bf ≤ wr.heap.size ∧ Below w.heap.size w wr)
            (fun i _ => j - (intOf i).toNat)
          case atStart => exact ⟨0, Nat.zero_le _, rfl, R1, hsj, hs0, hBr, hLr⟩
          case round =>
            obtain ⟨t, ht, rfl, hR, hsf, hst, hBt, hLt⟩ := hrel
            clear R1 hsj hs0 hss hBr hLr
            by_cases hlt : t < j
            · have n1 := next_word hst.drew (by omega)
              obtain ⟨g, off, rfl, hgB, hgl, hcx⟩ := hR t _ (words_get z0 k hlt)
              generalize word z0 (k + t) = x at n1 hcx
              go_wp2
              all_goals go_region_with (go_at_call 13; refine n1.mono ?_; rintro e w2 ⟨rfl, hs2, hf2⟩; have hcx2 : w2.cell? ⟨g, off + t, none⟩ = some (.int .u64 x) := (hf2.cell (p := ⟨g, off + t, none⟩) hgl (by show ¬ g = b; omega)).trans hcx; have hf3 : Fr (fun i => i = b) wr w2 := ⟨hf2.os, hf2.tape, hf2.output, hf2.size, hf2.block⟩)
              all_goals go_wp2
              all_goals go_roundw
              all_goals first | (simp [intOf]; omega) | exact ⟨t + 1, by omega, by go_num, hR.kept hf3 (fun i hi => by omega), hsf.kept hf3 (fun i hi => by omega), hs2, Nat.le_trans hBt hf3.size, hf3.below hLt hLt.size (by rintro i rfl; exact hSb)⟩
            · obtain rfl : t = j := by omega
              have t1 := taken_any hst
              have t2 := taken_any hsf
              go_wp2_with (first
                | ((with_reducible refine t1.mono ?_); rintro e w' ⟨rfl, rfl⟩)
                | ((with_reducible refine t2.mono ?_); rintro e w' ⟨rfl, rfl⟩))
              all_goals go_ret
              all_goals exact ⟨by simp, hLt⟩

set_option maxRecDepth 100000 in
theorem lifted (os : Os) (started : os.Started) (H : Type) (enc : TypeId × Value → H) :
    ReturnsInHanded {} Try.checked os 6 .any (Rows.drawForksSpec.pre6 enc Try.prog Try.f6 Rows.drawForksRow.domain false) (Rows.drawForksSpec.post enc Try.prog Try.f6 false true false false) := by
  refine returnsInHanded_of_change_sized (C := Try.checked) own started (by kernel_rfl) Try.func6
    (ChangeSpec.witness6 (enc := enc) (C := Try.checked) false ⟨#[], #[.slice none 0 0, .int .u8 0, .int .u8 0], []⟩ 8 (by kernel_rfl) (by kernel_rfl) (by kernel_rfl) (by kernel_rfl)) ?_
  intro W base args ds gs before hval0 hW hcnd hsz0 _
  have hval : ∀ (j : Nat) t v, Try.f6.params[j]? = some t → args[j]? = some v → Value.okWide Try.prog W .any base t v := hval0
  have hW' := hW
  obtain ⟨p, q, hA0, hV, rfl, hfz, hnd⟩ := hW
  have hA : DataW.TrodAll enc Try.prog W 0 (fun _ => true) true Try.f6.params.toList args.toList ds p := hA0
  rw [Try.params6] at hA hval
  obtain ⟨v0, vs0, d0, ds0, p0, q0, hargs, rfl, rfl, h0, r0⟩ := trodAll_cons hA
  obtain ⟨v1, vs1, d1, ds1, p1, q1, rfl, rfl, rfl, h1, r1⟩ := trodAll_cons r0
  obtain ⟨v2, vs2, d2, ds2, p2, q2, rfl, rfl, rfl, h2, r2⟩ := trodAll_cons r1
  obtain ⟨rfl, rfl, rfl⟩ := trodAll_nil r2
  obtain rfl : args = #[v0, v1, v2] := by cases args; simp_all
  obtain ⟨rfl, rfl⟩ := trodVars_none hV
  have hsz : (DataW.weightsEach Try.prog [27, 5, 5] [d0, d1, d2]).all (· ≤ reachBytes) = true := hsz0
  obtain ⟨a0, len0, cap0, rfl⟩ := okWide_slice Try.underlying27 (hval 0 27 v0 rfl rfl)
  have k0 := h0
  have lt0 : ∀ x ∈ p0, x.block < W.heap.size := by obtain ⟨m, hm⟩ := k0; exact DataW.trod_lt m _ _ _ hm
  obtain ⟨z0, w0, n0, m0, o0, f0, b0, e0⟩ : ∃ zs, Ints .u64 W a0 zs ∧ zs.length = len0 ∧ len0 ≤ cap0 ∧ cap0 ≤ maxLen ∧ (∀ x ∈ zs, (Lit.int .u64 x).wf = true) ∧ cap0 * 8 ≤ 140737488351232 ∧ (a0 = none → len0 = 0 ∧ cap0 = 0) := by
    obtain ⟨fuel, hf⟩ := h0
    rcases open_ints Try.underlying27 Try.underlying22 (by kernel_rfl) hf with ⟨hcs, hx⟩ | ⟨x, l, c, zs, hcs, _, hl, hm, hz, hx, hcell, hwz⟩
    · simp [Value.cells] at hcs
      obtain ⟨rfl, rfl, rfl⟩ := hcs
      exact ⟨[], Row.nil _ _, rfl, Nat.le_refl _, Nat.zero_le _, (fun _ h => by cases h), by decide, fun _ => ⟨rfl, rfl⟩⟩
    · simp [Value.cells] at hcs
      obtain ⟨rfl, rfl, rfl⟩ := hcs
      exact ⟨zs.take len0, ints_of hl (by simpa using hz) hcell, take_len hl (by simpa using hz), hl, hm, (fun x hx => hwz x (List.mem_of_mem_take hx)), by
          have hd := congrArg Prod.fst hx
          dsimp only at hd
          have := sized_slice hsz (j := 0) (t := 27) (e := 22) (elems := lits .u64 (zs.take len0)) (spare := lits .u64 (zs.drop len0)) rfl (by rw [← hd]; rfl) Try.underlying27
          rw [show Try.prog.bytesOf 22 = 8 by kernel_rfl] at this
          simp only [lits, List.length_map, List.length_take, List.length_drop, reachBytes] at this
          have hz2 : zs.length = cap0 := (by simpa using hz)
          omega, fun e => by cases e⟩
  obtain ⟨a1, rfl, rfl, rfl, w1⟩ := open_int Try.underlying5 (hval 1 5 v1 rfl rfl) h1
  obtain ⟨a2, rfl, rfl, rfl, w2⟩ := open_int Try.underlying5 (hval 2 5 v2 rfl rfl) h2
  clear hA0 hval0
  refine (walk a0 len0 cap0 z0 a1 a2 W w0 n0 m0 o0 f0 b0 e0 w1 w2).mono fun e W' ⟨he, bel⟩ => ?_
  subst he
  exact ⟨_, rfl, _, _, _, [], _, [], hW', trodAll_mk1 (shut_bool Try.underlying4 _), (trodAll_cons_mk (Below.trod laidOut (by kernel_rfl) (of_decide_eq_true (by kernel_rfl)) k0 bel lt0) (trodAll_cons_mk (shut_int Try.underlying5 w1) (trodAll_cons_mk (shut_int Try.underlying5 w2) trodAll_mk0))), rfl, bel.frame _, fun h => by cases h⟩

theorem over : Rows.drawForksRow.holds Try.pinned (OpenSpec.ofChange Rows.drawForksSpec) :=
  OpenClaim.holds_of_wide 6 Try.f6 rfl rfl rfl rfl rfl rfl rfl ⟨rfl, rfl, rfl, rfl, rfl⟩ rfl rfl rfl rfl rfl (by kernel_rfl) Try.func6 (by kernel_rfl)
    (of_decide_eq_true (by kernel_rfl)) (by unfold Func.isWrapper; first | (rw [if_pos (by decide +kernel)]; kernel_rfl) | (rw [if_neg (by decide +kernel)]; exact ⟨rfl, rfl⟩))
    (fun os started H enc _ => lifted os started H enc)

/-- The given statement. -/
theorem proved : Rows.DrawForksSaid :=
  over
#print axioms proved
end Go.Proofs.Ytffdpamhflhfpaa.drawForks
