/-
  Contracts of the program's guard: what it makes of an acknowledgment without a trigger (ignore), and of one that used a number up (judge).
-/
import Derived.Test.YtkiloaebokkjbaaGreatM21
import Derived.Test.YtkiloaebokkjbaaGreatProof
set_option linter.unusedSimpArgs false
set_option linter.unusedVariables false
namespace Go.Proofs.YtkiloaebokkjbaaGreat.Guard
set_option linter.unusedVariables false
set_option maxRecDepth 20000
open Go.ChangeShapes Go.WideShapes Go.ChangeAt Go.RowKit
open Go.Proofs.YtkiloaebokkjbaaGreat.Base Go.Proofs.YtkiloaebokkjbaaGreat.LedPlain Go.Proofs.YtkiloaebokkjbaaGreat.BudPlain Go.Proofs.YtkiloaebokkjbaaGreat.GuardPlain Go.Proofs.YtkiloaebokkjbaaGreat.Led Go.Proofs.YtkiloaebokkjbaaGreat.Bud Go.Proofs.YtkiloaebokkjbaaGreat.SpanPlain
open Go.Proofs.YtkiloaebokkjbaaGreat.AckPlain (K)
open Go.Proofs.YtkiloaebokkjbaaGreat.OctPlain (Bytes)

theorem Pg.asked {S R : Nat → Prop} {w w' : World} {b : Nat} {ba : Addr} {S1 : Nat → Prop} {n : Ct} {bg bg' : Bg} {ended : Bool} {e : Ev} {dn : Int} {ev : Option Addr} (h : Pg S R w b ba S1 n bg ended e dn ev) (hd : ∀ k, S k → ¬ R k) (hb : Bud (Plus S1 w w') w' ba bg') (hf : Fr S1 w w') : Pg (Plus S w w') R w' b ba (Plus S1 w w') n bg' ended e dn ev := by
  have hbl := h.blk.lt
  refine ⟨.inl h.inB, h.blk.kept hf (fun hk => (h.s1 _ hk).2 rfl), hb, fun k hk => ?_, h.evi.kept hf fun k hk h2 => hd k (h.s1 k h2).1 hk⟩
  rcases hk with hk | hk
  · exact ⟨.inl (h.s1 k hk).1, (h.s1 k hk).2⟩
  · exact ⟨.inr hk, by omega⟩
set_option maxHeartbeats 4000000 in
theorem ignore_any {S R : Nat → Prop} {w : World} {a : Addr} {g : Gd} {N : Nat} (hG : Grd S R w a g) (hc : Cb g N) (hN : N ≤ 1000000) (why now : Int) (n0 : 0 ≤ now) (n1 : now ≤ 18446744073709551615) :
    Calls Tryz.prog 49 #[.pointer (some a), .int .i64 why, .int .u64 now] w fun e w' => e = .returned (.agg (vcells ⟨1, why, 0, grants g.b now⟩)) ∧
      Grd (Plus S w w') (fun k => R k ∧ k < w.heap.size) w' a { g with b := askG g.b now, n := { g.n with drop := g.n.drop + 1, chal := g.n.chal + (if grants g.b now = true then 1 else 0) } } ∧ Fr S w w' := by
  have hG1 := hG.cut
  obtain ⟨b, ba, S1, dn, ev, rfl, hP0⟩ := hG1.ex
  have hdis := hG1.dis
  have hcb := hc.b
  have d0 := hc.d0
  have d1 := hc.d1
  have c0 := hc.c0
  have c1 := hc.c1
  clear hG hG1 hc
  obtain ⟨bg, ⟨x1, x2, x3, x4, x5⟩, en, ee⟩ := g
  simp only at *
  obtain ⟨S2, eS2⟩ : ∃ S2 : Nat → Prop, ∀ k, S2 k ↔ (S k ∧ k < w.heap.size) := ⟨_, fun _ => Iff.rfl⟩
  obtain ⟨R2, eR2⟩ : ∃ R2 : Nat → Prop, ∀ k, R2 k ↔ (R k ∧ k < w.heap.size) := ⟨_, fun _ => Iff.rfl⟩
  have eR3 : R2 = fun k => R k ∧ k < w.heap.size := funext fun k => propext (eR2 k)
  have hd2 : ∀ k, S2 k → ¬ R2 k := fun k h1 h2 => hdis k ((eS2 k).1 h1) ((eR2 k).1 h2)
  have hP1 : Pg S2 R2 w b ba S1 ⟨x1, x2, x3, x4, x5⟩ bg en ee dn ev := ⟨(eS2 _).2 hP0.inB, hP0.blk, hP0.bud, fun k hk => ⟨(eS2 k).2 (hP0.s1 k hk).1, (hP0.s1 k hk).2⟩, hP0.evi.mono fun k _ h => (eR2 k).2 h⟩
  rw [← eR3]
  clear hP0 hdis eR3
  have hbl := hP1.blk.lt
  generalize hgr : grants bg now = gr at *
  generalize hy4 : x4 + (if gr = true then 1 else 0) = y4 at *
  have hgr := Lib.hid hgr
  have hy4 := Lib.hid hy4
  go_enter Tryz.func49, Tryz.ntmps49
  go_upto_region 1 with fail
  have B0 := Blk.new w (vcells ⟨0, 0, 0, false⟩) 44
  have L0 := (Below.refl w.heap.size w).alloc (Nat.le_refl _) (.cells (vcells ⟨0, 0, 0, false⟩) 44)
  have hs : w.heap.size < (w.alloc (.cells (vcells ⟨0, 0, 0, false⟩) 44)).heap.size := by simp
  refine at_any ?_
  intro W hW
  rw [← show W = w.alloc (.cells (vcells ⟨0, 0, 0, false⟩) 44) from hW] at B0 L0 hs
  clear hW
  have hP := hP1.below L0
  have hF : Fr S2 w W := Fr.of_below L0
  clear hP1 L0
  go_upto_region 2 with (go_at_call 46; refine (Once.add64 ⟨b, 2, none⟩ x2 1 _ (hP.blk.cell 2) (hP.blk.free 2) (by omega) (by omega)).mono ?_; rintro _ _ ⟨rfl, rfl⟩)
  have hP2 := hP.turn hd2 2 (.int .u64 (x2 + 1)) (n' := ⟨x1, x2 + 1, x3, x4, x5⟩) rfl
  have B2 := B0.other (a := ⟨b, 2, none⟩) (show w.heap.size ≠ b by omega) (.int .u64 (x2 + 1))
  have F2 : Fr S2 w (W.setCell ⟨b, 2, none⟩ (.int .u64 (x2 + 1))) := hF.setCell (fun _ => hP.inB) _
  have hs2 : w.heap.size < (W.setCell ⟨b, 2, none⟩ (.int .u64 (x2 + 1))).heap.size := by simpa [World.setCell] using hs
  generalize W.setCell ⟨b, 2, none⟩ (.int .u64 (x2 + 1)) = W2 at *
  clear hP B0 hF hs
  go_upto_region 3 with (go_at_call 45; refine (drop_any why _).mono ?_; unfold vcells; rintro _ w3 ⟨rfl, L3⟩)
  have hP3 := hP2.below L3
  have B3 := B2.below L3 hs2
  have F3 : Fr S2 w w3 := F2.trans (T := fun _ => False) (Fr.of_below L3) fun _ _ h => h.elim
  have hs3 := L3.size
  clear hP2 B2 F2 L3
  have V4 := Blk.new w3 (vcells ⟨1, why, 0, false⟩) 44
  have L4 := (Below.refl w3.heap.size w3).alloc (Nat.le_refl _) (.cells (vcells ⟨1, why, 0, false⟩) 44)
  have hP4 := hP3.below L4
  have B4 := B3.below L4 (by omega)
  have F4 : Fr S2 w (w3.alloc (.cells (vcells ⟨1, why, 0, false⟩) 44)) := F3.trans (T := fun _ => False) (Fr.of_below L4) fun _ _ h => h.elim
  refine at_any ?_
  intro W4 hW
  rw [← show W4 = w3.alloc (.cells (vcells ⟨1, why, 0, false⟩) 44) from hW] at V4 hP4 B4 F4
  clear hW L4 hP3 B3 F3
  generalize hvb : w3.heap.size = vb at *
  have hvb2 : w.heap.size < vb := by omega
  have CA := Bud.ask_any hP4.bud (by omega) now n0 n1
  have k0 := hP4.c0
  have l4 := V4.lt
  rw [hgr.out] at CA
  have hnv : ¬ S1 vb := fun h => by have := (eS2 _).1 (hP4.s1 _ h).1; omega
  have hnr : ¬ S1 w.heap.size := fun h => by have := (eS2 _).1 (hP4.s1 _ h).1; omega
  go_upto_region 4 with (go_at_call 95; refine CA.mono ?_; rintro _ w5 ⟨rfl, hb5, F5⟩; have V5 := V4.kept F5 hnv; have q1 := V5.free 3; have q2 := V5.lt; have q3 : w5.cell? ⟨vb, 3, none⟩ = some (.bool false) := V5.cell 3)
  have hP5 := hP4.asked hd2 hb5 F5
  have B5 := B4.kept F5 hnr
  have G5 : Fr S2 w w5 := F4.trans F5 fun k _ hk => (hP4.s1 k hk).1
  have hs5 := F5.size
  have hdR : ∀ k, Plus S2 W4 w5 k → ¬ R2 k := fun k h1 h2 => by
    rcases h1 with h1 | h1
    · exact hd2 k h1 h2
    · have := (eR2 k).1 h2
      omega
  have hsub : ∀ k, Plus S2 W4 w5 k → (S k ∧ k < w.heap.size) ∨ (W4.heap.size ≤ k ∧ k < w5.heap.size) := fun k h1 => by
    rcases h1 with h1 | h1
    · exact .inl ((eS2 k).1 h1)
    · exact .inr h1
  generalize Plus S2 W4 w5 = S5 at *
  generalize Plus S1 W4 w5 = S6 at *
  have V6 : Blk (w5.setCell ⟨vb, 3, none⟩ (.bool gr)) vb (vcells ⟨1, why, 0, gr⟩) 44 := V5.set 3 (.bool gr)
  have FV : Fr (fun k => k = vb) w5 (w5.setCell ⟨vb, 3, none⟩ (.bool gr)) := (Fr.refl (fun k => k = vb) w5).setCell (fun _ => rfl) _
  have hnS : ¬ S5 vb := fun h => by have := hsub _ h; omega
  have hP6 := hP5.kept FV (fun k hk e => by subst e; exact hnS hk) (fun k hk e => by have := (eR2 k).1 hk; omega)
  have B6 := B5.kept FV (by omega)
  have G6 : Fr S2 w (w5.setCell ⟨vb, 3, none⟩ (.bool gr)) := G5.trans FV fun k hk e => by omega
  have hs6 := FV.size
  generalize w5.setCell ⟨vb, 3, none⟩ (.bool gr) = W6 at *
  clear hP5 B5 G5 FV V4 V5 B4 hP4 F5 CA hb5 F4
  have l6 := V6.lt
  have l7 := B6.lt
  have j3 : W6.cell? ⟨vb, 3, none⟩ = some (.bool gr) := V6.cell 3
  have fin : ∀ (W8 : World) (x : Int), Pg S5 R2 W8 b ba S6 ⟨x1, x2 + 1, x3, x, x5⟩ (askG bg now) en ee dn ev → Blk W8 w.heap.size (vcells ⟨0, 0, 0, false⟩) 44 → Fr S2 w W8 → W6.heap.size ≤ W8.heap.size →
      Grd (Plus S w (W8.setRow w.heap.size (vcells ⟨1, why, 0, gr⟩))) R2 (W8.setRow w.heap.size (vcells ⟨1, why, 0, gr⟩)) ⟨b, 0, none⟩ ⟨askG bg now, ⟨x1, x2 + 1, x3, x, x5⟩, en, ee⟩ ∧ Fr S w (W8.setRow w.heap.size (vcells ⟨1, why, 0, gr⟩)) := by
    intro W8 x hP8 B8 F8 hs8
    have hbS : S b := by
      rcases hsub b hP8.inB with h | h
      · exact h.1
      · omega
    have hR : Fr (fun k => k = w.heap.size) W8 (W8.setRow w.heap.size (vcells ⟨1, why, 0, gr⟩)) := (Fr.refl (fun k => k = w.heap.size) W8).setRow (fun _ => rfl) _
    have hs9 := hR.size
    have h9 := hP8.kept hR (fun k hk e => by have := hsub k hk; omega) (fun k hk e => by have := (eR2 k).1 hk; omega)
    refine ⟨⟨fun k h1 h2 => ?_, b, ba, S6, dn, ev, rfl, ⟨.inl hbS, h9.blk, h9.bud, fun k hk => ⟨?_, (h9.s1 k hk).2⟩, h9.evi⟩⟩, (F8.trans hR fun k hk e => by omega).mono fun k _ hk => ((eS2 k).1 hk).1⟩
    · have := (eR2 k).1 h2
      rcases h1 with h1 | h1
      · exact hd2 k ((eS2 k).2 ⟨h1, this.2⟩) h2
      · omega
    · rcases hsub k (h9.s1 k hk).1 with h | h
      · exact .inl h.1
      · exact .inr (by omega)
  cases gr with
  | true =>
    go_upto_region 6 with (go_at_call 46; refine (Once.add64 ⟨b, 4, none⟩ x4 1 _ (hP6.blk.cell 4) (hP6.blk.free 4) (by omega) (by omega)).mono ?_; rintro _ _ ⟨rfl, rfl⟩)
    have hP7 := hP6.turn hdR 4 (.int .u64 (x4 + 1)) (n' := ⟨x1, x2 + 1, x3, x4 + 1, x5⟩) rfl
    have B7 := B6.other (a := ⟨b, 4, none⟩) (show w.heap.size ≠ b by omega) (.int .u64 (x4 + 1))
    have V7 := V6.other (a := ⟨b, 4, none⟩) (show vb ≠ b by omega) (.int .u64 (x4 + 1))
    have G7 : Fr S2 w (W6.setCell ⟨b, 4, none⟩ (.int .u64 (x4 + 1))) := G6.setCell (fun h => (hsub b hP6.inB).elim (fun h1 => (eS2 b).2 h1) fun h1 => absurd h1.1 (by omega)) _
    have hs7 : W6.heap.size ≤ (W6.setCell ⟨b, 4, none⟩ (.int .u64 (x4 + 1))).heap.size := by simp [World.setCell]
    generalize W6.setCell ⟨b, 4, none⟩ (.int .u64 (x4 + 1)) = W7 at *
    clear hP6 B6 V6 G6 j3 l6 l7
    have l6 := V7.lt
    have l7 := B7.lt
    go_wp2_with (first
      | (refine wpl_load_row (by rfl) 44 (.tmp 7) rfl vb rfl 44 (vcells ⟨1, why, 0, true⟩) (0, 0) _ V7 Tryz.underlying44 rfl (by kernel_rfl) ?_)
      | (refine wpl_store_row rfl 44 (.tmp 6) (.tmp 27) rfl B7 (vcells ⟨1, why, 0, true⟩) rfl rfl (by kernel_rfl) rfl (by simp [vcells, Value.oneCell']) ?_))
    refine bodyPost_ret (results_cell_row rfl _ _ w.heap.size 44 (vcells ⟨1, why, 0, true⟩) (0, 0) _ rfl (B7.setRow _) Tryz.underlying44 rfl (by kernel_rfl)) rfl ?_
    have hy := hy4.out
    rw [if_pos trivial] at hy
    subst hy
    exact ⟨rfl, fin W7 _ hP7 B7 G7 hs7⟩
  | false =>
    go_wp2_with (first
      | (refine wpl_load_row (by rfl) 44 (.tmp 7) rfl vb rfl 44 (vcells ⟨1, why, 0, false⟩) (0, 0) _ V6 Tryz.underlying44 rfl (by kernel_rfl) ?_)
      | (refine wpl_store_row rfl 44 (.tmp 6) (.tmp 27) rfl B6 (vcells ⟨1, why, 0, false⟩) rfl rfl (by kernel_rfl) rfl (by simp [vcells, Value.oneCell']) ?_))
    refine bodyPost_ret (results_cell_row rfl _ _ w.heap.size 44 (vcells ⟨1, why, 0, false⟩) (0, 0) _ rfl (B6.setRow _) Tryz.underlying44 rfl (by kernel_rfl)) rfl ?_
    have hy := hy4.out
    rw [if_neg (by decide), Int.add_zero] at hy
    subst hy
    exact ⟨rfl, fin W6 _ hP6 B6 G6 (Nat.le_refl _)⟩
set_option maxHeartbeats 4000000 in
theorem judge_any {S R T Y : Nat → Prop} {w : World} {a la : Addr} {g : Gd} {l : Lg} {N : Nat} (hG : Grd S R w a g) (hg : g.ended = false) (hc : Cb g N) (hN : N ≤ 1000000) (hL : Led T w la l) (hgl : l.l.length ≤ 1000000) (x : K) (p : Option Addr) (c : Nat) (q : Option Addr) (d : Nat) (hx : Kok x) (hr : Rw Y w x p c q d) (used now : Int) :
    Calls Tryz.prog 51 #[.pointer (some a), .pointer (some la), .agg (kcells x p c q d), .int .u64 used, .int .u64 now] w fun e w' => e = .returned (.agg (vcells (usedT g l x used now).v)) ∧
      (∃ S' R', Grd S' R' w' a (usedT g l x used now).g ∧ (∀ j, S' j → Plus S w w' j) ∧ ∀ j, R' j → Plus R w w' j) ∧ Fr S w w' := by
  have hG1 := hG.cut
  have h32 := hx.s32
  have h33 := hx.m32
  have t0 := hc.t0
  have t1 := hc.t1
  have hA : Below w.heap.size w ((w.alloc (.cells (kcells x p c q d) 56)).alloc (.cells (vcells ⟨0, 0, 0, false⟩) 44)) := ((Below.refl w.heap.size w).alloc (Nat.le_refl _) _).alloc (by simp) _
  have V0 := (Blk.new w (kcells x p c q d) 56).alloc (.cells (vcells ⟨0, 0, 0, false⟩) 44)
  have B0 := Blk.new (w.alloc (.cells (kcells x p c q d) 56)) (vcells ⟨0, 0, 0, false⟩) 44
  rw [World.size_alloc] at B0
  have hs : w.heap.size + 2 ≤ ((w.alloc (.cells (kcells x p c q d) 56)).alloc (.cells (vcells ⟨0, 0, 0, false⟩) 44)).heap.size := by simp only [World.size_alloc]; omega
  unfold usedT
  generalize hck : checkG l x = ck at *
  obtain ⟨wy, at_⟩ := ck
  have hck := Lib.hid hck
  simp only
  obtain ⟨S2, eS2⟩ : ∃ S2 : Nat → Prop, ∀ k, S2 k ↔ (S k ∧ k < w.heap.size) := ⟨_, fun _ => Iff.rfl⟩
  obtain ⟨R2, eR2⟩ : ∃ R2 : Nat → Prop, ∀ k, R2 k ↔ (R k ∧ k < w.heap.size) := ⟨_, fun _ => Iff.rfl⟩
  have hG2 : Grd S2 R2 w a g := hG1.mono (fun k h => (eS2 k).2 h) (fun k _ h => (eR2 k).2 h) fun k h1 h2 => hG1.dis k ((eS2 k).1 h1) ((eR2 k).1 h2)
  clear hG hG1
  have fin : ∀ (W U : World) (g' : Gd) (v : Vd) (S' R' : Nat → Prop), Grd S' R' W a g' → (∀ k, S' k → (S k ∧ k < w.heap.size) ∨ (w.heap.size + 2 ≤ k ∧ k < W.heap.size)) → (∀ k, R' k → (R k ∧ k < w.heap.size) ∨ (w.heap.size + 2 ≤ k ∧ k < W.heap.size)) → Fr S w W → w.heap.size + 2 ≤ W.heap.size → U = W.setRow (w.heap.size + 1) (vcells v) →
      (∃ S' R', Grd S' R' U a g' ∧ (∀ j, S' j → Plus S w U j) ∧ ∀ j, R' j → Plus R w U j) ∧ Fr S w U := by
    intro W U g' v S' R' hG' h1 h2 hF hz hU
    subst hU
    have hR : Fr (fun k => k = w.heap.size + 1) W (W.setRow (w.heap.size + 1) (vcells v)) := (Fr.refl (fun k => k = w.heap.size + 1) W).setRow (fun _ => rfl) _
    have hs9 := hR.size
    refine ⟨⟨S', R', hG'.kept hR (fun k hk e => by have := h1 k hk; omega) (fun k hk e => by have := h2 k hk; omega), fun j hj => (h1 j hj).imp (fun h => h.1) fun h => ?_, fun j hj => (h2 j hj).imp (fun h => h.1) fun h => ?_⟩, hF.trans hR fun k hk e => by omega⟩
    · omega
    · omega
  by_cases hw : wy = 0
  · subst hw
    rw [if_neg (by decide)]
    have hk3 := Lib.hid (show fineT g l x used = fineT g l x used from rfl)
    unfold fineT
    simp only
    go_enter Tryz.func51, Tryz.ntmps51
    go_upto_region 1 with fail
    refine at_any ?_
    intro W hW
    rw [← show W = (w.alloc (.cells (kcells x p c q d) 56)).alloc (.cells (vcells ⟨0, 0, 0, false⟩) 44) from hW] at hA V0 B0 hs
    clear hW
    have hL1 := hL.below hA
    have hr1 := hr.below hA
    have hG3 := hG2.below hA
    have hF := Fr.of_below (S := S) hA
    have CK := Led.check_any hL1 hgl x p q x.spans.length c x.marked.length d rfl rfl (by omega) (by omega) hx.fs hx.fm hr1.s.row hr1.m.row hr1.d0
    rw [hck.out] at CK
    have l0 := V0.lt
    generalize hob : w.heap.size + 1 = ob at *
    have hlo : w.heap.size < ob := by omega
    go_upto_region 5 with (first
      | (refine wpl_load_row (by rfl) 56 (.tmp 7) rfl w.heap.size rfl 56 (kcells x p c q d) (0, 0) _ V0 Tryz.underlying56 rfl (by kernel_rfl) ?_)
      | (go_at_call 96; refine CK.mono ?_; rintro _ w2 ⟨rfl, L2⟩; have hG4 := hG3.below L2; have F4 := hF.trans (T := fun _ => False) (Fr.of_below L2) fun _ _ h => h.elim; have B4 := B0.below L2 B0.lt; have s4 := L2.size))
    obtain ⟨b, ba, S1, dn, ev, rfl, hP⟩ := hG4.ex
    go_upto_region 6 with (go_at_call 46; refine (Once.add64 ⟨b, 3, none⟩ g.n.taken 1 _ (hP.blk.cell 3) (hP.blk.free 3) (by omega) (by omega)).mono ?_; rintro _ _ ⟨rfl, rfl⟩)
    have hP5 := hP.turn hG4.dis 3 (.int .u64 (g.n.taken + 1)) (n' := { g.n with taken := g.n.taken + 1 }) rfl
    rw [hg] at hP5
    have hbS := (eS2 b).1 hP.inB
    have F5 := F4.setCell (p := ⟨b, 3, none⟩) (fun _ => hbS.1) (.int .u64 (g.n.taken + 1))
    have B5 := B4.other (a := ⟨b, 3, none⟩) (show ob ≠ b by omega) (.int .u64 (g.n.taken + 1))
    have s5 : w2.heap.size ≤ (w2.setCell ⟨b, 3, none⟩ (.int .u64 (g.n.taken + 1))).heap.size := by simp [World.setCell]
    generalize w2.setCell ⟨b, 3, none⟩ (.int .u64 (g.n.taken + 1)) = W5 at *
    go_wp2_with (refine wpl_store_row rfl 44 (.tmp 10) (.tmp 38) rfl B5 (vcells ⟨2, 0, used, false⟩) rfl rfl (by kernel_rfl) rfl (by simp [vcells, Value.oneCell']) ?_)
    refine bodyPost_ret (results_cell_row rfl _ _ ob 44 (vcells ⟨2, 0, used, false⟩) (0, 0) _ rfl (B5.setRow _) Tryz.underlying44 rfl (by kernel_rfl)) rfl ?_
    exact ⟨rfl, fin W5 _ _ ⟨2, 0, used, false⟩ S2 R2 ⟨hG4.dis, b, ba, S1, dn, ev, rfl, hP5⟩ (fun k hk => .inl ((eS2 k).1 hk)) (fun k hk => .inl ((eR2 k).1 hk)) F5 (by omega) rfl⟩
  · rw [if_pos hw]
    unfold endT
    simp only
    go_enter Tryz.func51, Tryz.ntmps51
    go_upto_region 1 with fail
    refine at_any ?_
    intro W hW
    rw [← show W = (w.alloc (.cells (kcells x p c q d) 56)).alloc (.cells (vcells ⟨0, 0, 0, false⟩) 44) from hW] at hA V0 B0 hs
    clear hW
    have hL1 := hL.below hA
    have hr1 := hr.below hA
    have hG3 := hG2.below hA
    have hF := Fr.of_below (S := S) hA
    have CK := Led.check_any hL1 hgl x p q x.spans.length c x.marked.length d rfl rfl (by omega) (by omega) hx.fs hx.fm hr1.s.row hr1.m.row hr1.d0
    rw [hck.out] at CK
    have l0 := V0.lt
    generalize hob : w.heap.size + 1 = ob at *
    have hlo : w.heap.size < ob := by omega
    go_upto_region 3 with (first
      | (refine wpl_load_row (by rfl) 56 (.tmp 7) rfl w.heap.size rfl 56 (kcells x p c q d) (0, 0) _ V0 Tryz.underlying56 rfl (by kernel_rfl) ?_)
      | (go_at_call 96; refine CK.mono ?_; rintro _ w2 ⟨rfl, L2⟩; have hG4 := hG3.below L2; have F4 := hF.trans (T := fun _ => False) (Fr.of_below L2) fun _ _ h => h.elim; have B4 := B0.below L2 B0.lt; have V4 := V0.below L2 l0; have hr4 := hr1.below L2; have s4 := L2.size))
    have CC := clone_any x p c q d hx hr4
    have l4 := V4.lt
    clear CK hG3 hF B0 V0 hr1 hL1 L2
    unfold kcells at CC
    go_upto_region 4 with (first
      | (refine wpl_load_row (by rfl) 56 (.tmp 7) rfl w.heap.size rfl 56 (kcells x p c q d) (0, 0) _ V4 Tryz.underlying56 rfl (by kernel_rfl) ?_)
      | (go_at_call 56; refine CC.mono ?_; rintro _ w3 ⟨p', c', q', d', rfl, hr5, L5⟩; have hG5 := hG4.below L5; have F5 := F4.trans (T := fun _ => False) (Fr.of_below L5) fun _ _ h => h.elim; have B5 := B4.below L5 B4.lt; have s5 := L5.size; have CKp := keep_any hG5 hg ⟨now, at_, used, wy, x⟩ p' c' q' d' hr5 (fun k h1 h2 => by have := (eS2 k).1 h1; omega))
      | (go_at_call 66; refine CKp.mono ?_; rintro _ w6 ⟨rfl, hG6, F6⟩; have B6 := B5.kept F6 (fun h => by have := (eS2 _).1 h; omega); have F7 := F5.trans F6 (fun k _ hk => ((eS2 k).1 hk).1); have s6 := F6.size))
    go_wp2_with (refine wpl_store_row rfl 44 (.tmp 10) (.tmp 32) rfl B6 (vcells ⟨3, wy, at_, false⟩) rfl rfl (by kernel_rfl) rfl (by simp [vcells, Value.oneCell']) ?_)
    refine bodyPost_ret (results_cell_row rfl _ _ ob 44 (vcells ⟨3, wy, at_, false⟩) (0, 0) _ rfl (B6.setRow _) Tryz.underlying44 rfl (by kernel_rfl)) rfl ?_
    exact ⟨rfl, fin w6 _ _ ⟨3, wy, at_, false⟩ _ _ hG6 (fun k hk => .inl ((eS2 k).1 hk.1)) (fun k hk => .inr (by omega)) F7 (by omega) rfl⟩
end Go.Proofs.YtkiloaebokkjbaaGreat.Guard
