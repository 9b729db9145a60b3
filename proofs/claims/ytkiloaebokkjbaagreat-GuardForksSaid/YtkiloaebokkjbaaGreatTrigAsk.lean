/-
  An acknowledgment near what a ledger has: Ask by contract.
-/
import Derived.Test.YtkiloaebokkjbaaGreatM17
import Derived.Test.YtkiloaebokkjbaaGreatM16
import Derived.Test.YtkiloaebokkjbaaGreatLedDo
set_option linter.unusedSimpArgs false
set_option linter.unusedVariables false
namespace Go.Proofs.YtkiloaebokkjbaaGreat.Led
set_option linter.unusedVariables false
set_option maxRecDepth 20000
open Go.ChangeShapes Go.WideShapes Go.ChangeAt Go.RowKit
open Go.Proofs.YtkiloaebokkjbaaGreat.Base Go.Proofs.YtkiloaebokkjbaaGreat.LedPlain Go.Proofs.YtkiloaebokkjbaaGreat.SpanPlain Go.Proofs.YtkiloaebokkjbaaGreat.SpanRef
open Go.Proofs.YtkiloaebokkjbaaGreat.AckPlain (K)

theorem own_set_ne {base : Nat} {w : World} {v : Value} {l : List Sp} (h : Own base w v l) {p : Addr} (hp : v.ownBlock ≠ some p.block) (u : Value) : Own base (w.setCell p u) v l := by
  obtain ⟨h1, h2⟩ := h
  refine ⟨h1, ?_⟩
  rcases h2 with h2 | ⟨g, cap, cur, hv, hg, hh, r⟩
  · exact Or.inl h2
  · exact Or.inr ⟨g, cap, cur, hv, hg, (Below.heap_setCell _ _ _ _ (fun e => hp (by rw [hv, ← e]; simp [Value.ownBlock]))).trans hh, r⟩
theorem own_rowIn {base n cap : Nat} {w : World} {a : Option Addr} {l : List Sp} (h : Own base w (.slice a n cap) l) : RowIn (fun k => base ≤ k) w a (flat l) := by
  obtain ⟨a', cap', e, _, _, _, R⟩ := h.read
  cases e
  exact R
theorem cell_other {w : World} {a p : Addr} (h : a.block ≠ p.block) (u : Value) : (w.setCell p u).cell? a = w.cell? a := by
  unfold World.cell?
  rw [Below.heap_setCell _ _ _ _ h]
theorem fits1 {lo k : Int} (q0 : 0 ≤ lo) (q1 : lo ≤ 1000020) (b0 : 0 ≤ k) : Fits [(lo, lo + k % 9)] := Fits.cons (by simp only; omega) Fits.nil
theorem good1 {lo k : Int} (q0 : 0 ≤ lo) (q1 : lo ≤ 1000020) (b0 : 0 ≤ k) : good [(lo, lo + k % 9)] = true :=
  goodFrom_cons.2 ⟨q0, by simp only; omega, by unfold SpanPlain.M; simp only; omega, rfl⟩
theorem fits2 {lo k m : Int} (q0 : 0 ≤ lo) (q1 : lo ≤ 1000020) (b0 : 0 ≤ k) (c0 : 0 ≤ m) : Fits [(lo, lo + k % 9), (lo + k % 9 + 2 + m % 4, lo + k % 9 + 2 + m % 4 + m % 7)] :=
  Fits.cons (by simp only; omega) (Fits.cons (by simp only; omega) Fits.nil)
theorem good2 {lo k m : Int} (q0 : 0 ≤ lo) (q1 : lo ≤ 1000020) (b0 : 0 ≤ k) (c0 : 0 ≤ m) : good [(lo, lo + k % 9), (lo + k % 9 + 2 + m % 4, lo + k % 9 + 2 + m % 4 + m % 7)] = true :=
  goodFrom_cons.2 ⟨q0, by simp only; omega, by unfold SpanPlain.M; simp only; omega, goodFrom_cons.2 ⟨by simp only; omega, by simp only; omega, by unfold SpanPlain.M; simp only; omega, rfl⟩⟩
/-- Two blocks laid one behind the other. -/
theorem laid2 (w : World) (T D : Array Value) (t d : TypeId) : Blk ((w.alloc (.cells T t)).alloc (.cells D d)) w.heap.size T t ∧ Blk ((w.alloc (.cells T t)).alloc (.cells D d)) (w.heap.size + 1) D d ∧ Below w.heap.size w ((w.alloc (.cells T t)).alloc (.cells D d)) := by
  have h1 := Blk.new w T t
  have h2 := Blk.new (w.alloc (.cells T t)) D d
  rw [World.size_alloc] at h2
  exact ⟨h1.alloc _, h2, ((Below.refl _ _).alloc (Nat.le_refl _) _).alloc (by simp) _⟩
theorem get_words {g : Lg} (h : Ok g) (pn : Int) : Words (getS g pn) := by
  unfold getS
  split
  · rename_i hk
    exact (h.each _ (by unfold keptN at hk; omega)).2.1
  · unfold Words Z8
    decide
set_option maxHeartbeats 8000000 in
theorem ask_b {S : Nat → Prop} {w : World} {a : Addr} {b : Nat} {g : Lg} (h : Rf S w b g) (hn : g.l.length ≤ 1000000) (k0 k1 k2 k3 : Int) (a0 : 0 ≤ k0) (a1 : k0 ≤ 65535) (b0 : 0 ≤ k1) (b1 : k1 ≤ 65535) (c0 : 0 ≤ k2) (c1 : k2 ≤ 65535) (d0 : 0 ≤ k3) (d1 : k3 ≤ 65535) (x : Int) (x0 : 0 ≤ x) (x1 : x ≤ 18446744073709551615) :
    Calls Tryz.prog 21 #[.agg #[.pointer (some a), .pointer (some ⟨b, 0, none⟩)], .agg #[.int .u16 k0, .int .u16 k1, .int .u16 k2, .int .u16 k3], .int .u64 x] w fun e w' => ∃ p c l tr xr, e = .returned (.agg #[.slice p l.length c, .slice none 0 0, .int .u64 tr, .int .u64 xr, .bool false]) ∧ l.length ≤ c ∧ RowIn (fun k => w.heap.size ≤ k) w' p (flat l) ∧ Fits l ∧ 1 ≤ l.length ∧ l.length ≤ 2 ∧ good l = true ∧ (0 ≤ tr ∧ tr ≤ 18446744073709551615) ∧ Below w.heap.size w w' := by
  have hlow := low_le g
  have CL := fun V (hV : Below w.heap.size w V) => ref_low (h.below hV)
  generalize hlw : (lowN g : Int) = low at *
  go_enter Tryz.func21, Tryz.ntmps21
  go_upto_region 1 with fail
  refine at_world ?_
  intro V hV
  obtain ⟨hT, hK, hA, hB⟩ : Blk V w.heap.size #[.pointer (some a), .pointer (some ⟨b, 0, none⟩)] 28 ∧ Blk V (w.heap.size + 1) #[.int .u16 k0, .int .u16 k1, .int .u16 k2, .int .u16 k3] 40 ∧ Blk V (w.heap.size + 1 + 1) #[.slice none 0 0, .slice none 0 0, .int .u64 0, .int .u64 0, .bool false] 56 ∧ Below w.heap.size w V := by
    subst hV
    exact laid3 w _ _ _ _ _ _
  clear hV
  have z1 : V.cell? ⟨w.heap.size, 1, none⟩ = some (.pointer (some ⟨b, 0, none⟩)) := hT.cell 1
  have z2 : V.cell? ⟨w.heap.size + 1, 0, none⟩ = some (.int .u16 k0) := hK.cell 0
  have e1 := fun v : In (Lt V) => inCell v z1
  have e2 := fun v : In (Lt V) => inCell v z2
  have CW := fun v : In (Lt V) => CL v.w (hB.trans (v.h.mono hB.size))
  refine wp_region_in (Lt V) (Lt.drew V) (by kernel_rfl) (by kernel_rfl) ?_
  repeat (go_big_quiet_step (first | (go_at_call 53; refine in_below (v := .int .u64 low) ?_; exact CW _)))
  refine wpQuiet_nil ?_
  rintro u1 ⟨⟨_, hw1⟩, rfl⟩
  have hw1 : Below V.heap.size V u1 := hw1
  have T1 := hT.below hw1 hT.lt
  have K1 := hK.below hw1 hK.lt
  have A1 := hA.below hw1 hA.lt
  have M1 := hB.trans (hw1.mono hB.size)
  clear e1 e2 CW z1 z2 hT hK hA CL
  have tb : u1.cell? ⟨w.heap.size, 1, none⟩ = some (.pointer (some ⟨b, 0, none⟩)) := T1.cell 1
  have y0 : u1.cell? ⟨w.heap.size + 1, 0, none⟩ = some (.int .u16 k0) := K1.cell 0
  have y1 : u1.cell? ⟨w.heap.size + 1, 1, none⟩ = some (.int .u16 k1) := K1.cell 1
  have y2 : u1.cell? ⟨w.heap.size + 1, 2, none⟩ = some (.int .u16 k2) := K1.cell 2
  have y3 : u1.cell? ⟨w.heap.size + 1, 3, none⟩ = some (.int .u16 k3) := K1.cell 3
  have hlb : 0 ≤ low ∧ low ≤ 1000000 := by omega
  by_cases h5 : k0 % 5 = 4
  · by_cases h3 : 3 < low + k0 % 12
    · go_upto_region 5 with fail
      have l0 : 0 ≤ low + k0 % 12 - 3 ∧ low + k0 % 12 - 3 ≤ 1000020 := by omega
      generalize low + k0 % 12 - 3 = lo at *
      refine at_world ?_
      intro W hW
      obtain ⟨O2, A2, hB2⟩ : Own w.heap.size W (.slice (some ⟨u1.heap.size, 0, none⟩) 1 1) [(lo, lo + k1 % 9)] ∧ Blk W (u1.heap.size + 1) #[.slice (some ⟨u1.heap.size, 0, none⟩) 1 1, .slice none 0 0, .int .u64 x, .int .u64 (x / 128), .bool false] 56 ∧ Below u1.heap.size u1 W := by
        subst hW
        obtain ⟨_, l2, l3⟩ := laid2 u1 #[.int .u64 lo, .int .u64 (lo + k1 % 9)] #[.slice (some ⟨u1.heap.size, 0, none⟩) 1 1, .slice none 0 0, .int .u64 x, .int .u64 (x / 128), .bool false] 119 56
        exact ⟨(World.ownsRow_lit u1 #[.int .u64 lo, .int .u64 (lo + k1 % 9)] 1 M1.size (by decide) rfl).alloc _, l2, l3⟩
      clear hW
      have M2 := M1.trans (hB2.mono M1.size)
      replace tb := keepCell hB2 tb
      replace y1 := keepCell hB2 y1
      replace y2 := keepCell hB2 y2
      replace y3 := keepCell hB2 y3
      have T2 := T1.below hB2 T1.lt
      obtain ⟨q0, q1⟩ := l0
      obtain ⟨z0, z1, z2, z3, z4⟩ := AckMay.blk5 A2
      have hsz1 := A1.lt
      have RB2 := A1.below hB2 A1.lt
      have CG := fun V (hV : Below w.heap.size w V) => ref_get (h.below hV) (lo + k3 % 10) (by omega) (by omega)
      have hsw := get_words h.ok (lo + k3 % 10)
      generalize hgs : getS g (lo + k3 % 10) = s at *
      cases hok : hasN g (lo + k3 % 10)
      · rw [hok] at CG
        by_cases h2 : 0 < k2 % 3
        · have hne : (Value.slice (some ⟨u1.heap.size, 0, none⟩) 1 1).ownBlock ≠ some (u1.heap.size + 1) := by simp [Value.ownBlock]
          have hne' : ∀ k, k ≤ w.heap.size + 1 + 1 → (Value.slice (some ⟨u1.heap.size, 0, none⟩) 1 1).ownBlock ≠ some k := by
            intro k hk e
            have := hsz1
            simp [Value.ownBlock] at e
            omega
          go_upto_region 8 with (at_builtin; refine wpl_add (x := lo + k1 % 9 + 2 + k2 % 4) (y := lo + k1 % 9 + 2 + k2 % 4 + k2 % 7) rfl (.tmp 60) (.tmp 69) rfl rfl O2 rfl (by simp) (by simp) (by have := hB2.size; have := M1.size; omega) ?_; intro v3 w3 A3; obtain ⟨p3, cap3, hv3, hc3, _, _, _⟩ := A3.own.read; subst hv3; have A3h := Lib.hid A3; have g0 := A3.keep z0 hne; have g1 := (A3.blk A2 hne).free 0; clear A3)
          have A3 := A3h.out
          have hx3 : (Value.slice p3 ([(lo, lo + k1 % 9)] ++ [(lo + k1 % 9 + 2 + k2 % 4, lo + k1 % 9 + 2 + k2 % 4 + k2 % 7)]).length cap3).ownBlock ≠ some (u1.heap.size + 1) := A3.out A2.lt hne
          have hy3 : (Value.slice p3 ([(lo, lo + k1 % 9)] ++ [(lo + k1 % 9 + 2 + k2 % 4, lo + k1 % 9 + 2 + k2 % 4 + k2 % 7)]).length cap3).ownBlock ≠ some (w.heap.size + 1 + 1) := A3.out RB2.lt (hne' _ (by omega))
          clear g0 g1 A3h
          refine at_world ?_
          intro W3 hW3
          obtain ⟨O3, B3, RB3, M3, tb', y3'⟩ : Own w.heap.size W3 (.slice p3 2 cap3) [(lo, lo + k1 % 9), (lo + k1 % 9 + 2 + k2 % 4, lo + k1 % 9 + 2 + k2 % 4 + k2 % 7)] ∧ Blk W3 (u1.heap.size + 1) #[.slice p3 2 cap3, .slice none 0 0, .int .u64 x, .int .u64 (x / 128), .bool false] 56 ∧ Blk W3 (w.heap.size + 1 + 1) #[.slice none 0 0, .slice none 0 0, .int .u64 0, .int .u64 0, .bool false] 56 ∧ Below w.heap.size w W3 ∧ W3.cell? ⟨w.heap.size, 1, none⟩ = some (.pointer (some ⟨b, 0, none⟩)) ∧ W3.cell? ⟨w.heap.size + 1, 3, none⟩ = some (.int .u16 k3) := by
            subst hW3
            have b3 := (A3.blk A2 hne).set 0 (.slice p3 2 cap3)
            exact ⟨own_set_ne A3.own hx3 _, b3, (A3.blk RB2 (hne' _ (by omega))).other (by simp only; omega) _, (A3.below M2 (Nat.le_refl _)).setCell (by have := M1.size; simp only; omega) _, (cell_other (by simp only; omega) _).trans (A3.keep tb (hne' _ (by omega))), (cell_other (by simp only; omega) _).trans (A3.keep y3 (hne' _ (by omega)))⟩
          clear hW3 A3
          replace tb := tb'
          replace y3 := y3'
          have hA : (Value.slice p3 2 cap3).ownBlock ≠ some (u1.heap.size + 1) := hx3
          have hR : (Value.slice p3 2 cap3).ownBlock ≠ some (w.heap.size + 1 + 1) := hy3
          go_upto_region 9 with (go_at_call 52; refine (CG _ M3).mono ?_; rintro e u4 ⟨rfl, L4⟩)
          have M4 := M3.trans (L4.mono M3.size)
          replace y3 := keepCell L4 y3
          have A4 := B3.below L4 B3.lt
          have R4 := RB3.below L4 RB3.lt
          have O4 := O3.below L4
          refine at_world ?_
          intro W4 hW4
          obtain ⟨O5, A5, R5, S5, M5, y5⟩ : Own w.heap.size W4 (.slice p3 2 cap3) [(lo, lo + k1 % 9), (lo + k1 % 9 + 2 + k2 % 4, lo + k1 % 9 + 2 + k2 % 4 + k2 % 7)] ∧ Blk W4 (u1.heap.size + 1) #[.slice p3 2 cap3, .slice none 0 0, .int .u64 x, .int .u64 (x / 128), .bool false] 56 ∧ Blk W4 (w.heap.size + 1 + 1) #[.slice none 0 0, .slice none 0 0, .int .u64 0, .int .u64 0, .bool false] 56 ∧ Blk W4 u4.heap.size #[.int .u64 s.pn, .int .u64 s.off, .int .u64 s.len, .int .u64 s.nonce, .int .u64 s.time, .bool s.coin, .bool s.used, .int .i64 s.state] 76 ∧ Below w.heap.size w W4 ∧ W4.cell? ⟨w.heap.size + 1, 3, none⟩ = some (.int .u16 k3) := by
            subst hW4
            exact ⟨O4.alloc _, A4.alloc _, R4.alloc _, Blk.new _ _ _, M4.alloc M4.size _, keepCell ((Below.refl u4.heap.size u4).alloc (Nat.le_refl _) _) y3⟩
          clear hW4 y3 O4 A4 R4 L4 CG
          have s5 : W4.cell? ⟨u4.heap.size, 3, none⟩ = some (.int .u64 s.nonce) := S5.cell 3
          obtain ⟨r0, r1, r2, r3, r4⟩ := AckMay.blk5 A5
          obtain ⟨n0, n1, n2, n3, n4⟩ := AckMay.blk5 R5
          have f2 := A5.free 2
          have f5 := R5.free 0
          have f6 := R5.free 1
          have f7 := R5.free 2
          have f8 := R5.free 3
          have f9 := R5.free 4
          have hbA : w.heap.size ≤ u1.heap.size + 1 := by have := M1.size; omega
          have hbR : w.heap.size ≤ w.heap.size + 1 + 1 := by omega
          have nA : w.heap.size + 1 + 1 ≠ u1.heap.size + 1 := by omega
          have nB : u1.heap.size + 1 ≠ w.heap.size + 1 + 1 := by omega
          go_wp2
          all_goals refine bodyPost_ret (results_cell_row rfl _ _ (w.heap.size + 1 + 1) 56 #[.slice p3 2 cap3, .slice none 0 0, .int .u64 x, .int .u64 (x / 128), .bool false] (0, 0) _ rfl (((((R5.set 0 _).set 1 _).set 2 _).set 3 _).set 4 _) Tryz.underlying56 rfl (by kernel_rfl)) rfl ?_
          all_goals refine ⟨p3, cap3, [(lo, lo + k1 % 9), (lo + k1 % 9 + 2 + k2 % 4, lo + k1 % 9 + 2 + k2 % 4 + k2 % 7)], x, x / 128, rfl, hc3, (own_rowIn (base := w.heap.size) (n := 2) (cap := cap3) ?_), fits2 q0 q1 b0 c0, by simp, by simp, good2 q0 q1 b0 c0, ⟨x0, x1⟩, ?_⟩
          · exact (own_set_ne (own_set_ne (own_set_ne (own_set_ne (own_set_ne O5 hR _) hR _) hR _) hR _) hR _)
          · exact (((((M5.setCell hbR _).setCell hbR _).setCell hbR _).setCell hbR _).setCell hbR _)
        · skip
          have hA : (Value.slice (some ⟨u1.heap.size, 0, none⟩) 1 1).ownBlock ≠ some (u1.heap.size + 1) := (by simp [Value.ownBlock])
          have hR : (Value.slice (some ⟨u1.heap.size, 0, none⟩) 1 1).ownBlock ≠ some (w.heap.size + 1 + 1) := (by simp [Value.ownBlock]; omega)
          go_upto_region 9 with (go_at_call 52; refine (CG _ M2).mono ?_; rintro e u4 ⟨rfl, L4⟩)
          have M4 := M2.trans (L4.mono M2.size)
          replace y3 := keepCell L4 y3
          have A4 := A2.below L4 A2.lt
          have R4 := RB2.below L4 RB2.lt
          have O4 := O2.below L4
          refine at_world ?_
          intro W4 hW4
          obtain ⟨O5, A5, R5, S5, M5, y5⟩ : Own w.heap.size W4 (.slice (some ⟨u1.heap.size, 0, none⟩) 1 1) [(lo, lo + k1 % 9)] ∧ Blk W4 (u1.heap.size + 1) #[.slice (some ⟨u1.heap.size, 0, none⟩) 1 1, .slice none 0 0, .int .u64 x, .int .u64 (x / 128), .bool false] 56 ∧ Blk W4 (w.heap.size + 1 + 1) #[.slice none 0 0, .slice none 0 0, .int .u64 0, .int .u64 0, .bool false] 56 ∧ Blk W4 u4.heap.size #[.int .u64 s.pn, .int .u64 s.off, .int .u64 s.len, .int .u64 s.nonce, .int .u64 s.time, .bool s.coin, .bool s.used, .int .i64 s.state] 76 ∧ Below w.heap.size w W4 ∧ W4.cell? ⟨w.heap.size + 1, 3, none⟩ = some (.int .u16 k3) := by
            subst hW4
            exact ⟨O4.alloc _, A4.alloc _, R4.alloc _, Blk.new _ _ _, M4.alloc M4.size _, keepCell ((Below.refl u4.heap.size u4).alloc (Nat.le_refl _) _) y3⟩
          clear hW4 y3 O4 A4 R4 L4 CG
          have s5 : W4.cell? ⟨u4.heap.size, 3, none⟩ = some (.int .u64 s.nonce) := S5.cell 3
          obtain ⟨r0, r1, r2, r3, r4⟩ := AckMay.blk5 A5
          obtain ⟨n0, n1, n2, n3, n4⟩ := AckMay.blk5 R5
          have f2 := A5.free 2
          have f5 := R5.free 0
          have f6 := R5.free 1
          have f7 := R5.free 2
          have f8 := R5.free 3
          have f9 := R5.free 4
          have hbA : w.heap.size ≤ u1.heap.size + 1 := by have := M1.size; omega
          have hbR : w.heap.size ≤ w.heap.size + 1 + 1 := by omega
          have nA : w.heap.size + 1 + 1 ≠ u1.heap.size + 1 := by omega
          have nB : u1.heap.size + 1 ≠ w.heap.size + 1 + 1 := by omega
          go_wp2
          all_goals refine bodyPost_ret (results_cell_row rfl _ _ (w.heap.size + 1 + 1) 56 #[.slice (some ⟨u1.heap.size, 0, none⟩) 1 1, .slice none 0 0, .int .u64 x, .int .u64 (x / 128), .bool false] (0, 0) _ rfl (((((R5.set 0 _).set 1 _).set 2 _).set 3 _).set 4 _) Tryz.underlying56 rfl (by kernel_rfl)) rfl ?_
          all_goals refine ⟨(some ⟨u1.heap.size, 0, none⟩), 1, [(lo, lo + k1 % 9)], x, x / 128, rfl, by simp, (own_rowIn (base := w.heap.size) (n := 1) (cap := 1) ?_), fits1 q0 q1 b0, by simp, by simp, good1 q0 q1 b0, ⟨x0, x1⟩, ?_⟩
          · exact (own_set_ne (own_set_ne (own_set_ne (own_set_ne (own_set_ne O5 hR _) hR _) hR _) hR _) hR _)
          · exact (((((M5.setCell hbR _).setCell hbR _).setCell hbR _).setCell hbR _).setCell hbR _)
      · rw [hok] at CG
        by_cases h7 : 0 < k3 % 7
        · by_cases h2 : 0 < k2 % 3
          · have hne : (Value.slice (some ⟨u1.heap.size, 0, none⟩) 1 1).ownBlock ≠ some (u1.heap.size + 1) := by simp [Value.ownBlock]
            have hne' : ∀ k, k ≤ w.heap.size + 1 + 1 → (Value.slice (some ⟨u1.heap.size, 0, none⟩) 1 1).ownBlock ≠ some k := by
              intro k hk e
              have := hsz1
              simp [Value.ownBlock] at e
              omega
            go_upto_region 8 with (at_builtin; refine wpl_add (x := lo + k1 % 9 + 2 + k2 % 4) (y := lo + k1 % 9 + 2 + k2 % 4 + k2 % 7) rfl (.tmp 60) (.tmp 69) rfl rfl O2 rfl (by simp) (by simp) (by have := hB2.size; have := M1.size; omega) ?_; intro v3 w3 A3; obtain ⟨p3, cap3, hv3, hc3, _, _, _⟩ := A3.own.read; subst hv3; have A3h := Lib.hid A3; have g0 := A3.keep z0 hne; have g1 := (A3.blk A2 hne).free 0; clear A3)
            have A3 := A3h.out
            have hx3 : (Value.slice p3 ([(lo, lo + k1 % 9)] ++ [(lo + k1 % 9 + 2 + k2 % 4, lo + k1 % 9 + 2 + k2 % 4 + k2 % 7)]).length cap3).ownBlock ≠ some (u1.heap.size + 1) := A3.out A2.lt hne
            have hy3 : (Value.slice p3 ([(lo, lo + k1 % 9)] ++ [(lo + k1 % 9 + 2 + k2 % 4, lo + k1 % 9 + 2 + k2 % 4 + k2 % 7)]).length cap3).ownBlock ≠ some (w.heap.size + 1 + 1) := A3.out RB2.lt (hne' _ (by omega))
            clear g0 g1 A3h
            refine at_world ?_
            intro W3 hW3
            obtain ⟨O3, B3, RB3, M3, tb', y3'⟩ : Own w.heap.size W3 (.slice p3 2 cap3) [(lo, lo + k1 % 9), (lo + k1 % 9 + 2 + k2 % 4, lo + k1 % 9 + 2 + k2 % 4 + k2 % 7)] ∧ Blk W3 (u1.heap.size + 1) #[.slice p3 2 cap3, .slice none 0 0, .int .u64 x, .int .u64 (x / 128), .bool false] 56 ∧ Blk W3 (w.heap.size + 1 + 1) #[.slice none 0 0, .slice none 0 0, .int .u64 0, .int .u64 0, .bool false] 56 ∧ Below w.heap.size w W3 ∧ W3.cell? ⟨w.heap.size, 1, none⟩ = some (.pointer (some ⟨b, 0, none⟩)) ∧ W3.cell? ⟨w.heap.size + 1, 3, none⟩ = some (.int .u16 k3) := by
              subst hW3
              have b3 := (A3.blk A2 hne).set 0 (.slice p3 2 cap3)
              exact ⟨own_set_ne A3.own hx3 _, b3, (A3.blk RB2 (hne' _ (by omega))).other (by simp only; omega) _, (A3.below M2 (Nat.le_refl _)).setCell (by have := M1.size; simp only; omega) _, (cell_other (by simp only; omega) _).trans (A3.keep tb (hne' _ (by omega))), (cell_other (by simp only; omega) _).trans (A3.keep y3 (hne' _ (by omega)))⟩
            clear hW3 A3
            replace tb := tb'
            replace y3 := y3'
            have hA : (Value.slice p3 2 cap3).ownBlock ≠ some (u1.heap.size + 1) := hx3
            have hR : (Value.slice p3 2 cap3).ownBlock ≠ some (w.heap.size + 1 + 1) := hy3
            go_upto_region 9 with (go_at_call 52; refine (CG _ M3).mono ?_; rintro e u4 ⟨rfl, L4⟩)
            have M4 := M3.trans (L4.mono M3.size)
            replace y3 := keepCell L4 y3
            have A4 := B3.below L4 B3.lt
            have R4 := RB3.below L4 RB3.lt
            have O4 := O3.below L4
            refine at_world ?_
            intro W4 hW4
            obtain ⟨O5, A5, R5, S5, M5, y5⟩ : Own w.heap.size W4 (.slice p3 2 cap3) [(lo, lo + k1 % 9), (lo + k1 % 9 + 2 + k2 % 4, lo + k1 % 9 + 2 + k2 % 4 + k2 % 7)] ∧ Blk W4 (u1.heap.size + 1) #[.slice p3 2 cap3, .slice none 0 0, .int .u64 x, .int .u64 (x / 128), .bool false] 56 ∧ Blk W4 (w.heap.size + 1 + 1) #[.slice none 0 0, .slice none 0 0, .int .u64 0, .int .u64 0, .bool false] 56 ∧ Blk W4 u4.heap.size #[.int .u64 s.pn, .int .u64 s.off, .int .u64 s.len, .int .u64 s.nonce, .int .u64 s.time, .bool s.coin, .bool s.used, .int .i64 s.state] 76 ∧ Below w.heap.size w W4 ∧ W4.cell? ⟨w.heap.size + 1, 3, none⟩ = some (.int .u16 k3) := by
              subst hW4
              exact ⟨O4.alloc _, A4.alloc _, R4.alloc _, Blk.new _ _ _, M4.alloc M4.size _, keepCell ((Below.refl u4.heap.size u4).alloc (Nat.le_refl _) _) y3⟩
            clear hW4 y3 O4 A4 R4 L4 CG
            have s5 : W4.cell? ⟨u4.heap.size, 3, none⟩ = some (.int .u64 s.nonce) := S5.cell 3
            obtain ⟨r0, r1, r2, r3, r4⟩ := AckMay.blk5 A5
            obtain ⟨n0, n1, n2, n3, n4⟩ := AckMay.blk5 R5
            have f2 := A5.free 2
            have f5 := R5.free 0
            have f6 := R5.free 1
            have f7 := R5.free 2
            have f8 := R5.free 3
            have f9 := R5.free 4
            have hbA : w.heap.size ≤ u1.heap.size + 1 := by have := M1.size; omega
            have hbR : w.heap.size ≤ w.heap.size + 1 + 1 := by omega
            have nA : w.heap.size + 1 + 1 ≠ u1.heap.size + 1 := by omega
            have nB : u1.heap.size + 1 ≠ w.heap.size + 1 + 1 := by omega
            go_wp2
            all_goals refine bodyPost_ret (results_cell_row rfl _ _ (w.heap.size + 1 + 1) 56 #[.slice p3 2 cap3, .slice none 0 0, .int .u64 s.nonce, .int .u64 (x / 128), .bool false] (0, 0) _ rfl ((((((R5.other nA _).set 0 _).set 1 _).set 2 _).set 3 _).set 4 _) Tryz.underlying56 rfl (by kernel_rfl)) rfl ?_
            all_goals refine ⟨p3, cap3, [(lo, lo + k1 % 9), (lo + k1 % 9 + 2 + k2 % 4, lo + k1 % 9 + 2 + k2 % 4 + k2 % 7)], s.nonce, x / 128, rfl, hc3, (own_rowIn (base := w.heap.size) (n := 2) (cap := cap3) ?_), fits2 q0 q1 b0 c0, by simp, by simp, good2 q0 q1 b0 c0, (by unfold Words at hsw; omega), ?_⟩
            · exact (own_set_ne (own_set_ne (own_set_ne (own_set_ne (own_set_ne (own_set_ne O5 hA _) hR _) hR _) hR _) hR _) hR _)
            · exact ((((((M5.setCell hbA _).setCell hbR _).setCell hbR _).setCell hbR _).setCell hbR _).setCell hbR _)
          · skip
            have hA : (Value.slice (some ⟨u1.heap.size, 0, none⟩) 1 1).ownBlock ≠ some (u1.heap.size + 1) := (by simp [Value.ownBlock])
            have hR : (Value.slice (some ⟨u1.heap.size, 0, none⟩) 1 1).ownBlock ≠ some (w.heap.size + 1 + 1) := (by simp [Value.ownBlock]; omega)
            go_upto_region 9 with (go_at_call 52; refine (CG _ M2).mono ?_; rintro e u4 ⟨rfl, L4⟩)
            have M4 := M2.trans (L4.mono M2.size)
            replace y3 := keepCell L4 y3
            have A4 := A2.below L4 A2.lt
            have R4 := RB2.below L4 RB2.lt
            have O4 := O2.below L4
            refine at_world ?_
            intro W4 hW4
            obtain ⟨O5, A5, R5, S5, M5, y5⟩ : Own w.heap.size W4 (.slice (some ⟨u1.heap.size, 0, none⟩) 1 1) [(lo, lo + k1 % 9)] ∧ Blk W4 (u1.heap.size + 1) #[.slice (some ⟨u1.heap.size, 0, none⟩) 1 1, .slice none 0 0, .int .u64 x, .int .u64 (x / 128), .bool false] 56 ∧ Blk W4 (w.heap.size + 1 + 1) #[.slice none 0 0, .slice none 0 0, .int .u64 0, .int .u64 0, .bool false] 56 ∧ Blk W4 u4.heap.size #[.int .u64 s.pn, .int .u64 s.off, .int .u64 s.len, .int .u64 s.nonce, .int .u64 s.time, .bool s.coin, .bool s.used, .int .i64 s.state] 76 ∧ Below w.heap.size w W4 ∧ W4.cell? ⟨w.heap.size + 1, 3, none⟩ = some (.int .u16 k3) := by
              subst hW4
              exact ⟨O4.alloc _, A4.alloc _, R4.alloc _, Blk.new _ _ _, M4.alloc M4.size _, keepCell ((Below.refl u4.heap.size u4).alloc (Nat.le_refl _) _) y3⟩
            clear hW4 y3 O4 A4 R4 L4 CG
            have s5 : W4.cell? ⟨u4.heap.size, 3, none⟩ = some (.int .u64 s.nonce) := S5.cell 3
            obtain ⟨r0, r1, r2, r3, r4⟩ := AckMay.blk5 A5
            obtain ⟨n0, n1, n2, n3, n4⟩ := AckMay.blk5 R5
            have f2 := A5.free 2
            have f5 := R5.free 0
            have f6 := R5.free 1
            have f7 := R5.free 2
            have f8 := R5.free 3
            have f9 := R5.free 4
            have hbA : w.heap.size ≤ u1.heap.size + 1 := by have := M1.size; omega
            have hbR : w.heap.size ≤ w.heap.size + 1 + 1 := by omega
            have nA : w.heap.size + 1 + 1 ≠ u1.heap.size + 1 := by omega
            have nB : u1.heap.size + 1 ≠ w.heap.size + 1 + 1 := by omega
            go_wp2
            all_goals refine bodyPost_ret (results_cell_row rfl _ _ (w.heap.size + 1 + 1) 56 #[.slice (some ⟨u1.heap.size, 0, none⟩) 1 1, .slice none 0 0, .int .u64 s.nonce, .int .u64 (x / 128), .bool false] (0, 0) _ rfl ((((((R5.other nA _).set 0 _).set 1 _).set 2 _).set 3 _).set 4 _) Tryz.underlying56 rfl (by kernel_rfl)) rfl ?_
            all_goals refine ⟨(some ⟨u1.heap.size, 0, none⟩), 1, [(lo, lo + k1 % 9)], s.nonce, x / 128, rfl, by simp, (own_rowIn (base := w.heap.size) (n := 1) (cap := 1) ?_), fits1 q0 q1 b0, by simp, by simp, good1 q0 q1 b0, (by unfold Words at hsw; omega), ?_⟩
            · exact (own_set_ne (own_set_ne (own_set_ne (own_set_ne (own_set_ne (own_set_ne O5 hA _) hR _) hR _) hR _) hR _) hR _)
            · exact ((((((M5.setCell hbA _).setCell hbR _).setCell hbR _).setCell hbR _).setCell hbR _).setCell hbR _)
        · by_cases h2 : 0 < k2 % 3
          · have hne : (Value.slice (some ⟨u1.heap.size, 0, none⟩) 1 1).ownBlock ≠ some (u1.heap.size + 1) := by simp [Value.ownBlock]
            have hne' : ∀ k, k ≤ w.heap.size + 1 + 1 → (Value.slice (some ⟨u1.heap.size, 0, none⟩) 1 1).ownBlock ≠ some k := by
              intro k hk e
              have := hsz1
              simp [Value.ownBlock] at e
              omega
            go_upto_region 8 with (at_builtin; refine wpl_add (x := lo + k1 % 9 + 2 + k2 % 4) (y := lo + k1 % 9 + 2 + k2 % 4 + k2 % 7) rfl (.tmp 60) (.tmp 69) rfl rfl O2 rfl (by simp) (by simp) (by have := hB2.size; have := M1.size; omega) ?_; intro v3 w3 A3; obtain ⟨p3, cap3, hv3, hc3, _, _, _⟩ := A3.own.read; subst hv3; have A3h := Lib.hid A3; have g0 := A3.keep z0 hne; have g1 := (A3.blk A2 hne).free 0; clear A3)
            have A3 := A3h.out
            have hx3 : (Value.slice p3 ([(lo, lo + k1 % 9)] ++ [(lo + k1 % 9 + 2 + k2 % 4, lo + k1 % 9 + 2 + k2 % 4 + k2 % 7)]).length cap3).ownBlock ≠ some (u1.heap.size + 1) := A3.out A2.lt hne
            have hy3 : (Value.slice p3 ([(lo, lo + k1 % 9)] ++ [(lo + k1 % 9 + 2 + k2 % 4, lo + k1 % 9 + 2 + k2 % 4 + k2 % 7)]).length cap3).ownBlock ≠ some (w.heap.size + 1 + 1) := A3.out RB2.lt (hne' _ (by omega))
            clear g0 g1 A3h
            refine at_world ?_
            intro W3 hW3
            obtain ⟨O3, B3, RB3, M3, tb', y3'⟩ : Own w.heap.size W3 (.slice p3 2 cap3) [(lo, lo + k1 % 9), (lo + k1 % 9 + 2 + k2 % 4, lo + k1 % 9 + 2 + k2 % 4 + k2 % 7)] ∧ Blk W3 (u1.heap.size + 1) #[.slice p3 2 cap3, .slice none 0 0, .int .u64 x, .int .u64 (x / 128), .bool false] 56 ∧ Blk W3 (w.heap.size + 1 + 1) #[.slice none 0 0, .slice none 0 0, .int .u64 0, .int .u64 0, .bool false] 56 ∧ Below w.heap.size w W3 ∧ W3.cell? ⟨w.heap.size, 1, none⟩ = some (.pointer (some ⟨b, 0, none⟩)) ∧ W3.cell? ⟨w.heap.size + 1, 3, none⟩ = some (.int .u16 k3) := by
              subst hW3
              have b3 := (A3.blk A2 hne).set 0 (.slice p3 2 cap3)
              exact ⟨own_set_ne A3.own hx3 _, b3, (A3.blk RB2 (hne' _ (by omega))).other (by simp only; omega) _, (A3.below M2 (Nat.le_refl _)).setCell (by have := M1.size; simp only; omega) _, (cell_other (by simp only; omega) _).trans (A3.keep tb (hne' _ (by omega))), (cell_other (by simp only; omega) _).trans (A3.keep y3 (hne' _ (by omega)))⟩
            clear hW3 A3
            replace tb := tb'
            replace y3 := y3'
            have hA : (Value.slice p3 2 cap3).ownBlock ≠ some (u1.heap.size + 1) := hx3
            have hR : (Value.slice p3 2 cap3).ownBlock ≠ some (w.heap.size + 1 + 1) := hy3
            go_upto_region 9 with (go_at_call 52; refine (CG _ M3).mono ?_; rintro e u4 ⟨rfl, L4⟩)
            have M4 := M3.trans (L4.mono M3.size)
            replace y3 := keepCell L4 y3
            have A4 := B3.below L4 B3.lt
            have R4 := RB3.below L4 RB3.lt
            have O4 := O3.below L4
            refine at_world ?_
            intro W4 hW4
            obtain ⟨O5, A5, R5, S5, M5, y5⟩ : Own w.heap.size W4 (.slice p3 2 cap3) [(lo, lo + k1 % 9), (lo + k1 % 9 + 2 + k2 % 4, lo + k1 % 9 + 2 + k2 % 4 + k2 % 7)] ∧ Blk W4 (u1.heap.size + 1) #[.slice p3 2 cap3, .slice none 0 0, .int .u64 x, .int .u64 (x / 128), .bool false] 56 ∧ Blk W4 (w.heap.size + 1 + 1) #[.slice none 0 0, .slice none 0 0, .int .u64 0, .int .u64 0, .bool false] 56 ∧ Blk W4 u4.heap.size #[.int .u64 s.pn, .int .u64 s.off, .int .u64 s.len, .int .u64 s.nonce, .int .u64 s.time, .bool s.coin, .bool s.used, .int .i64 s.state] 76 ∧ Below w.heap.size w W4 ∧ W4.cell? ⟨w.heap.size + 1, 3, none⟩ = some (.int .u16 k3) := by
              subst hW4
              exact ⟨O4.alloc _, A4.alloc _, R4.alloc _, Blk.new _ _ _, M4.alloc M4.size _, keepCell ((Below.refl u4.heap.size u4).alloc (Nat.le_refl _) _) y3⟩
            clear hW4 y3 O4 A4 R4 L4 CG
            have s5 : W4.cell? ⟨u4.heap.size, 3, none⟩ = some (.int .u64 s.nonce) := S5.cell 3
            obtain ⟨r0, r1, r2, r3, r4⟩ := AckMay.blk5 A5
            obtain ⟨n0, n1, n2, n3, n4⟩ := AckMay.blk5 R5
            have f2 := A5.free 2
            have f5 := R5.free 0
            have f6 := R5.free 1
            have f7 := R5.free 2
            have f8 := R5.free 3
            have f9 := R5.free 4
            have hbA : w.heap.size ≤ u1.heap.size + 1 := by have := M1.size; omega
            have hbR : w.heap.size ≤ w.heap.size + 1 + 1 := by omega
            have nA : w.heap.size + 1 + 1 ≠ u1.heap.size + 1 := by omega
            have nB : u1.heap.size + 1 ≠ w.heap.size + 1 + 1 := by omega
            go_wp2
            all_goals refine bodyPost_ret (results_cell_row rfl _ _ (w.heap.size + 1 + 1) 56 #[.slice p3 2 cap3, .slice none 0 0, .int .u64 x, .int .u64 (x / 128), .bool false] (0, 0) _ rfl (((((R5.set 0 _).set 1 _).set 2 _).set 3 _).set 4 _) Tryz.underlying56 rfl (by kernel_rfl)) rfl ?_
            all_goals refine ⟨p3, cap3, [(lo, lo + k1 % 9), (lo + k1 % 9 + 2 + k2 % 4, lo + k1 % 9 + 2 + k2 % 4 + k2 % 7)], x, x / 128, rfl, hc3, (own_rowIn (base := w.heap.size) (n := 2) (cap := cap3) ?_), fits2 q0 q1 b0 c0, by simp, by simp, good2 q0 q1 b0 c0, ⟨x0, x1⟩, ?_⟩
            · exact (own_set_ne (own_set_ne (own_set_ne (own_set_ne (own_set_ne O5 hR _) hR _) hR _) hR _) hR _)
            · exact (((((M5.setCell hbR _).setCell hbR _).setCell hbR _).setCell hbR _).setCell hbR _)
          · skip
            have hA : (Value.slice (some ⟨u1.heap.size, 0, none⟩) 1 1).ownBlock ≠ some (u1.heap.size + 1) := (by simp [Value.ownBlock])
            have hR : (Value.slice (some ⟨u1.heap.size, 0, none⟩) 1 1).ownBlock ≠ some (w.heap.size + 1 + 1) := (by simp [Value.ownBlock]; omega)
            go_upto_region 9 with (go_at_call 52; refine (CG _ M2).mono ?_; rintro e u4 ⟨rfl, L4⟩)
            have M4 := M2.trans (L4.mono M2.size)
            replace y3 := keepCell L4 y3
            have A4 := A2.below L4 A2.lt
            have R4 := RB2.below L4 RB2.lt
            have O4 := O2.below L4
            refine at_world ?_
            intro W4 hW4
            obtain ⟨O5, A5, R5, S5, M5, y5⟩ : Own w.heap.size W4 (.slice (some ⟨u1.heap.size, 0, none⟩) 1 1) [(lo, lo + k1 % 9)] ∧ Blk W4 (u1.heap.size + 1) #[.slice (some ⟨u1.heap.size, 0, none⟩) 1 1, .slice none 0 0, .int .u64 x, .int .u64 (x / 128), .bool false] 56 ∧ Blk W4 (w.heap.size + 1 + 1) #[.slice none 0 0, .slice none 0 0, .int .u64 0, .int .u64 0, .bool false] 56 ∧ Blk W4 u4.heap.size #[.int .u64 s.pn, .int .u64 s.off, .int .u64 s.len, .int .u64 s.nonce, .int .u64 s.time, .bool s.coin, .bool s.used, .int .i64 s.state] 76 ∧ Below w.heap.size w W4 ∧ W4.cell? ⟨w.heap.size + 1, 3, none⟩ = some (.int .u16 k3) := by
              subst hW4
              exact ⟨O4.alloc _, A4.alloc _, R4.alloc _, Blk.new _ _ _, M4.alloc M4.size _, keepCell ((Below.refl u4.heap.size u4).alloc (Nat.le_refl _) _) y3⟩
            clear hW4 y3 O4 A4 R4 L4 CG
            have s5 : W4.cell? ⟨u4.heap.size, 3, none⟩ = some (.int .u64 s.nonce) := S5.cell 3
            obtain ⟨r0, r1, r2, r3, r4⟩ := AckMay.blk5 A5
            obtain ⟨n0, n1, n2, n3, n4⟩ := AckMay.blk5 R5
            have f2 := A5.free 2
            have f5 := R5.free 0
            have f6 := R5.free 1
            have f7 := R5.free 2
            have f8 := R5.free 3
            have f9 := R5.free 4
            have hbA : w.heap.size ≤ u1.heap.size + 1 := by have := M1.size; omega
            have hbR : w.heap.size ≤ w.heap.size + 1 + 1 := by omega
            have nA : w.heap.size + 1 + 1 ≠ u1.heap.size + 1 := by omega
            have nB : u1.heap.size + 1 ≠ w.heap.size + 1 + 1 := by omega
            go_wp2
            all_goals refine bodyPost_ret (results_cell_row rfl _ _ (w.heap.size + 1 + 1) 56 #[.slice (some ⟨u1.heap.size, 0, none⟩) 1 1, .slice none 0 0, .int .u64 x, .int .u64 (x / 128), .bool false] (0, 0) _ rfl (((((R5.set 0 _).set 1 _).set 2 _).set 3 _).set 4 _) Tryz.underlying56 rfl (by kernel_rfl)) rfl ?_
            all_goals refine ⟨(some ⟨u1.heap.size, 0, none⟩), 1, [(lo, lo + k1 % 9)], x, x / 128, rfl, by simp, (own_rowIn (base := w.heap.size) (n := 1) (cap := 1) ?_), fits1 q0 q1 b0, by simp, by simp, good1 q0 q1 b0, ⟨x0, x1⟩, ?_⟩
            · exact (own_set_ne (own_set_ne (own_set_ne (own_set_ne (own_set_ne O5 hR _) hR _) hR _) hR _) hR _)
            · exact (((((M5.setCell hbR _).setCell hbR _).setCell hbR _).setCell hbR _).setCell hbR _)
    · go_upto_region 5 with fail
      have l0 : 0 ≤ low + k0 % 12 ∧ low + k0 % 12 ≤ 1000020 := by omega
      generalize low + k0 % 12 = lo at *
      refine at_world ?_
      intro W hW
      obtain ⟨O2, A2, hB2⟩ : Own w.heap.size W (.slice (some ⟨u1.heap.size, 0, none⟩) 1 1) [(lo, lo + k1 % 9)] ∧ Blk W (u1.heap.size + 1) #[.slice (some ⟨u1.heap.size, 0, none⟩) 1 1, .slice none 0 0, .int .u64 x, .int .u64 (x / 128), .bool false] 56 ∧ Below u1.heap.size u1 W := by
        subst hW
        obtain ⟨_, l2, l3⟩ := laid2 u1 #[.int .u64 lo, .int .u64 (lo + k1 % 9)] #[.slice (some ⟨u1.heap.size, 0, none⟩) 1 1, .slice none 0 0, .int .u64 x, .int .u64 (x / 128), .bool false] 119 56
        exact ⟨(World.ownsRow_lit u1 #[.int .u64 lo, .int .u64 (lo + k1 % 9)] 1 M1.size (by decide) rfl).alloc _, l2, l3⟩
      clear hW
      have M2 := M1.trans (hB2.mono M1.size)
      replace tb := keepCell hB2 tb
      replace y1 := keepCell hB2 y1
      replace y2 := keepCell hB2 y2
      replace y3 := keepCell hB2 y3
      have T2 := T1.below hB2 T1.lt
      obtain ⟨q0, q1⟩ := l0
      obtain ⟨z0, z1, z2, z3, z4⟩ := AckMay.blk5 A2
      have hsz1 := A1.lt
      have RB2 := A1.below hB2 A1.lt
      have CG := fun V (hV : Below w.heap.size w V) => ref_get (h.below hV) (lo + k3 % 10) (by omega) (by omega)
      have hsw := get_words h.ok (lo + k3 % 10)
      generalize hgs : getS g (lo + k3 % 10) = s at *
      cases hok : hasN g (lo + k3 % 10)
      · rw [hok] at CG
        by_cases h2 : 0 < k2 % 3
        · have hne : (Value.slice (some ⟨u1.heap.size, 0, none⟩) 1 1).ownBlock ≠ some (u1.heap.size + 1) := by simp [Value.ownBlock]
          have hne' : ∀ k, k ≤ w.heap.size + 1 + 1 → (Value.slice (some ⟨u1.heap.size, 0, none⟩) 1 1).ownBlock ≠ some k := by
            intro k hk e
            have := hsz1
            simp [Value.ownBlock] at e
            omega
          go_upto_region 8 with (at_builtin; refine wpl_add (x := lo + k1 % 9 + 2 + k2 % 4) (y := lo + k1 % 9 + 2 + k2 % 4 + k2 % 7) rfl (.tmp 60) (.tmp 69) rfl rfl O2 rfl (by simp) (by simp) (by have := hB2.size; have := M1.size; omega) ?_; intro v3 w3 A3; obtain ⟨p3, cap3, hv3, hc3, _, _, _⟩ := A3.own.read; subst hv3; have A3h := Lib.hid A3; have g0 := A3.keep z0 hne; have g1 := (A3.blk A2 hne).free 0; clear A3)
          have A3 := A3h.out
          have hx3 : (Value.slice p3 ([(lo, lo + k1 % 9)] ++ [(lo + k1 % 9 + 2 + k2 % 4, lo + k1 % 9 + 2 + k2 % 4 + k2 % 7)]).length cap3).ownBlock ≠ some (u1.heap.size + 1) := A3.out A2.lt hne
          have hy3 : (Value.slice p3 ([(lo, lo + k1 % 9)] ++ [(lo + k1 % 9 + 2 + k2 % 4, lo + k1 % 9 + 2 + k2 % 4 + k2 % 7)]).length cap3).ownBlock ≠ some (w.heap.size + 1 + 1) := A3.out RB2.lt (hne' _ (by omega))
          clear g0 g1 A3h
          refine at_world ?_
          intro W3 hW3
          obtain ⟨O3, B3, RB3, M3, tb', y3'⟩ : Own w.heap.size W3 (.slice p3 2 cap3) [(lo, lo + k1 % 9), (lo + k1 % 9 + 2 + k2 % 4, lo + k1 % 9 + 2 + k2 % 4 + k2 % 7)] ∧ Blk W3 (u1.heap.size + 1) #[.slice p3 2 cap3, .slice none 0 0, .int .u64 x, .int .u64 (x / 128), .bool false] 56 ∧ Blk W3 (w.heap.size + 1 + 1) #[.slice none 0 0, .slice none 0 0, .int .u64 0, .int .u64 0, .bool false] 56 ∧ Below w.heap.size w W3 ∧ W3.cell? ⟨w.heap.size, 1, none⟩ = some (.pointer (some ⟨b, 0, none⟩)) ∧ W3.cell? ⟨w.heap.size + 1, 3, none⟩ = some (.int .u16 k3) := by
            subst hW3
            have b3 := (A3.blk A2 hne).set 0 (.slice p3 2 cap3)
            exact ⟨own_set_ne A3.own hx3 _, b3, (A3.blk RB2 (hne' _ (by omega))).other (by simp only; omega) _, (A3.below M2 (Nat.le_refl _)).setCell (by have := M1.size; simp only; omega) _, (cell_other (by simp only; omega) _).trans (A3.keep tb (hne' _ (by omega))), (cell_other (by simp only; omega) _).trans (A3.keep y3 (hne' _ (by omega)))⟩
          clear hW3 A3
          replace tb := tb'
          replace y3 := y3'
          have hA : (Value.slice p3 2 cap3).ownBlock ≠ some (u1.heap.size + 1) := hx3
          have hR : (Value.slice p3 2 cap3).ownBlock ≠ some (w.heap.size + 1 + 1) := hy3
          go_upto_region 9 with (go_at_call 52; refine (CG _ M3).mono ?_; rintro e u4 ⟨rfl, L4⟩)
          have M4 := M3.trans (L4.mono M3.size)
          replace y3 := keepCell L4 y3
          have A4 := B3.below L4 B3.lt
          have R4 := RB3.below L4 RB3.lt
          have O4 := O3.below L4
          refine at_world ?_
          intro W4 hW4
          obtain ⟨O5, A5, R5, S5, M5, y5⟩ : Own w.heap.size W4 (.slice p3 2 cap3) [(lo, lo + k1 % 9), (lo + k1 % 9 + 2 + k2 % 4, lo + k1 % 9 + 2 + k2 % 4 + k2 % 7)] ∧ Blk W4 (u1.heap.size + 1) #[.slice p3 2 cap3, .slice none 0 0, .int .u64 x, .int .u64 (x / 128), .bool false] 56 ∧ Blk W4 (w.heap.size + 1 + 1) #[.slice none 0 0, .slice none 0 0, .int .u64 0, .int .u64 0, .bool false] 56 ∧ Blk W4 u4.heap.size #[.int .u64 s.pn, .int .u64 s.off, .int .u64 s.len, .int .u64 s.nonce, .int .u64 s.time, .bool s.coin, .bool s.used, .int .i64 s.state] 76 ∧ Below w.heap.size w W4 ∧ W4.cell? ⟨w.heap.size + 1, 3, none⟩ = some (.int .u16 k3) := by
            subst hW4
            exact ⟨O4.alloc _, A4.alloc _, R4.alloc _, Blk.new _ _ _, M4.alloc M4.size _, keepCell ((Below.refl u4.heap.size u4).alloc (Nat.le_refl _) _) y3⟩
          clear hW4 y3 O4 A4 R4 L4 CG
          have s5 : W4.cell? ⟨u4.heap.size, 3, none⟩ = some (.int .u64 s.nonce) := S5.cell 3
          obtain ⟨r0, r1, r2, r3, r4⟩ := AckMay.blk5 A5
          obtain ⟨n0, n1, n2, n3, n4⟩ := AckMay.blk5 R5
          have f2 := A5.free 2
          have f5 := R5.free 0
          have f6 := R5.free 1
          have f7 := R5.free 2
          have f8 := R5.free 3
          have f9 := R5.free 4
          have hbA : w.heap.size ≤ u1.heap.size + 1 := by have := M1.size; omega
          have hbR : w.heap.size ≤ w.heap.size + 1 + 1 := by omega
          have nA : w.heap.size + 1 + 1 ≠ u1.heap.size + 1 := by omega
          have nB : u1.heap.size + 1 ≠ w.heap.size + 1 + 1 := by omega
          go_wp2
          all_goals refine bodyPost_ret (results_cell_row rfl _ _ (w.heap.size + 1 + 1) 56 #[.slice p3 2 cap3, .slice none 0 0, .int .u64 x, .int .u64 (x / 128), .bool false] (0, 0) _ rfl (((((R5.set 0 _).set 1 _).set 2 _).set 3 _).set 4 _) Tryz.underlying56 rfl (by kernel_rfl)) rfl ?_
          all_goals refine ⟨p3, cap3, [(lo, lo + k1 % 9), (lo + k1 % 9 + 2 + k2 % 4, lo + k1 % 9 + 2 + k2 % 4 + k2 % 7)], x, x / 128, rfl, hc3, (own_rowIn (base := w.heap.size) (n := 2) (cap := cap3) ?_), fits2 q0 q1 b0 c0, by simp, by simp, good2 q0 q1 b0 c0, ⟨x0, x1⟩, ?_⟩
          · exact (own_set_ne (own_set_ne (own_set_ne (own_set_ne (own_set_ne O5 hR _) hR _) hR _) hR _) hR _)
          · exact (((((M5.setCell hbR _).setCell hbR _).setCell hbR _).setCell hbR _).setCell hbR _)
        · skip
          have hA : (Value.slice (some ⟨u1.heap.size, 0, none⟩) 1 1).ownBlock ≠ some (u1.heap.size + 1) := (by simp [Value.ownBlock])
          have hR : (Value.slice (some ⟨u1.heap.size, 0, none⟩) 1 1).ownBlock ≠ some (w.heap.size + 1 + 1) := (by simp [Value.ownBlock]; omega)
          go_upto_region 9 with (go_at_call 52; refine (CG _ M2).mono ?_; rintro e u4 ⟨rfl, L4⟩)
          have M4 := M2.trans (L4.mono M2.size)
          replace y3 := keepCell L4 y3
          have A4 := A2.below L4 A2.lt
          have R4 := RB2.below L4 RB2.lt
          have O4 := O2.below L4
          refine at_world ?_
          intro W4 hW4
          obtain ⟨O5, A5, R5, S5, M5, y5⟩ : Own w.heap.size W4 (.slice (some ⟨u1.heap.size, 0, none⟩) 1 1) [(lo, lo + k1 % 9)] ∧ Blk W4 (u1.heap.size + 1) #[.slice (some ⟨u1.heap.size, 0, none⟩) 1 1, .slice none 0 0, .int .u64 x, .int .u64 (x / 128), .bool false] 56 ∧ Blk W4 (w.heap.size + 1 + 1) #[.slice none 0 0, .slice none 0 0, .int .u64 0, .int .u64 0, .bool false] 56 ∧ Blk W4 u4.heap.size #[.int .u64 s.pn, .int .u64 s.off, .int .u64 s.len, .int .u64 s.nonce, .int .u64 s.time, .bool s.coin, .bool s.used, .int .i64 s.state] 76 ∧ Below w.heap.size w W4 ∧ W4.cell? ⟨w.heap.size + 1, 3, none⟩ = some (.int .u16 k3) := by
            subst hW4
            exact ⟨O4.alloc _, A4.alloc _, R4.alloc _, Blk.new _ _ _, M4.alloc M4.size _, keepCell ((Below.refl u4.heap.size u4).alloc (Nat.le_refl _) _) y3⟩
          clear hW4 y3 O4 A4 R4 L4 CG
          have s5 : W4.cell? ⟨u4.heap.size, 3, none⟩ = some (.int .u64 s.nonce) := S5.cell 3
          obtain ⟨r0, r1, r2, r3, r4⟩ := AckMay.blk5 A5
          obtain ⟨n0, n1, n2, n3, n4⟩ := AckMay.blk5 R5
          have f2 := A5.free 2
          have f5 := R5.free 0
          have f6 := R5.free 1
          have f7 := R5.free 2
          have f8 := R5.free 3
          have f9 := R5.free 4
          have hbA : w.heap.size ≤ u1.heap.size + 1 := by have := M1.size; omega
          have hbR : w.heap.size ≤ w.heap.size + 1 + 1 := by omega
          have nA : w.heap.size + 1 + 1 ≠ u1.heap.size + 1 := by omega
          have nB : u1.heap.size + 1 ≠ w.heap.size + 1 + 1 := by omega
          go_wp2
          all_goals refine bodyPost_ret (results_cell_row rfl _ _ (w.heap.size + 1 + 1) 56 #[.slice (some ⟨u1.heap.size, 0, none⟩) 1 1, .slice none 0 0, .int .u64 x, .int .u64 (x / 128), .bool false] (0, 0) _ rfl (((((R5.set 0 _).set 1 _).set 2 _).set 3 _).set 4 _) Tryz.underlying56 rfl (by kernel_rfl)) rfl ?_
          all_goals refine ⟨(some ⟨u1.heap.size, 0, none⟩), 1, [(lo, lo + k1 % 9)], x, x / 128, rfl, by simp, (own_rowIn (base := w.heap.size) (n := 1) (cap := 1) ?_), fits1 q0 q1 b0, by simp, by simp, good1 q0 q1 b0, ⟨x0, x1⟩, ?_⟩
          · exact (own_set_ne (own_set_ne (own_set_ne (own_set_ne (own_set_ne O5 hR _) hR _) hR _) hR _) hR _)
          · exact (((((M5.setCell hbR _).setCell hbR _).setCell hbR _).setCell hbR _).setCell hbR _)
      · rw [hok] at CG
        by_cases h7 : 0 < k3 % 7
        · by_cases h2 : 0 < k2 % 3
          · have hne : (Value.slice (some ⟨u1.heap.size, 0, none⟩) 1 1).ownBlock ≠ some (u1.heap.size + 1) := by simp [Value.ownBlock]
            have hne' : ∀ k, k ≤ w.heap.size + 1 + 1 → (Value.slice (some ⟨u1.heap.size, 0, none⟩) 1 1).ownBlock ≠ some k := by
              intro k hk e
              have := hsz1
              simp [Value.ownBlock] at e
              omega
            go_upto_region 8 with (at_builtin; refine wpl_add (x := lo + k1 % 9 + 2 + k2 % 4) (y := lo + k1 % 9 + 2 + k2 % 4 + k2 % 7) rfl (.tmp 60) (.tmp 69) rfl rfl O2 rfl (by simp) (by simp) (by have := hB2.size; have := M1.size; omega) ?_; intro v3 w3 A3; obtain ⟨p3, cap3, hv3, hc3, _, _, _⟩ := A3.own.read; subst hv3; have A3h := Lib.hid A3; have g0 := A3.keep z0 hne; have g1 := (A3.blk A2 hne).free 0; clear A3)
            have A3 := A3h.out
            have hx3 : (Value.slice p3 ([(lo, lo + k1 % 9)] ++ [(lo + k1 % 9 + 2 + k2 % 4, lo + k1 % 9 + 2 + k2 % 4 + k2 % 7)]).length cap3).ownBlock ≠ some (u1.heap.size + 1) := A3.out A2.lt hne
            have hy3 : (Value.slice p3 ([(lo, lo + k1 % 9)] ++ [(lo + k1 % 9 + 2 + k2 % 4, lo + k1 % 9 + 2 + k2 % 4 + k2 % 7)]).length cap3).ownBlock ≠ some (w.heap.size + 1 + 1) := A3.out RB2.lt (hne' _ (by omega))
            clear g0 g1 A3h
            refine at_world ?_
            intro W3 hW3
            obtain ⟨O3, B3, RB3, M3, tb', y3'⟩ : Own w.heap.size W3 (.slice p3 2 cap3) [(lo, lo + k1 % 9), (lo + k1 % 9 + 2 + k2 % 4, lo + k1 % 9 + 2 + k2 % 4 + k2 % 7)] ∧ Blk W3 (u1.heap.size + 1) #[.slice p3 2 cap3, .slice none 0 0, .int .u64 x, .int .u64 (x / 128), .bool false] 56 ∧ Blk W3 (w.heap.size + 1 + 1) #[.slice none 0 0, .slice none 0 0, .int .u64 0, .int .u64 0, .bool false] 56 ∧ Below w.heap.size w W3 ∧ W3.cell? ⟨w.heap.size, 1, none⟩ = some (.pointer (some ⟨b, 0, none⟩)) ∧ W3.cell? ⟨w.heap.size + 1, 3, none⟩ = some (.int .u16 k3) := by
              subst hW3
              have b3 := (A3.blk A2 hne).set 0 (.slice p3 2 cap3)
              exact ⟨own_set_ne A3.own hx3 _, b3, (A3.blk RB2 (hne' _ (by omega))).other (by simp only; omega) _, (A3.below M2 (Nat.le_refl _)).setCell (by have := M1.size; simp only; omega) _, (cell_other (by simp only; omega) _).trans (A3.keep tb (hne' _ (by omega))), (cell_other (by simp only; omega) _).trans (A3.keep y3 (hne' _ (by omega)))⟩
            clear hW3 A3
            replace tb := tb'
            replace y3 := y3'
            have hA : (Value.slice p3 2 cap3).ownBlock ≠ some (u1.heap.size + 1) := hx3
            have hR : (Value.slice p3 2 cap3).ownBlock ≠ some (w.heap.size + 1 + 1) := hy3
            go_upto_region 9 with (go_at_call 52; refine (CG _ M3).mono ?_; rintro e u4 ⟨rfl, L4⟩)
            have M4 := M3.trans (L4.mono M3.size)
            replace y3 := keepCell L4 y3
            have A4 := B3.below L4 B3.lt
            have R4 := RB3.below L4 RB3.lt
            have O4 := O3.below L4
            refine at_world ?_
            intro W4 hW4
            obtain ⟨O5, A5, R5, S5, M5, y5⟩ : Own w.heap.size W4 (.slice p3 2 cap3) [(lo, lo + k1 % 9), (lo + k1 % 9 + 2 + k2 % 4, lo + k1 % 9 + 2 + k2 % 4 + k2 % 7)] ∧ Blk W4 (u1.heap.size + 1) #[.slice p3 2 cap3, .slice none 0 0, .int .u64 x, .int .u64 (x / 128), .bool false] 56 ∧ Blk W4 (w.heap.size + 1 + 1) #[.slice none 0 0, .slice none 0 0, .int .u64 0, .int .u64 0, .bool false] 56 ∧ Blk W4 u4.heap.size #[.int .u64 s.pn, .int .u64 s.off, .int .u64 s.len, .int .u64 s.nonce, .int .u64 s.time, .bool s.coin, .bool s.used, .int .i64 s.state] 76 ∧ Below w.heap.size w W4 ∧ W4.cell? ⟨w.heap.size + 1, 3, none⟩ = some (.int .u16 k3) := by
              subst hW4
              exact ⟨O4.alloc _, A4.alloc _, R4.alloc _, Blk.new _ _ _, M4.alloc M4.size _, keepCell ((Below.refl u4.heap.size u4).alloc (Nat.le_refl _) _) y3⟩
            clear hW4 y3 O4 A4 R4 L4 CG
            have s5 : W4.cell? ⟨u4.heap.size, 3, none⟩ = some (.int .u64 s.nonce) := S5.cell 3
            obtain ⟨r0, r1, r2, r3, r4⟩ := AckMay.blk5 A5
            obtain ⟨n0, n1, n2, n3, n4⟩ := AckMay.blk5 R5
            have f2 := A5.free 2
            have f5 := R5.free 0
            have f6 := R5.free 1
            have f7 := R5.free 2
            have f8 := R5.free 3
            have f9 := R5.free 4
            have hbA : w.heap.size ≤ u1.heap.size + 1 := by have := M1.size; omega
            have hbR : w.heap.size ≤ w.heap.size + 1 + 1 := by omega
            have nA : w.heap.size + 1 + 1 ≠ u1.heap.size + 1 := by omega
            have nB : u1.heap.size + 1 ≠ w.heap.size + 1 + 1 := by omega
            go_wp2
            all_goals refine bodyPost_ret (results_cell_row rfl _ _ (w.heap.size + 1 + 1) 56 #[.slice p3 2 cap3, .slice none 0 0, .int .u64 s.nonce, .int .u64 (x / 128), .bool false] (0, 0) _ rfl ((((((R5.other nA _).set 0 _).set 1 _).set 2 _).set 3 _).set 4 _) Tryz.underlying56 rfl (by kernel_rfl)) rfl ?_
            all_goals refine ⟨p3, cap3, [(lo, lo + k1 % 9), (lo + k1 % 9 + 2 + k2 % 4, lo + k1 % 9 + 2 + k2 % 4 + k2 % 7)], s.nonce, x / 128, rfl, hc3, (own_rowIn (base := w.heap.size) (n := 2) (cap := cap3) ?_), fits2 q0 q1 b0 c0, by simp, by simp, good2 q0 q1 b0 c0, (by unfold Words at hsw; omega), ?_⟩
            · exact (own_set_ne (own_set_ne (own_set_ne (own_set_ne (own_set_ne (own_set_ne O5 hA _) hR _) hR _) hR _) hR _) hR _)
            · exact ((((((M5.setCell hbA _).setCell hbR _).setCell hbR _).setCell hbR _).setCell hbR _).setCell hbR _)
          · skip
            have hA : (Value.slice (some ⟨u1.heap.size, 0, none⟩) 1 1).ownBlock ≠ some (u1.heap.size + 1) := (by simp [Value.ownBlock])
            have hR : (Value.slice (some ⟨u1.heap.size, 0, none⟩) 1 1).ownBlock ≠ some (w.heap.size + 1 + 1) := (by simp [Value.ownBlock]; omega)
            go_upto_region 9 with (go_at_call 52; refine (CG _ M2).mono ?_; rintro e u4 ⟨rfl, L4⟩)
            have M4 := M2.trans (L4.mono M2.size)
            replace y3 := keepCell L4 y3
            have A4 := A2.below L4 A2.lt
            have R4 := RB2.below L4 RB2.lt
            have O4 := O2.below L4
            refine at_world ?_
            intro W4 hW4
            obtain ⟨O5, A5, R5, S5, M5, y5⟩ : Own w.heap.size W4 (.slice (some ⟨u1.heap.size, 0, none⟩) 1 1) [(lo, lo + k1 % 9)] ∧ Blk W4 (u1.heap.size + 1) #[.slice (some ⟨u1.heap.size, 0, none⟩) 1 1, .slice none 0 0, .int .u64 x, .int .u64 (x / 128), .bool false] 56 ∧ Blk W4 (w.heap.size + 1 + 1) #[.slice none 0 0, .slice none 0 0, .int .u64 0, .int .u64 0, .bool false] 56 ∧ Blk W4 u4.heap.size #[.int .u64 s.pn, .int .u64 s.off, .int .u64 s.len, .int .u64 s.nonce, .int .u64 s.time, .bool s.coin, .bool s.used, .int .i64 s.state] 76 ∧ Below w.heap.size w W4 ∧ W4.cell? ⟨w.heap.size + 1, 3, none⟩ = some (.int .u16 k3) := by
              subst hW4
              exact ⟨O4.alloc _, A4.alloc _, R4.alloc _, Blk.new _ _ _, M4.alloc M4.size _, keepCell ((Below.refl u4.heap.size u4).alloc (Nat.le_refl _) _) y3⟩
            clear hW4 y3 O4 A4 R4 L4 CG
            have s5 : W4.cell? ⟨u4.heap.size, 3, none⟩ = some (.int .u64 s.nonce) := S5.cell 3
            obtain ⟨r0, r1, r2, r3, r4⟩ := AckMay.blk5 A5
            obtain ⟨n0, n1, n2, n3, n4⟩ := AckMay.blk5 R5
            have f2 := A5.free 2
            have f5 := R5.free 0
            have f6 := R5.free 1
            have f7 := R5.free 2
            have f8 := R5.free 3
            have f9 := R5.free 4
            have hbA : w.heap.size ≤ u1.heap.size + 1 := by have := M1.size; omega
            have hbR : w.heap.size ≤ w.heap.size + 1 + 1 := by omega
            have nA : w.heap.size + 1 + 1 ≠ u1.heap.size + 1 := by omega
            have nB : u1.heap.size + 1 ≠ w.heap.size + 1 + 1 := by omega
            go_wp2
            all_goals refine bodyPost_ret (results_cell_row rfl _ _ (w.heap.size + 1 + 1) 56 #[.slice (some ⟨u1.heap.size, 0, none⟩) 1 1, .slice none 0 0, .int .u64 s.nonce, .int .u64 (x / 128), .bool false] (0, 0) _ rfl ((((((R5.other nA _).set 0 _).set 1 _).set 2 _).set 3 _).set 4 _) Tryz.underlying56 rfl (by kernel_rfl)) rfl ?_
            all_goals refine ⟨(some ⟨u1.heap.size, 0, none⟩), 1, [(lo, lo + k1 % 9)], s.nonce, x / 128, rfl, by simp, (own_rowIn (base := w.heap.size) (n := 1) (cap := 1) ?_), fits1 q0 q1 b0, by simp, by simp, good1 q0 q1 b0, (by unfold Words at hsw; omega), ?_⟩
            · exact (own_set_ne (own_set_ne (own_set_ne (own_set_ne (own_set_ne (own_set_ne O5 hA _) hR _) hR _) hR _) hR _) hR _)
            · exact ((((((M5.setCell hbA _).setCell hbR _).setCell hbR _).setCell hbR _).setCell hbR _).setCell hbR _)
        · by_cases h2 : 0 < k2 % 3
          · have hne : (Value.slice (some ⟨u1.heap.size, 0, none⟩) 1 1).ownBlock ≠ some (u1.heap.size + 1) := by simp [Value.ownBlock]
            have hne' : ∀ k, k ≤ w.heap.size + 1 + 1 → (Value.slice (some ⟨u1.heap.size, 0, none⟩) 1 1).ownBlock ≠ some k := by
              intro k hk e
              have := hsz1
              simp [Value.ownBlock] at e
              omega
            go_upto_region 8 with (at_builtin; refine wpl_add (x := lo + k1 % 9 + 2 + k2 % 4) (y := lo + k1 % 9 + 2 + k2 % 4 + k2 % 7) rfl (.tmp 60) (.tmp 69) rfl rfl O2 rfl (by simp) (by simp) (by have := hB2.size; have := M1.size; omega) ?_; intro v3 w3 A3; obtain ⟨p3, cap3, hv3, hc3, _, _, _⟩ := A3.own.read; subst hv3; have A3h := Lib.hid A3; have g0 := A3.keep z0 hne; have g1 := (A3.blk A2 hne).free 0; clear A3)
            have A3 := A3h.out
            have hx3 : (Value.slice p3 ([(lo, lo + k1 % 9)] ++ [(lo + k1 % 9 + 2 + k2 % 4, lo + k1 % 9 + 2 + k2 % 4 + k2 % 7)]).length cap3).ownBlock ≠ some (u1.heap.size + 1) := A3.out A2.lt hne
            have hy3 : (Value.slice p3 ([(lo, lo + k1 % 9)] ++ [(lo + k1 % 9 + 2 + k2 % 4, lo + k1 % 9 + 2 + k2 % 4 + k2 % 7)]).length cap3).ownBlock ≠ some (w.heap.size + 1 + 1) := A3.out RB2.lt (hne' _ (by omega))
            clear g0 g1 A3h
            refine at_world ?_
            intro W3 hW3
            obtain ⟨O3, B3, RB3, M3, tb', y3'⟩ : Own w.heap.size W3 (.slice p3 2 cap3) [(lo, lo + k1 % 9), (lo + k1 % 9 + 2 + k2 % 4, lo + k1 % 9 + 2 + k2 % 4 + k2 % 7)] ∧ Blk W3 (u1.heap.size + 1) #[.slice p3 2 cap3, .slice none 0 0, .int .u64 x, .int .u64 (x / 128), .bool false] 56 ∧ Blk W3 (w.heap.size + 1 + 1) #[.slice none 0 0, .slice none 0 0, .int .u64 0, .int .u64 0, .bool false] 56 ∧ Below w.heap.size w W3 ∧ W3.cell? ⟨w.heap.size, 1, none⟩ = some (.pointer (some ⟨b, 0, none⟩)) ∧ W3.cell? ⟨w.heap.size + 1, 3, none⟩ = some (.int .u16 k3) := by
              subst hW3
              have b3 := (A3.blk A2 hne).set 0 (.slice p3 2 cap3)
              exact ⟨own_set_ne A3.own hx3 _, b3, (A3.blk RB2 (hne' _ (by omega))).other (by simp only; omega) _, (A3.below M2 (Nat.le_refl _)).setCell (by have := M1.size; simp only; omega) _, (cell_other (by simp only; omega) _).trans (A3.keep tb (hne' _ (by omega))), (cell_other (by simp only; omega) _).trans (A3.keep y3 (hne' _ (by omega)))⟩
            clear hW3 A3
            replace tb := tb'
            replace y3 := y3'
            have hA : (Value.slice p3 2 cap3).ownBlock ≠ some (u1.heap.size + 1) := hx3
            have hR : (Value.slice p3 2 cap3).ownBlock ≠ some (w.heap.size + 1 + 1) := hy3
            go_upto_region 9 with (go_at_call 52; refine (CG _ M3).mono ?_; rintro e u4 ⟨rfl, L4⟩)
            have M4 := M3.trans (L4.mono M3.size)
            replace y3 := keepCell L4 y3
            have A4 := B3.below L4 B3.lt
            have R4 := RB3.below L4 RB3.lt
            have O4 := O3.below L4
            refine at_world ?_
            intro W4 hW4
            obtain ⟨O5, A5, R5, S5, M5, y5⟩ : Own w.heap.size W4 (.slice p3 2 cap3) [(lo, lo + k1 % 9), (lo + k1 % 9 + 2 + k2 % 4, lo + k1 % 9 + 2 + k2 % 4 + k2 % 7)] ∧ Blk W4 (u1.heap.size + 1) #[.slice p3 2 cap3, .slice none 0 0, .int .u64 x, .int .u64 (x / 128), .bool false] 56 ∧ Blk W4 (w.heap.size + 1 + 1) #[.slice none 0 0, .slice none 0 0, .int .u64 0, .int .u64 0, .bool false] 56 ∧ Blk W4 u4.heap.size #[.int .u64 s.pn, .int .u64 s.off, .int .u64 s.len, .int .u64 s.nonce, .int .u64 s.time, .bool s.coin, .bool s.used, .int .i64 s.state] 76 ∧ Below w.heap.size w W4 ∧ W4.cell? ⟨w.heap.size + 1, 3, none⟩ = some (.int .u16 k3) := by
              subst hW4
              exact ⟨O4.alloc _, A4.alloc _, R4.alloc _, Blk.new _ _ _, M4.alloc M4.size _, keepCell ((Below.refl u4.heap.size u4).alloc (Nat.le_refl _) _) y3⟩
            clear hW4 y3 O4 A4 R4 L4 CG
            have s5 : W4.cell? ⟨u4.heap.size, 3, none⟩ = some (.int .u64 s.nonce) := S5.cell 3
            obtain ⟨r0, r1, r2, r3, r4⟩ := AckMay.blk5 A5
            obtain ⟨n0, n1, n2, n3, n4⟩ := AckMay.blk5 R5
            have f2 := A5.free 2
            have f5 := R5.free 0
            have f6 := R5.free 1
            have f7 := R5.free 2
            have f8 := R5.free 3
            have f9 := R5.free 4
            have hbA : w.heap.size ≤ u1.heap.size + 1 := by have := M1.size; omega
            have hbR : w.heap.size ≤ w.heap.size + 1 + 1 := by omega
            have nA : w.heap.size + 1 + 1 ≠ u1.heap.size + 1 := by omega
            have nB : u1.heap.size + 1 ≠ w.heap.size + 1 + 1 := by omega
            go_wp2
            all_goals refine bodyPost_ret (results_cell_row rfl _ _ (w.heap.size + 1 + 1) 56 #[.slice p3 2 cap3, .slice none 0 0, .int .u64 x, .int .u64 (x / 128), .bool false] (0, 0) _ rfl (((((R5.set 0 _).set 1 _).set 2 _).set 3 _).set 4 _) Tryz.underlying56 rfl (by kernel_rfl)) rfl ?_
            all_goals refine ⟨p3, cap3, [(lo, lo + k1 % 9), (lo + k1 % 9 + 2 + k2 % 4, lo + k1 % 9 + 2 + k2 % 4 + k2 % 7)], x, x / 128, rfl, hc3, (own_rowIn (base := w.heap.size) (n := 2) (cap := cap3) ?_), fits2 q0 q1 b0 c0, by simp, by simp, good2 q0 q1 b0 c0, ⟨x0, x1⟩, ?_⟩
            · exact (own_set_ne (own_set_ne (own_set_ne (own_set_ne (own_set_ne O5 hR _) hR _) hR _) hR _) hR _)
            · exact (((((M5.setCell hbR _).setCell hbR _).setCell hbR _).setCell hbR _).setCell hbR _)
          · skip
            have hA : (Value.slice (some ⟨u1.heap.size, 0, none⟩) 1 1).ownBlock ≠ some (u1.heap.size + 1) := (by simp [Value.ownBlock])
            have hR : (Value.slice (some ⟨u1.heap.size, 0, none⟩) 1 1).ownBlock ≠ some (w.heap.size + 1 + 1) := (by simp [Value.ownBlock]; omega)
            go_upto_region 9 with (go_at_call 52; refine (CG _ M2).mono ?_; rintro e u4 ⟨rfl, L4⟩)
            have M4 := M2.trans (L4.mono M2.size)
            replace y3 := keepCell L4 y3
            have A4 := A2.below L4 A2.lt
            have R4 := RB2.below L4 RB2.lt
            have O4 := O2.below L4
            refine at_world ?_
            intro W4 hW4
            obtain ⟨O5, A5, R5, S5, M5, y5⟩ : Own w.heap.size W4 (.slice (some ⟨u1.heap.size, 0, none⟩) 1 1) [(lo, lo + k1 % 9)] ∧ Blk W4 (u1.heap.size + 1) #[.slice (some ⟨u1.heap.size, 0, none⟩) 1 1, .slice none 0 0, .int .u64 x, .int .u64 (x / 128), .bool false] 56 ∧ Blk W4 (w.heap.size + 1 + 1) #[.slice none 0 0, .slice none 0 0, .int .u64 0, .int .u64 0, .bool false] 56 ∧ Blk W4 u4.heap.size #[.int .u64 s.pn, .int .u64 s.off, .int .u64 s.len, .int .u64 s.nonce, .int .u64 s.time, .bool s.coin, .bool s.used, .int .i64 s.state] 76 ∧ Below w.heap.size w W4 ∧ W4.cell? ⟨w.heap.size + 1, 3, none⟩ = some (.int .u16 k3) := by
              subst hW4
              exact ⟨O4.alloc _, A4.alloc _, R4.alloc _, Blk.new _ _ _, M4.alloc M4.size _, keepCell ((Below.refl u4.heap.size u4).alloc (Nat.le_refl _) _) y3⟩
            clear hW4 y3 O4 A4 R4 L4 CG
            have s5 : W4.cell? ⟨u4.heap.size, 3, none⟩ = some (.int .u64 s.nonce) := S5.cell 3
            obtain ⟨r0, r1, r2, r3, r4⟩ := AckMay.blk5 A5
            obtain ⟨n0, n1, n2, n3, n4⟩ := AckMay.blk5 R5
            have f2 := A5.free 2
            have f5 := R5.free 0
            have f6 := R5.free 1
            have f7 := R5.free 2
            have f8 := R5.free 3
            have f9 := R5.free 4
            have hbA : w.heap.size ≤ u1.heap.size + 1 := by have := M1.size; omega
            have hbR : w.heap.size ≤ w.heap.size + 1 + 1 := by omega
            have nA : w.heap.size + 1 + 1 ≠ u1.heap.size + 1 := by omega
            have nB : u1.heap.size + 1 ≠ w.heap.size + 1 + 1 := by omega
            go_wp2
            all_goals refine bodyPost_ret (results_cell_row rfl _ _ (w.heap.size + 1 + 1) 56 #[.slice (some ⟨u1.heap.size, 0, none⟩) 1 1, .slice none 0 0, .int .u64 x, .int .u64 (x / 128), .bool false] (0, 0) _ rfl (((((R5.set 0 _).set 1 _).set 2 _).set 3 _).set 4 _) Tryz.underlying56 rfl (by kernel_rfl)) rfl ?_
            all_goals refine ⟨(some ⟨u1.heap.size, 0, none⟩), 1, [(lo, lo + k1 % 9)], x, x / 128, rfl, by simp, (own_rowIn (base := w.heap.size) (n := 1) (cap := 1) ?_), fits1 q0 q1 b0, by simp, by simp, good1 q0 q1 b0, ⟨x0, x1⟩, ?_⟩
            · exact (own_set_ne (own_set_ne (own_set_ne (own_set_ne (own_set_ne O5 hR _) hR _) hR _) hR _) hR _)
            · exact (((((M5.setCell hbR _).setCell hbR _).setCell hbR _).setCell hbR _).setCell hbR _)
  · go_upto_region 5 with fail
    have l0 : 0 ≤ low + k0 % 12 ∧ low + k0 % 12 ≤ 1000020 := by omega
    generalize low + k0 % 12 = lo at *
    refine at_world ?_
    intro W hW
    obtain ⟨O2, A2, hB2⟩ : Own w.heap.size W (.slice (some ⟨u1.heap.size, 0, none⟩) 1 1) [(lo, lo + k1 % 9)] ∧ Blk W (u1.heap.size + 1) #[.slice (some ⟨u1.heap.size, 0, none⟩) 1 1, .slice none 0 0, .int .u64 x, .int .u64 (x / 128), .bool false] 56 ∧ Below u1.heap.size u1 W := by
      subst hW
      obtain ⟨_, l2, l3⟩ := laid2 u1 #[.int .u64 lo, .int .u64 (lo + k1 % 9)] #[.slice (some ⟨u1.heap.size, 0, none⟩) 1 1, .slice none 0 0, .int .u64 x, .int .u64 (x / 128), .bool false] 119 56
      exact ⟨(World.ownsRow_lit u1 #[.int .u64 lo, .int .u64 (lo + k1 % 9)] 1 M1.size (by decide) rfl).alloc _, l2, l3⟩
    clear hW
    have M2 := M1.trans (hB2.mono M1.size)
    replace tb := keepCell hB2 tb
    replace y1 := keepCell hB2 y1
    replace y2 := keepCell hB2 y2
    replace y3 := keepCell hB2 y3
    have T2 := T1.below hB2 T1.lt
    obtain ⟨q0, q1⟩ := l0
    obtain ⟨z0, z1, z2, z3, z4⟩ := AckMay.blk5 A2
    have hsz1 := A1.lt
    have RB2 := A1.below hB2 A1.lt
    have CG := fun V (hV : Below w.heap.size w V) => ref_get (h.below hV) (lo + k3 % 10) (by omega) (by omega)
    have hsw := get_words h.ok (lo + k3 % 10)
    generalize hgs : getS g (lo + k3 % 10) = s at *
    cases hok : hasN g (lo + k3 % 10)
    · rw [hok] at CG
      by_cases h2 : 0 < k2 % 3
      · have hne : (Value.slice (some ⟨u1.heap.size, 0, none⟩) 1 1).ownBlock ≠ some (u1.heap.size + 1) := by simp [Value.ownBlock]
        have hne' : ∀ k, k ≤ w.heap.size + 1 + 1 → (Value.slice (some ⟨u1.heap.size, 0, none⟩) 1 1).ownBlock ≠ some k := by
          intro k hk e
          have := hsz1
          simp [Value.ownBlock] at e
          omega
        go_upto_region 8 with (at_builtin; refine wpl_add (x := lo + k1 % 9 + 2 + k2 % 4) (y := lo + k1 % 9 + 2 + k2 % 4 + k2 % 7) rfl (.tmp 60) (.tmp 69) rfl rfl O2 rfl (by simp) (by simp) (by have := hB2.size; have := M1.size; omega) ?_; intro v3 w3 A3; obtain ⟨p3, cap3, hv3, hc3, _, _, _⟩ := A3.own.read; subst hv3; have A3h := Lib.hid A3; have g0 := A3.keep z0 hne; have g1 := (A3.blk A2 hne).free 0; clear A3)
        have A3 := A3h.out
        have hx3 : (Value.slice p3 ([(lo, lo + k1 % 9)] ++ [(lo + k1 % 9 + 2 + k2 % 4, lo + k1 % 9 + 2 + k2 % 4 + k2 % 7)]).length cap3).ownBlock ≠ some (u1.heap.size + 1) := A3.out A2.lt hne
        have hy3 : (Value.slice p3 ([(lo, lo + k1 % 9)] ++ [(lo + k1 % 9 + 2 + k2 % 4, lo + k1 % 9 + 2 + k2 % 4 + k2 % 7)]).length cap3).ownBlock ≠ some (w.heap.size + 1 + 1) := A3.out RB2.lt (hne' _ (by omega))
        clear g0 g1 A3h
        refine at_world ?_
        intro W3 hW3
        obtain ⟨O3, B3, RB3, M3, tb', y3'⟩ : Own w.heap.size W3 (.slice p3 2 cap3) [(lo, lo + k1 % 9), (lo + k1 % 9 + 2 + k2 % 4, lo + k1 % 9 + 2 + k2 % 4 + k2 % 7)] ∧ Blk W3 (u1.heap.size + 1) #[.slice p3 2 cap3, .slice none 0 0, .int .u64 x, .int .u64 (x / 128), .bool false] 56 ∧ Blk W3 (w.heap.size + 1 + 1) #[.slice none 0 0, .slice none 0 0, .int .u64 0, .int .u64 0, .bool false] 56 ∧ Below w.heap.size w W3 ∧ W3.cell? ⟨w.heap.size, 1, none⟩ = some (.pointer (some ⟨b, 0, none⟩)) ∧ W3.cell? ⟨w.heap.size + 1, 3, none⟩ = some (.int .u16 k3) := by
          subst hW3
          have b3 := (A3.blk A2 hne).set 0 (.slice p3 2 cap3)
          exact ⟨own_set_ne A3.own hx3 _, b3, (A3.blk RB2 (hne' _ (by omega))).other (by simp only; omega) _, (A3.below M2 (Nat.le_refl _)).setCell (by have := M1.size; simp only; omega) _, (cell_other (by simp only; omega) _).trans (A3.keep tb (hne' _ (by omega))), (cell_other (by simp only; omega) _).trans (A3.keep y3 (hne' _ (by omega)))⟩
        clear hW3 A3
        replace tb := tb'
        replace y3 := y3'
        have hA : (Value.slice p3 2 cap3).ownBlock ≠ some (u1.heap.size + 1) := hx3
        have hR : (Value.slice p3 2 cap3).ownBlock ≠ some (w.heap.size + 1 + 1) := hy3
        go_upto_region 9 with (go_at_call 52; refine (CG _ M3).mono ?_; rintro e u4 ⟨rfl, L4⟩)
        have M4 := M3.trans (L4.mono M3.size)
        replace y3 := keepCell L4 y3
        have A4 := B3.below L4 B3.lt
        have R4 := RB3.below L4 RB3.lt
        have O4 := O3.below L4
        refine at_world ?_
        intro W4 hW4
        obtain ⟨O5, A5, R5, S5, M5, y5⟩ : Own w.heap.size W4 (.slice p3 2 cap3) [(lo, lo + k1 % 9), (lo + k1 % 9 + 2 + k2 % 4, lo + k1 % 9 + 2 + k2 % 4 + k2 % 7)] ∧ Blk W4 (u1.heap.size + 1) #[.slice p3 2 cap3, .slice none 0 0, .int .u64 x, .int .u64 (x / 128), .bool false] 56 ∧ Blk W4 (w.heap.size + 1 + 1) #[.slice none 0 0, .slice none 0 0, .int .u64 0, .int .u64 0, .bool false] 56 ∧ Blk W4 u4.heap.size #[.int .u64 s.pn, .int .u64 s.off, .int .u64 s.len, .int .u64 s.nonce, .int .u64 s.time, .bool s.coin, .bool s.used, .int .i64 s.state] 76 ∧ Below w.heap.size w W4 ∧ W4.cell? ⟨w.heap.size + 1, 3, none⟩ = some (.int .u16 k3) := by
          subst hW4
          exact ⟨O4.alloc _, A4.alloc _, R4.alloc _, Blk.new _ _ _, M4.alloc M4.size _, keepCell ((Below.refl u4.heap.size u4).alloc (Nat.le_refl _) _) y3⟩
        clear hW4 y3 O4 A4 R4 L4 CG
        have s5 : W4.cell? ⟨u4.heap.size, 3, none⟩ = some (.int .u64 s.nonce) := S5.cell 3
        obtain ⟨r0, r1, r2, r3, r4⟩ := AckMay.blk5 A5
        obtain ⟨n0, n1, n2, n3, n4⟩ := AckMay.blk5 R5
        have f2 := A5.free 2
        have f5 := R5.free 0
        have f6 := R5.free 1
        have f7 := R5.free 2
        have f8 := R5.free 3
        have f9 := R5.free 4
        have hbA : w.heap.size ≤ u1.heap.size + 1 := by have := M1.size; omega
        have hbR : w.heap.size ≤ w.heap.size + 1 + 1 := by omega
        have nA : w.heap.size + 1 + 1 ≠ u1.heap.size + 1 := by omega
        have nB : u1.heap.size + 1 ≠ w.heap.size + 1 + 1 := by omega
        go_wp2
        all_goals refine bodyPost_ret (results_cell_row rfl _ _ (w.heap.size + 1 + 1) 56 #[.slice p3 2 cap3, .slice none 0 0, .int .u64 x, .int .u64 (x / 128), .bool false] (0, 0) _ rfl (((((R5.set 0 _).set 1 _).set 2 _).set 3 _).set 4 _) Tryz.underlying56 rfl (by kernel_rfl)) rfl ?_
        all_goals refine ⟨p3, cap3, [(lo, lo + k1 % 9), (lo + k1 % 9 + 2 + k2 % 4, lo + k1 % 9 + 2 + k2 % 4 + k2 % 7)], x, x / 128, rfl, hc3, (own_rowIn (base := w.heap.size) (n := 2) (cap := cap3) ?_), fits2 q0 q1 b0 c0, by simp, by simp, good2 q0 q1 b0 c0, ⟨x0, x1⟩, ?_⟩
        · exact (own_set_ne (own_set_ne (own_set_ne (own_set_ne (own_set_ne O5 hR _) hR _) hR _) hR _) hR _)
        · exact (((((M5.setCell hbR _).setCell hbR _).setCell hbR _).setCell hbR _).setCell hbR _)
      · skip
        have hA : (Value.slice (some ⟨u1.heap.size, 0, none⟩) 1 1).ownBlock ≠ some (u1.heap.size + 1) := (by simp [Value.ownBlock])
        have hR : (Value.slice (some ⟨u1.heap.size, 0, none⟩) 1 1).ownBlock ≠ some (w.heap.size + 1 + 1) := (by simp [Value.ownBlock]; omega)
        go_upto_region 9 with (go_at_call 52; refine (CG _ M2).mono ?_; rintro e u4 ⟨rfl, L4⟩)
        have M4 := M2.trans (L4.mono M2.size)
        replace y3 := keepCell L4 y3
        have A4 := A2.below L4 A2.lt
        have R4 := RB2.below L4 RB2.lt
        have O4 := O2.below L4
        refine at_world ?_
        intro W4 hW4
        obtain ⟨O5, A5, R5, S5, M5, y5⟩ : Own w.heap.size W4 (.slice (some ⟨u1.heap.size, 0, none⟩) 1 1) [(lo, lo + k1 % 9)] ∧ Blk W4 (u1.heap.size + 1) #[.slice (some ⟨u1.heap.size, 0, none⟩) 1 1, .slice none 0 0, .int .u64 x, .int .u64 (x / 128), .bool false] 56 ∧ Blk W4 (w.heap.size + 1 + 1) #[.slice none 0 0, .slice none 0 0, .int .u64 0, .int .u64 0, .bool false] 56 ∧ Blk W4 u4.heap.size #[.int .u64 s.pn, .int .u64 s.off, .int .u64 s.len, .int .u64 s.nonce, .int .u64 s.time, .bool s.coin, .bool s.used, .int .i64 s.state] 76 ∧ Below w.heap.size w W4 ∧ W4.cell? ⟨w.heap.size + 1, 3, none⟩ = some (.int .u16 k3) := by
          subst hW4
          exact ⟨O4.alloc _, A4.alloc _, R4.alloc _, Blk.new _ _ _, M4.alloc M4.size _, keepCell ((Below.refl u4.heap.size u4).alloc (Nat.le_refl _) _) y3⟩
        clear hW4 y3 O4 A4 R4 L4 CG
        have s5 : W4.cell? ⟨u4.heap.size, 3, none⟩ = some (.int .u64 s.nonce) := S5.cell 3
        obtain ⟨r0, r1, r2, r3, r4⟩ := AckMay.blk5 A5
        obtain ⟨n0, n1, n2, n3, n4⟩ := AckMay.blk5 R5
        have f2 := A5.free 2
        have f5 := R5.free 0
        have f6 := R5.free 1
        have f7 := R5.free 2
        have f8 := R5.free 3
        have f9 := R5.free 4
        have hbA : w.heap.size ≤ u1.heap.size + 1 := by have := M1.size; omega
        have hbR : w.heap.size ≤ w.heap.size + 1 + 1 := by omega
        have nA : w.heap.size + 1 + 1 ≠ u1.heap.size + 1 := by omega
        have nB : u1.heap.size + 1 ≠ w.heap.size + 1 + 1 := by omega
        go_wp2
        all_goals refine bodyPost_ret (results_cell_row rfl _ _ (w.heap.size + 1 + 1) 56 #[.slice (some ⟨u1.heap.size, 0, none⟩) 1 1, .slice none 0 0, .int .u64 x, .int .u64 (x / 128), .bool false] (0, 0) _ rfl (((((R5.set 0 _).set 1 _).set 2 _).set 3 _).set 4 _) Tryz.underlying56 rfl (by kernel_rfl)) rfl ?_
        all_goals refine ⟨(some ⟨u1.heap.size, 0, none⟩), 1, [(lo, lo + k1 % 9)], x, x / 128, rfl, by simp, (own_rowIn (base := w.heap.size) (n := 1) (cap := 1) ?_), fits1 q0 q1 b0, by simp, by simp, good1 q0 q1 b0, ⟨x0, x1⟩, ?_⟩
        · exact (own_set_ne (own_set_ne (own_set_ne (own_set_ne (own_set_ne O5 hR _) hR _) hR _) hR _) hR _)
        · exact (((((M5.setCell hbR _).setCell hbR _).setCell hbR _).setCell hbR _).setCell hbR _)
    · rw [hok] at CG
      by_cases h7 : 0 < k3 % 7
      · by_cases h2 : 0 < k2 % 3
        · have hne : (Value.slice (some ⟨u1.heap.size, 0, none⟩) 1 1).ownBlock ≠ some (u1.heap.size + 1) := by simp [Value.ownBlock]
          have hne' : ∀ k, k ≤ w.heap.size + 1 + 1 → (Value.slice (some ⟨u1.heap.size, 0, none⟩) 1 1).ownBlock ≠ some k := by
            intro k hk e
            have := hsz1
            simp [Value.ownBlock] at e
            omega
          go_upto_region 8 with (at_builtin; refine wpl_add (x := lo + k1 % 9 + 2 + k2 % 4) (y := lo + k1 % 9 + 2 + k2 % 4 + k2 % 7) rfl (.tmp 60) (.tmp 69) rfl rfl O2 rfl (by simp) (by simp) (by have := hB2.size; have := M1.size; omega) ?_; intro v3 w3 A3; obtain ⟨p3, cap3, hv3, hc3, _, _, _⟩ := A3.own.read; subst hv3; have A3h := Lib.hid A3; have g0 := A3.keep z0 hne; have g1 := (A3.blk A2 hne).free 0; clear A3)
          have A3 := A3h.out
          have hx3 : (Value.slice p3 ([(lo, lo + k1 % 9)] ++ [(lo + k1 % 9 + 2 + k2 % 4, lo + k1 % 9 + 2 + k2 % 4 + k2 % 7)]).length cap3).ownBlock ≠ some (u1.heap.size + 1) := A3.out A2.lt hne
          have hy3 : (Value.slice p3 ([(lo, lo + k1 % 9)] ++ [(lo + k1 % 9 + 2 + k2 % 4, lo + k1 % 9 + 2 + k2 % 4 + k2 % 7)]).length cap3).ownBlock ≠ some (w.heap.size + 1 + 1) := A3.out RB2.lt (hne' _ (by omega))
          clear g0 g1 A3h
          refine at_world ?_
          intro W3 hW3
          obtain ⟨O3, B3, RB3, M3, tb', y3'⟩ : Own w.heap.size W3 (.slice p3 2 cap3) [(lo, lo + k1 % 9), (lo + k1 % 9 + 2 + k2 % 4, lo + k1 % 9 + 2 + k2 % 4 + k2 % 7)] ∧ Blk W3 (u1.heap.size + 1) #[.slice p3 2 cap3, .slice none 0 0, .int .u64 x, .int .u64 (x / 128), .bool false] 56 ∧ Blk W3 (w.heap.size + 1 + 1) #[.slice none 0 0, .slice none 0 0, .int .u64 0, .int .u64 0, .bool false] 56 ∧ Below w.heap.size w W3 ∧ W3.cell? ⟨w.heap.size, 1, none⟩ = some (.pointer (some ⟨b, 0, none⟩)) ∧ W3.cell? ⟨w.heap.size + 1, 3, none⟩ = some (.int .u16 k3) := by
            subst hW3
            have b3 := (A3.blk A2 hne).set 0 (.slice p3 2 cap3)
            exact ⟨own_set_ne A3.own hx3 _, b3, (A3.blk RB2 (hne' _ (by omega))).other (by simp only; omega) _, (A3.below M2 (Nat.le_refl _)).setCell (by have := M1.size; simp only; omega) _, (cell_other (by simp only; omega) _).trans (A3.keep tb (hne' _ (by omega))), (cell_other (by simp only; omega) _).trans (A3.keep y3 (hne' _ (by omega)))⟩
          clear hW3 A3
          replace tb := tb'
          replace y3 := y3'
          have hA : (Value.slice p3 2 cap3).ownBlock ≠ some (u1.heap.size + 1) := hx3
          have hR : (Value.slice p3 2 cap3).ownBlock ≠ some (w.heap.size + 1 + 1) := hy3
          go_upto_region 9 with (go_at_call 52; refine (CG _ M3).mono ?_; rintro e u4 ⟨rfl, L4⟩)
          have M4 := M3.trans (L4.mono M3.size)
          replace y3 := keepCell L4 y3
          have A4 := B3.below L4 B3.lt
          have R4 := RB3.below L4 RB3.lt
          have O4 := O3.below L4
          refine at_world ?_
          intro W4 hW4
          obtain ⟨O5, A5, R5, S5, M5, y5⟩ : Own w.heap.size W4 (.slice p3 2 cap3) [(lo, lo + k1 % 9), (lo + k1 % 9 + 2 + k2 % 4, lo + k1 % 9 + 2 + k2 % 4 + k2 % 7)] ∧ Blk W4 (u1.heap.size + 1) #[.slice p3 2 cap3, .slice none 0 0, .int .u64 x, .int .u64 (x / 128), .bool false] 56 ∧ Blk W4 (w.heap.size + 1 + 1) #[.slice none 0 0, .slice none 0 0, .int .u64 0, .int .u64 0, .bool false] 56 ∧ Blk W4 u4.heap.size #[.int .u64 s.pn, .int .u64 s.off, .int .u64 s.len, .int .u64 s.nonce, .int .u64 s.time, .bool s.coin, .bool s.used, .int .i64 s.state] 76 ∧ Below w.heap.size w W4 ∧ W4.cell? ⟨w.heap.size + 1, 3, none⟩ = some (.int .u16 k3) := by
            subst hW4
            exact ⟨O4.alloc _, A4.alloc _, R4.alloc _, Blk.new _ _ _, M4.alloc M4.size _, keepCell ((Below.refl u4.heap.size u4).alloc (Nat.le_refl _) _) y3⟩
          clear hW4 y3 O4 A4 R4 L4 CG
          have s5 : W4.cell? ⟨u4.heap.size, 3, none⟩ = some (.int .u64 s.nonce) := S5.cell 3
          obtain ⟨r0, r1, r2, r3, r4⟩ := AckMay.blk5 A5
          obtain ⟨n0, n1, n2, n3, n4⟩ := AckMay.blk5 R5
          have f2 := A5.free 2
          have f5 := R5.free 0
          have f6 := R5.free 1
          have f7 := R5.free 2
          have f8 := R5.free 3
          have f9 := R5.free 4
          have hbA : w.heap.size ≤ u1.heap.size + 1 := by have := M1.size; omega
          have hbR : w.heap.size ≤ w.heap.size + 1 + 1 := by omega
          have nA : w.heap.size + 1 + 1 ≠ u1.heap.size + 1 := by omega
          have nB : u1.heap.size + 1 ≠ w.heap.size + 1 + 1 := by omega
          go_wp2
          all_goals refine bodyPost_ret (results_cell_row rfl _ _ (w.heap.size + 1 + 1) 56 #[.slice p3 2 cap3, .slice none 0 0, .int .u64 s.nonce, .int .u64 (x / 128), .bool false] (0, 0) _ rfl ((((((R5.other nA _).set 0 _).set 1 _).set 2 _).set 3 _).set 4 _) Tryz.underlying56 rfl (by kernel_rfl)) rfl ?_
          all_goals refine ⟨p3, cap3, [(lo, lo + k1 % 9), (lo + k1 % 9 + 2 + k2 % 4, lo + k1 % 9 + 2 + k2 % 4 + k2 % 7)], s.nonce, x / 128, rfl, hc3, (own_rowIn (base := w.heap.size) (n := 2) (cap := cap3) ?_), fits2 q0 q1 b0 c0, by simp, by simp, good2 q0 q1 b0 c0, (by unfold Words at hsw; omega), ?_⟩
          · exact (own_set_ne (own_set_ne (own_set_ne (own_set_ne (own_set_ne (own_set_ne O5 hA _) hR _) hR _) hR _) hR _) hR _)
          · exact ((((((M5.setCell hbA _).setCell hbR _).setCell hbR _).setCell hbR _).setCell hbR _).setCell hbR _)
        · skip
          have hA : (Value.slice (some ⟨u1.heap.size, 0, none⟩) 1 1).ownBlock ≠ some (u1.heap.size + 1) := (by simp [Value.ownBlock])
          have hR : (Value.slice (some ⟨u1.heap.size, 0, none⟩) 1 1).ownBlock ≠ some (w.heap.size + 1 + 1) := (by simp [Value.ownBlock]; omega)
          go_upto_region 9 with (go_at_call 52; refine (CG _ M2).mono ?_; rintro e u4 ⟨rfl, L4⟩)
          have M4 := M2.trans (L4.mono M2.size)
          replace y3 := keepCell L4 y3
          have A4 := A2.below L4 A2.lt
          have R4 := RB2.below L4 RB2.lt
          have O4 := O2.below L4
          refine at_world ?_
          intro W4 hW4
          obtain ⟨O5, A5, R5, S5, M5, y5⟩ : Own w.heap.size W4 (.slice (some ⟨u1.heap.size, 0, none⟩) 1 1) [(lo, lo + k1 % 9)] ∧ Blk W4 (u1.heap.size + 1) #[.slice (some ⟨u1.heap.size, 0, none⟩) 1 1, .slice none 0 0, .int .u64 x, .int .u64 (x / 128), .bool false] 56 ∧ Blk W4 (w.heap.size + 1 + 1) #[.slice none 0 0, .slice none 0 0, .int .u64 0, .int .u64 0, .bool false] 56 ∧ Blk W4 u4.heap.size #[.int .u64 s.pn, .int .u64 s.off, .int .u64 s.len, .int .u64 s.nonce, .int .u64 s.time, .bool s.coin, .bool s.used, .int .i64 s.state] 76 ∧ Below w.heap.size w W4 ∧ W4.cell? ⟨w.heap.size + 1, 3, none⟩ = some (.int .u16 k3) := by
            subst hW4
            exact ⟨O4.alloc _, A4.alloc _, R4.alloc _, Blk.new _ _ _, M4.alloc M4.size _, keepCell ((Below.refl u4.heap.size u4).alloc (Nat.le_refl _) _) y3⟩
          clear hW4 y3 O4 A4 R4 L4 CG
          have s5 : W4.cell? ⟨u4.heap.size, 3, none⟩ = some (.int .u64 s.nonce) := S5.cell 3
          obtain ⟨r0, r1, r2, r3, r4⟩ := AckMay.blk5 A5
          obtain ⟨n0, n1, n2, n3, n4⟩ := AckMay.blk5 R5
          have f2 := A5.free 2
          have f5 := R5.free 0
          have f6 := R5.free 1
          have f7 := R5.free 2
          have f8 := R5.free 3
          have f9 := R5.free 4
          have hbA : w.heap.size ≤ u1.heap.size + 1 := by have := M1.size; omega
          have hbR : w.heap.size ≤ w.heap.size + 1 + 1 := by omega
          have nA : w.heap.size + 1 + 1 ≠ u1.heap.size + 1 := by omega
          have nB : u1.heap.size + 1 ≠ w.heap.size + 1 + 1 := by omega
          go_wp2
          all_goals refine bodyPost_ret (results_cell_row rfl _ _ (w.heap.size + 1 + 1) 56 #[.slice (some ⟨u1.heap.size, 0, none⟩) 1 1, .slice none 0 0, .int .u64 s.nonce, .int .u64 (x / 128), .bool false] (0, 0) _ rfl ((((((R5.other nA _).set 0 _).set 1 _).set 2 _).set 3 _).set 4 _) Tryz.underlying56 rfl (by kernel_rfl)) rfl ?_
          all_goals refine ⟨(some ⟨u1.heap.size, 0, none⟩), 1, [(lo, lo + k1 % 9)], s.nonce, x / 128, rfl, by simp, (own_rowIn (base := w.heap.size) (n := 1) (cap := 1) ?_), fits1 q0 q1 b0, by simp, by simp, good1 q0 q1 b0, (by unfold Words at hsw; omega), ?_⟩
          · exact (own_set_ne (own_set_ne (own_set_ne (own_set_ne (own_set_ne (own_set_ne O5 hA _) hR _) hR _) hR _) hR _) hR _)
          · exact ((((((M5.setCell hbA _).setCell hbR _).setCell hbR _).setCell hbR _).setCell hbR _).setCell hbR _)
      · by_cases h2 : 0 < k2 % 3
        · have hne : (Value.slice (some ⟨u1.heap.size, 0, none⟩) 1 1).ownBlock ≠ some (u1.heap.size + 1) := by simp [Value.ownBlock]
          have hne' : ∀ k, k ≤ w.heap.size + 1 + 1 → (Value.slice (some ⟨u1.heap.size, 0, none⟩) 1 1).ownBlock ≠ some k := by
            intro k hk e
            have := hsz1
            simp [Value.ownBlock] at e
            omega
          go_upto_region 8 with (at_builtin; refine wpl_add (x := lo + k1 % 9 + 2 + k2 % 4) (y := lo + k1 % 9 + 2 + k2 % 4 + k2 % 7) rfl (.tmp 60) (.tmp 69) rfl rfl O2 rfl (by simp) (by simp) (by have := hB2.size; have := M1.size; omega) ?_; intro v3 w3 A3; obtain ⟨p3, cap3, hv3, hc3, _, _, _⟩ := A3.own.read; subst hv3; have A3h := Lib.hid A3; have g0 := A3.keep z0 hne; have g1 := (A3.blk A2 hne).free 0; clear A3)
          have A3 := A3h.out
          have hx3 : (Value.slice p3 ([(lo, lo + k1 % 9)] ++ [(lo + k1 % 9 + 2 + k2 % 4, lo + k1 % 9 + 2 + k2 % 4 + k2 % 7)]).length cap3).ownBlock ≠ some (u1.heap.size + 1) := A3.out A2.lt hne
          have hy3 : (Value.slice p3 ([(lo, lo + k1 % 9)] ++ [(lo + k1 % 9 + 2 + k2 % 4, lo + k1 % 9 + 2 + k2 % 4 + k2 % 7)]).length cap3).ownBlock ≠ some (w.heap.size + 1 + 1) := A3.out RB2.lt (hne' _ (by omega))
          clear g0 g1 A3h
          refine at_world ?_
          intro W3 hW3
          obtain ⟨O3, B3, RB3, M3, tb', y3'⟩ : Own w.heap.size W3 (.slice p3 2 cap3) [(lo, lo + k1 % 9), (lo + k1 % 9 + 2 + k2 % 4, lo + k1 % 9 + 2 + k2 % 4 + k2 % 7)] ∧ Blk W3 (u1.heap.size + 1) #[.slice p3 2 cap3, .slice none 0 0, .int .u64 x, .int .u64 (x / 128), .bool false] 56 ∧ Blk W3 (w.heap.size + 1 + 1) #[.slice none 0 0, .slice none 0 0, .int .u64 0, .int .u64 0, .bool false] 56 ∧ Below w.heap.size w W3 ∧ W3.cell? ⟨w.heap.size, 1, none⟩ = some (.pointer (some ⟨b, 0, none⟩)) ∧ W3.cell? ⟨w.heap.size + 1, 3, none⟩ = some (.int .u16 k3) := by
            subst hW3
            have b3 := (A3.blk A2 hne).set 0 (.slice p3 2 cap3)
            exact ⟨own_set_ne A3.own hx3 _, b3, (A3.blk RB2 (hne' _ (by omega))).other (by simp only; omega) _, (A3.below M2 (Nat.le_refl _)).setCell (by have := M1.size; simp only; omega) _, (cell_other (by simp only; omega) _).trans (A3.keep tb (hne' _ (by omega))), (cell_other (by simp only; omega) _).trans (A3.keep y3 (hne' _ (by omega)))⟩
          clear hW3 A3
          replace tb := tb'
          replace y3 := y3'
          have hA : (Value.slice p3 2 cap3).ownBlock ≠ some (u1.heap.size + 1) := hx3
          have hR : (Value.slice p3 2 cap3).ownBlock ≠ some (w.heap.size + 1 + 1) := hy3
          go_upto_region 9 with (go_at_call 52; refine (CG _ M3).mono ?_; rintro e u4 ⟨rfl, L4⟩)
          have M4 := M3.trans (L4.mono M3.size)
          replace y3 := keepCell L4 y3
          have A4 := B3.below L4 B3.lt
          have R4 := RB3.below L4 RB3.lt
          have O4 := O3.below L4
          refine at_world ?_
          intro W4 hW4
          obtain ⟨O5, A5, R5, S5, M5, y5⟩ : Own w.heap.size W4 (.slice p3 2 cap3) [(lo, lo + k1 % 9), (lo + k1 % 9 + 2 + k2 % 4, lo + k1 % 9 + 2 + k2 % 4 + k2 % 7)] ∧ Blk W4 (u1.heap.size + 1) #[.slice p3 2 cap3, .slice none 0 0, .int .u64 x, .int .u64 (x / 128), .bool false] 56 ∧ Blk W4 (w.heap.size + 1 + 1) #[.slice none 0 0, .slice none 0 0, .int .u64 0, .int .u64 0, .bool false] 56 ∧ Blk W4 u4.heap.size #[.int .u64 s.pn, .int .u64 s.off, .int .u64 s.len, .int .u64 s.nonce, .int .u64 s.time, .bool s.coin, .bool s.used, .int .i64 s.state] 76 ∧ Below w.heap.size w W4 ∧ W4.cell? ⟨w.heap.size + 1, 3, none⟩ = some (.int .u16 k3) := by
            subst hW4
            exact ⟨O4.alloc _, A4.alloc _, R4.alloc _, Blk.new _ _ _, M4.alloc M4.size _, keepCell ((Below.refl u4.heap.size u4).alloc (Nat.le_refl _) _) y3⟩
          clear hW4 y3 O4 A4 R4 L4 CG
          have s5 : W4.cell? ⟨u4.heap.size, 3, none⟩ = some (.int .u64 s.nonce) := S5.cell 3
          obtain ⟨r0, r1, r2, r3, r4⟩ := AckMay.blk5 A5
          obtain ⟨n0, n1, n2, n3, n4⟩ := AckMay.blk5 R5
          have f2 := A5.free 2
          have f5 := R5.free 0
          have f6 := R5.free 1
          have f7 := R5.free 2
          have f8 := R5.free 3
          have f9 := R5.free 4
          have hbA : w.heap.size ≤ u1.heap.size + 1 := by have := M1.size; omega
          have hbR : w.heap.size ≤ w.heap.size + 1 + 1 := by omega
          have nA : w.heap.size + 1 + 1 ≠ u1.heap.size + 1 := by omega
          have nB : u1.heap.size + 1 ≠ w.heap.size + 1 + 1 := by omega
          go_wp2
          all_goals refine bodyPost_ret (results_cell_row rfl _ _ (w.heap.size + 1 + 1) 56 #[.slice p3 2 cap3, .slice none 0 0, .int .u64 x, .int .u64 (x / 128), .bool false] (0, 0) _ rfl (((((R5.set 0 _).set 1 _).set 2 _).set 3 _).set 4 _) Tryz.underlying56 rfl (by kernel_rfl)) rfl ?_
          all_goals refine ⟨p3, cap3, [(lo, lo + k1 % 9), (lo + k1 % 9 + 2 + k2 % 4, lo + k1 % 9 + 2 + k2 % 4 + k2 % 7)], x, x / 128, rfl, hc3, (own_rowIn (base := w.heap.size) (n := 2) (cap := cap3) ?_), fits2 q0 q1 b0 c0, by simp, by simp, good2 q0 q1 b0 c0, ⟨x0, x1⟩, ?_⟩
          · exact (own_set_ne (own_set_ne (own_set_ne (own_set_ne (own_set_ne O5 hR _) hR _) hR _) hR _) hR _)
          · exact (((((M5.setCell hbR _).setCell hbR _).setCell hbR _).setCell hbR _).setCell hbR _)
        · skip
          have hA : (Value.slice (some ⟨u1.heap.size, 0, none⟩) 1 1).ownBlock ≠ some (u1.heap.size + 1) := (by simp [Value.ownBlock])
          have hR : (Value.slice (some ⟨u1.heap.size, 0, none⟩) 1 1).ownBlock ≠ some (w.heap.size + 1 + 1) := (by simp [Value.ownBlock]; omega)
          go_upto_region 9 with (go_at_call 52; refine (CG _ M2).mono ?_; rintro e u4 ⟨rfl, L4⟩)
          have M4 := M2.trans (L4.mono M2.size)
          replace y3 := keepCell L4 y3
          have A4 := A2.below L4 A2.lt
          have R4 := RB2.below L4 RB2.lt
          have O4 := O2.below L4
          refine at_world ?_
          intro W4 hW4
          obtain ⟨O5, A5, R5, S5, M5, y5⟩ : Own w.heap.size W4 (.slice (some ⟨u1.heap.size, 0, none⟩) 1 1) [(lo, lo + k1 % 9)] ∧ Blk W4 (u1.heap.size + 1) #[.slice (some ⟨u1.heap.size, 0, none⟩) 1 1, .slice none 0 0, .int .u64 x, .int .u64 (x / 128), .bool false] 56 ∧ Blk W4 (w.heap.size + 1 + 1) #[.slice none 0 0, .slice none 0 0, .int .u64 0, .int .u64 0, .bool false] 56 ∧ Blk W4 u4.heap.size #[.int .u64 s.pn, .int .u64 s.off, .int .u64 s.len, .int .u64 s.nonce, .int .u64 s.time, .bool s.coin, .bool s.used, .int .i64 s.state] 76 ∧ Below w.heap.size w W4 ∧ W4.cell? ⟨w.heap.size + 1, 3, none⟩ = some (.int .u16 k3) := by
            subst hW4
            exact ⟨O4.alloc _, A4.alloc _, R4.alloc _, Blk.new _ _ _, M4.alloc M4.size _, keepCell ((Below.refl u4.heap.size u4).alloc (Nat.le_refl _) _) y3⟩
          clear hW4 y3 O4 A4 R4 L4 CG
          have s5 : W4.cell? ⟨u4.heap.size, 3, none⟩ = some (.int .u64 s.nonce) := S5.cell 3
          obtain ⟨r0, r1, r2, r3, r4⟩ := AckMay.blk5 A5
          obtain ⟨n0, n1, n2, n3, n4⟩ := AckMay.blk5 R5
          have f2 := A5.free 2
          have f5 := R5.free 0
          have f6 := R5.free 1
          have f7 := R5.free 2
          have f8 := R5.free 3
          have f9 := R5.free 4
          have hbA : w.heap.size ≤ u1.heap.size + 1 := by have := M1.size; omega
          have hbR : w.heap.size ≤ w.heap.size + 1 + 1 := by omega
          have nA : w.heap.size + 1 + 1 ≠ u1.heap.size + 1 := by omega
          have nB : u1.heap.size + 1 ≠ w.heap.size + 1 + 1 := by omega
          go_wp2
          all_goals refine bodyPost_ret (results_cell_row rfl _ _ (w.heap.size + 1 + 1) 56 #[.slice (some ⟨u1.heap.size, 0, none⟩) 1 1, .slice none 0 0, .int .u64 x, .int .u64 (x / 128), .bool false] (0, 0) _ rfl (((((R5.set 0 _).set 1 _).set 2 _).set 3 _).set 4 _) Tryz.underlying56 rfl (by kernel_rfl)) rfl ?_
          all_goals refine ⟨(some ⟨u1.heap.size, 0, none⟩), 1, [(lo, lo + k1 % 9)], x, x / 128, rfl, by simp, (own_rowIn (base := w.heap.size) (n := 1) (cap := 1) ?_), fits1 q0 q1 b0, by simp, by simp, good1 q0 q1 b0, ⟨x0, x1⟩, ?_⟩
          · exact (own_set_ne (own_set_ne (own_set_ne (own_set_ne (own_set_ne O5 hR _) hR _) hR _) hR _) hR _)
          · exact (((((M5.setCell hbR _).setCell hbR _).setCell hbR _).setCell hbR _).setCell hbR _)
theorem ask_any {S : Nat → Prop} {w : World} {a : Addr} {b : Nat} {g : Lg} (h : Rf S w b g) (hn : g.l.length ≤ 1000000) (k0 k1 k2 k3 : Int) (a0 : 0 ≤ k0) (a1 : k0 ≤ 65535) (b0 : 0 ≤ k1) (b1 : k1 ≤ 65535) (c0 : 0 ≤ k2) (c1 : k2 ≤ 65535) (d0 : 0 ≤ k3) (d1 : k3 ≤ 65535) (x : Int) (x0 : 0 ≤ x) (x1 : x ≤ 18446744073709551615) :
    Calls Tryz.prog 21 #[.agg #[.pointer (some a), .pointer (some ⟨b, 0, none⟩)], .agg #[.int .u16 k0, .int .u16 k1, .int .u16 k2, .int .u16 k3], .int .u64 x] w fun e w' => ∃ p c l tr xr, e = .returned (.agg #[.slice p l.length c, .slice none 0 0, .int .u64 tr, .int .u64 xr, .bool false]) ∧ l.length ≤ c ∧ RowIn (fun k => w.heap.size ≤ k) w' p (flat l) ∧ Fits l ∧ 1 ≤ l.length ∧ l.length ≤ 2 ∧ good l = true ∧ Below w.heap.size w w' :=
  (ask_b h hn k0 k1 k2 k3 a0 a1 b0 b1 c0 c1 d0 d1 x x0 x1).mono fun e w' ⟨p, c, l, tr, xr, h1, h2, h3, h4, h5, h6, h7, _, h8⟩ => ⟨p, c, l, tr, xr, h1, h2, h3, h4, h5, h6, h7, h8⟩
end Go.Proofs.YtkiloaebokkjbaaGreat.Led
