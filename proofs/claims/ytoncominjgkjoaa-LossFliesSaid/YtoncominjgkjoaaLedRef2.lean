/-
  Contracts of the reference's ledger: what turns it, what makes one.
-/
import Derived.Test.YtoncominjgkjoaaLedRef
set_option linter.unusedSimpArgs false
set_option linter.unusedVariables false
namespace Go.Proofs.Ytoncominjgkjoaa.Led
set_option linter.unusedVariables false
set_option maxRecDepth 20000
open Go.ChangeShapes Go.WideShapes Go.ChangeAt Go.RowKit
open Go.Proofs.Ytoncominjgkjoaa.Base Go.Proofs.Ytoncominjgkjoaa.LedPlain

theorem ref_get {S : Nat → Prop} {w : World} {b : Nat} {g : Lg} (h : Rf S w b g) (pn : Int) (p0 : 0 ≤ pn) (p1 : pn ≤ 18446744073709551615) :
    Calls Try.prog 45 #[.pointer (some ⟨b, 0, none⟩), .int .u64 pn] w fun e w' => e = .returned (.tuple #[.agg #[.int .u64 (getS g pn).pn, .int .u64 (getS g pn).off, .int .u64 (getS g pn).len, .int .u64 (getS g pn).nonce, .int .u64 (getS g pn).time, .bool (getS g pn).coin, .bool (getS g pn).used, .int .i64 (getS g pn).state], .bool (hasN g pn)]) ∧ Below w.heap.size w w' := by
  obtain ⟨k, rfl⟩ := Int.eq_ofNat_of_zero_le p0
  have hnl : (g.l.length : Int) ≤ 4611686018427387904 := by have := h.ok.n1; have := h.ok.l1; omega
  have hlow := low_le g
  have hLow : (lowN g : Int) ≤ 4611686018427387904 := by omega
  by_cases h1 : (k : Int) < lowN g
  · have hk : ¬ keptN g k := by unfold keptN; omega
    rw [show getS g k = Z8 by unfold getS; rw [if_neg hk], show hasN g k = false by unfold hasN; exact decide_eq_false hk]
    clear hk
    go_enter Try.func45, Try.ntmps45
    go_upto_region 1 with fail
    have hB := Blk.new w #[.int .u64 0, .int .u64 0, .int .u64 0, .int .u64 0, .int .u64 0, .bool false, .bool false, .int .i64 0] 42
    have hL : Below w.heap.size w (w.alloc (.cells #[.int .u64 0, .int .u64 0, .int .u64 0, .int .u64 0, .int .u64 0, .bool false, .bool false, .int .i64 0] 42)) := (Below.refl _ _).alloc (Nat.le_refl _) _
    have hR := h.below hL
    generalize w.alloc (.cells #[.int .u64 0, .int .u64 0, .int .u64 0, .int .u64 0, .int .u64 0, .bool false, .bool false, .int .i64 0] 42) = W at hB hL hR ⊢
    have C0 := ref_low hR
    generalize (lowN g : Int) = L at *
    go_wp2_with (first
      | (go_at_call 28; refine C0.mono ?_; rintro e w1 ⟨rfl, L1⟩; have hB1 := hB.below L1 hB.lt; have hL1 := Base.next hL L1)
      | (refine wpl_store_row rfl 42 (.tmp 4) (.tmp 16) rfl hB1 #[.int .u64 0, .int .u64 0, .int .u64 0, .int .u64 0, .int .u64 0, .bool false, .bool false, .int .i64 0] rfl rfl (by kernel_rfl) rfl (by simp [Value.oneCell']) ?_))
    (refine bodyPost_ret (results_rowT rfl _ _ w.heap.size 42 #[.int .u64 0, .int .u64 0, .int .u64 0, .int .u64 0, .int .u64 0, .bool false, .bool false, .int .i64 0] _ rfl (hB1.setRow _) Try.underlying42 rfl (by kernel_rfl)) rfl ?_)
    exact ⟨rfl, below_setRow' hL1 (Nat.le_refl _)⟩
  · by_cases h2 : k < g.l.length
    · have hk : keptN g k := by unfold keptN; omega
      rw [show getS g k = g.l.getD k Z8 by unfold getS; rw [if_pos hk]; rfl, show hasN g k = true by unfold hasN; exact decide_eq_true hk]
      clear hk
      generalize hs : g.l.getD k Z8 = s at *
      have h2' : (k : Int) < (g.l.length : Int) := by omega
      go_enter Try.func45, Try.ntmps45
      go_upto_region 1 with fail
      have hB := Blk.new w #[.int .u64 0, .int .u64 0, .int .u64 0, .int .u64 0, .int .u64 0, .bool false, .bool false, .int .i64 0] 42
      have hL : Below w.heap.size w (w.alloc (.cells #[.int .u64 0, .int .u64 0, .int .u64 0, .int .u64 0, .int .u64 0, .bool false, .bool false, .int .i64 0] 42)) := (Below.refl _ _).alloc (Nat.le_refl _) _
      have hR := h.below hL
      generalize w.alloc (.cells #[.int .u64 0, .int .u64 0, .int .u64 0, .int .u64 0, .int .u64 0, .bool false, .bool false, .int .i64 0] 42) = W at hB hL hR ⊢
      have C0 := ref_low hR
      generalize (lowN g : Int) = L at *
      go_wp2_with (first
        | (go_at_call 28; refine C0.mono ?_; rintro e w1 ⟨rfl, L1⟩; have hB1 := hB.below L1 hB.lt; have hL1 := Base.next hL L1; have hR1 := hR.below L1; have hb := hR1.lt; obtain ⟨a, cap, c0, c1, c2, h3, h4, hz⟩ := hR1.read; unfold maxLen at h4; have C1 := ref_next hR1; obtain ⟨b', off', rfl, hb', e0, e1, e2, e3, e4, e5, e6, e7⟩ := hz.at_ h2; rw [hs] at e0 e1 e2 e3 e4 e5 e6 e7)
        | (go_at_call 9; refine C1.mono ?_; rintro e w2 ⟨rfl, rfl⟩)
        | (refine wpl_store_row rfl 42 (.tmp 4) (.tmp 24) rfl hB1 #[.int .u64 s.pn, .int .u64 s.off, .int .u64 s.len, .int .u64 s.nonce, .int .u64 s.time, .bool s.coin, .bool s.used, .int .i64 s.state] rfl rfl (by kernel_rfl) rfl (by simp [Value.oneCell']) ?_))
      (refine bodyPost_ret (results_rowT rfl _ _ w.heap.size 42 #[.int .u64 s.pn, .int .u64 s.off, .int .u64 s.len, .int .u64 s.nonce, .int .u64 s.time, .bool s.coin, .bool s.used, .int .i64 s.state] _ rfl (hB1.setRow _) Try.underlying42 rfl (by kernel_rfl)) rfl ?_)
      exact ⟨rfl, below_setRow' hL1 (Nat.le_refl _)⟩
    · have hk : ¬ keptN g k := by unfold keptN; omega
      rw [show getS g k = Z8 by unfold getS; rw [if_neg hk], show hasN g k = false by unfold hasN; exact decide_eq_false hk]
      clear hk
      have h2' : (g.l.length : Int) ≤ (k : Int) := by omega
      go_enter Try.func45, Try.ntmps45
      go_upto_region 1 with fail
      have hB := Blk.new w #[.int .u64 0, .int .u64 0, .int .u64 0, .int .u64 0, .int .u64 0, .bool false, .bool false, .int .i64 0] 42
      have hL : Below w.heap.size w (w.alloc (.cells #[.int .u64 0, .int .u64 0, .int .u64 0, .int .u64 0, .int .u64 0, .bool false, .bool false, .int .i64 0] 42)) := (Below.refl _ _).alloc (Nat.le_refl _) _
      have hR := h.below hL
      generalize w.alloc (.cells #[.int .u64 0, .int .u64 0, .int .u64 0, .int .u64 0, .int .u64 0, .bool false, .bool false, .int .i64 0] 42) = W at hB hL hR ⊢
      have C0 := ref_low hR
      generalize (lowN g : Int) = L at *
      go_wp2_with (first
        | (go_at_call 28; refine C0.mono ?_; rintro e w1 ⟨rfl, L1⟩; have hB1 := hB.below L1 hB.lt; have hL1 := Base.next hL L1; have C1 := ref_next (hR.below L1))
        | (go_at_call 9; refine C1.mono ?_; rintro e w2 ⟨rfl, rfl⟩)
        | (refine wpl_store_row rfl 42 (.tmp 4) (.tmp 16) rfl hB1 #[.int .u64 0, .int .u64 0, .int .u64 0, .int .u64 0, .int .u64 0, .bool false, .bool false, .int .i64 0] rfl rfl (by kernel_rfl) rfl (by simp [Value.oneCell']) ?_))
      (refine bodyPost_ret (results_rowT rfl _ _ w.heap.size 42 #[.int .u64 0, .int .u64 0, .int .u64 0, .int .u64 0, .int .u64 0, .bool false, .bool false, .int .i64 0] _ rfl (hB1.setRow _) Try.underlying42 rfl (by kernel_rfl)) rfl ?_)
      exact ⟨rfl, below_setRow' hL1 (Nat.le_refl _)⟩
/-- Which number's place it is. -/
theorem kept_nat {g : Lg} {pn : Int} (h : keptN g pn) : ∃ k : Nat, pn = k ∧ k < g.l.length ∧ pn.toNat = k := by
  unfold keptN at h
  exact ⟨pn.toNat, by omega, by omega, rfl⟩
theorem ref_use {S : Nat → Prop} {w : World} {b : Nat} {g : Lg} (h : Rf S w b g) (pn : Int) (p0 : 0 ≤ pn) (p1 : pn ≤ 18446744073709551615) :
    Calls Try.prog 44 #[.pointer (some ⟨b, 0, none⟩), .int .u64 pn] w fun e w' => e = .returned (.bool (useB g pn)) ∧ Rf S w' b (useG g pn) ∧ Fr S w w' := by
  have C0 := ref_get h pn p0 p1
  by_cases hk : keptN g pn
  · obtain ⟨k, rfl, hkl, ek⟩ := kept_nat hk
    rw [show getS g k = g.l.getD k Z8 by unfold getS; rw [if_pos hk]; rfl, show hasN g k = true by unfold hasN; exact decide_eq_true hk] at C0
    have hnl : (g.l.length : Int) ≤ 4611686018427387904 := by have := h.ok.n1; have := h.ok.l1; omega
    have hk' : (k : Int) < (g.l.length : Int) := by omega
    by_cases hn : (g.l.getD k Z8).state ≠ 4 ∧ (g.l.getD k Z8).used = false
    · have hu : useB g k = true := decide_eq_true ⟨hk, by rw [ek]; exact hn.1, by rw [ek]; exact hn.2⟩
      have ho := ok_use h.ok k
      have eu : useG g k = { g with l := g.l.set k { g.l.getD k Z8 with used := true } } := by unfold useG; rw [if_pos hu, ek]; rfl
      rw [eu] at ho ⊢
      rw [hu]
      clear hu eu hk ek
      generalize hs : g.l.getD k Z8 = s at *
      obtain ⟨h4, hf⟩ := hn
      rw [hf] at C0
      go_enter Try.func44, Try.ntmps44
      go_upto_region 1 with fail
      go_upto_region 4 with (go_at_call 45; refine C0.mono ?_; rintro e w1 ⟨rfl, L1⟩; have hR1 := h.below L1; clear C0)
      obtain ⟨v, hB, hO, hv⟩ := hR1.ex
      obtain ⟨g0, cap, rfl, q1, q2, q3, q4, q5, q6⟩ := (hO.alloc (.cells #[.int .u64 s.pn, .int .u64 s.off, .int .u64 s.len, .int .u64 s.nonce, .int .u64 s.time, .bool s.coin, .bool false, .int .i64 s.state] 42)).set hkl 6 (by decide)
      rw [hs] at q4 q6
      obtain ⟨e0, e1, e2, e3, e4, e5, e6, e7⟩ := q4
      have B1 := hB.alloc (.cells #[.int .u64 s.pn, .int .u64 s.off, .int .u64 s.len, .int .u64 s.nonce, .int .u64 s.time, .bool s.coin, .bool false, .int .i64 s.state] 42)
      have c2 : (w1.alloc (.cells #[.int .u64 s.pn, .int .u64 s.off, .int .u64 s.len, .int .u64 s.nonce, .int .u64 s.time, .bool s.coin, .bool false, .int .i64 s.state] 42)).cell? ⟨b, 2, none⟩ = some (.slice (some ⟨g0, 0, none⟩) g.l.length cap) := B1.cell 2
      have hb := B1.lt
      have hF : Fr S w (w1.alloc (.cells #[.int .u64 s.pn, .int .u64 s.off, .int .u64 s.len, .int .u64 s.nonce, .int .u64 s.time, .bool s.coin, .bool false, .int .i64 s.state] 42)) := (Fr.of_below L1).alloc _
      unfold maxLen at q2
      have hvg := hv g0 rfl
      have Q6 := q6 { s with used := true } (.bool true) rfl
      clear q6 hv hO hB hs
      generalize w1.alloc (.cells #[.int .u64 s.pn, .int .u64 s.off, .int .u64 s.len, .int .u64 s.nonce, .int .u64 s.time, .bool s.coin, .bool false, .int .i64 s.state] 42) = W at *
      go_wp2
      go_ret
      exact ⟨rfl, ⟨ho, h.inB, _, B1.other hvg.2.symm _, Q6, fun x hx => by cases hx; exact hvg⟩, hF.setCell (fun _ => hvg.1) _⟩
    · have hu : useB g k = false := decide_eq_false fun q => hn ⟨by have := q.2.1; rw [ek] at this; exact this, by have := q.2.2; rw [ek] at this; exact this⟩
      rw [show useG g k = g by unfold useG; rw [hu]; rfl, hu]
      clear hu hk ek
      generalize g.l.getD k Z8 = s at *
      by_cases h4 : s.state = 4
      · rw [h4] at C0
        go_enter Try.func44, Try.ntmps44
        go_wp2_with (go_at_call 45; refine C0.mono ?_; rintro e w1 ⟨rfl, L1⟩; have hR1 := h.below L1; clear C0)
        go_ret
        exact ⟨rfl, hR1.below ((Below.refl _ _).alloc (Nat.le_refl _) _), (Fr.of_below L1).alloc _⟩
      · have h5 : s.used = true := by
          cases e : s.used with
          | true => rfl
          | false => exact absurd ⟨h4, e⟩ hn
        rw [h5] at C0
        go_enter Try.func44, Try.ntmps44
        go_wp2_with (go_at_call 45; refine C0.mono ?_; rintro e w1 ⟨rfl, L1⟩; have hR1 := h.below L1; clear C0)
        go_ret
        exact ⟨rfl, hR1.below ((Below.refl _ _).alloc (Nat.le_refl _) _), (Fr.of_below L1).alloc _⟩
  · rw [show getS g pn = Z8 by unfold getS; rw [if_neg hk], show hasN g pn = false by unfold hasN; exact decide_eq_false hk] at C0
    have hu : useB g pn = false := decide_eq_false fun q => hk q.1
    rw [show useG g pn = g by unfold useG; rw [hu]; rfl, hu]
    clear hu hk
    go_enter Try.func44, Try.ntmps44
    go_wp2_with (go_at_call 45; refine C0.mono ?_; rintro e w1 ⟨rfl, L1⟩; have hR1 := h.below L1; clear C0)
    go_ret
    exact ⟨rfl, hR1.below ((Below.refl _ _).alloc (Nat.le_refl _) _), (Fr.of_below L1).alloc _⟩
theorem ref_settle {S : Nat → Prop} {w : World} {b : Nat} {g : Lg} (h : Rf S w b g) (pn st : Int) (p0 : 0 ≤ pn) (p1 : pn ≤ 18446744073709551615) :
    Calls Try.prog 42 #[.pointer (some ⟨b, 0, none⟩), .int .u64 pn, .int .i64 st] w fun e w' => e = .returned (.bool (settleB g pn st)) ∧ Rf S w' b (settleG g pn st) ∧ Fr S w w' := by
  have C0 := ref_get h pn p0 p1
  by_cases hk : keptN g pn
  · obtain ⟨k, rfl, hkl, ek⟩ := kept_nat hk
    rw [show getS g k = g.l.getD k Z8 by unfold getS; rw [if_pos hk]; rfl, show hasN g k = true by unfold hasN; exact decide_eq_true hk] at C0
    have hnl : (g.l.length : Int) ≤ 4611686018427387904 := by have := h.ok.n1; have := h.ok.l1; omega
    have hk' : (k : Int) < (g.l.length : Int) := by omega
    by_cases s2 : st = 2
    · by_cases hw : (g.l.getD k Z8).state = 1
      · subst s2
        have hu : settleB g k 2 = true := decide_eq_true ⟨hk, by rw [ek]; show _ ∧ ((g.l.getD k Z8).state = 1 ∨ (g.l.getD k Z8).state = 3) ∨ _ ∧ (g.l.getD k Z8).state = 1; omega⟩
        have ho := ok_settle h.ok k 2
        have eu : settleG g k 2 = { g with l := g.l.set k { g.l.getD k Z8 with state := 2 } } := by unfold settleG; rw [if_pos hu, ek]; rfl
        rw [eu] at ho ⊢
        rw [hu]
        clear hu eu hk ek
        generalize hs : g.l.getD k Z8 = s at *
        rw [hw] at C0
        go_enter Try.func42, Try.ntmps42
        go_upto_region 1 with fail
        go_upto_region 4 with (go_at_call 45; refine C0.mono ?_; rintro e w1 ⟨rfl, L1⟩; have hR1 := h.below L1; clear C0)
        obtain ⟨v, hB, hO, hv⟩ := hR1.ex
        obtain ⟨g0, cap, rfl, q1, q2, q3, q4, q5, q6⟩ := (hO.alloc (.cells #[.int .u64 s.pn, .int .u64 s.off, .int .u64 s.len, .int .u64 s.nonce, .int .u64 s.time, .bool s.coin, .bool s.used, .int .i64 1] 42)).set hkl 7 (by decide)
        rw [hs] at q4 q6
        obtain ⟨e0, e1, e2, e3, e4, e5, e6, e7⟩ := q4
        have B1 := hB.alloc (.cells #[.int .u64 s.pn, .int .u64 s.off, .int .u64 s.len, .int .u64 s.nonce, .int .u64 s.time, .bool s.coin, .bool s.used, .int .i64 1] 42)
        have c2 : (w1.alloc (.cells #[.int .u64 s.pn, .int .u64 s.off, .int .u64 s.len, .int .u64 s.nonce, .int .u64 s.time, .bool s.coin, .bool s.used, .int .i64 1] 42)).cell? ⟨b, 2, none⟩ = some (.slice (some ⟨g0, 0, none⟩) g.l.length cap) := B1.cell 2
        have hb := B1.lt
        have hF : Fr S w (w1.alloc (.cells #[.int .u64 s.pn, .int .u64 s.off, .int .u64 s.len, .int .u64 s.nonce, .int .u64 s.time, .bool s.coin, .bool s.used, .int .i64 1] 42)) := (Fr.of_below L1).alloc _
        unfold maxLen at q2
        have hvg := hv g0 rfl
        have Q6 := q6 { s with state := 2 } (.int .i64 2) rfl
        clear q6 hv hO hB hs
        generalize w1.alloc (.cells #[.int .u64 s.pn, .int .u64 s.off, .int .u64 s.len, .int .u64 s.nonce, .int .u64 s.time, .bool s.coin, .bool s.used, .int .i64 1] 42) = W at *
        go_wp2
        go_ret
        exact ⟨rfl, ⟨ho, h.inB, _, B1.other hvg.2.symm _, Q6, fun x hx => by cases hx; exact hvg⟩, hF.setCell (fun _ => hvg.1) _⟩
      · by_cases hw3 : (g.l.getD k Z8).state = 3
        · subst s2
          clear hw
          have hw := hw3
          clear hw3
          have hu : settleB g k 2 = true := decide_eq_true ⟨hk, by rw [ek]; show _ ∧ ((g.l.getD k Z8).state = 1 ∨ (g.l.getD k Z8).state = 3) ∨ _ ∧ (g.l.getD k Z8).state = 1; omega⟩
          have ho := ok_settle h.ok k 2
          have eu : settleG g k 2 = { g with l := g.l.set k { g.l.getD k Z8 with state := 2 } } := by unfold settleG; rw [if_pos hu, ek]; rfl
          rw [eu] at ho ⊢
          rw [hu]
          clear hu eu hk ek
          generalize hs : g.l.getD k Z8 = s at *
          rw [hw] at C0
          go_enter Try.func42, Try.ntmps42
          go_upto_region 1 with fail
          go_upto_region 4 with (go_at_call 45; refine C0.mono ?_; rintro e w1 ⟨rfl, L1⟩; have hR1 := h.below L1; clear C0)
          obtain ⟨v, hB, hO, hv⟩ := hR1.ex
          obtain ⟨g0, cap, rfl, q1, q2, q3, q4, q5, q6⟩ := (hO.alloc (.cells #[.int .u64 s.pn, .int .u64 s.off, .int .u64 s.len, .int .u64 s.nonce, .int .u64 s.time, .bool s.coin, .bool s.used, .int .i64 3] 42)).set hkl 7 (by decide)
          rw [hs] at q4 q6
          obtain ⟨e0, e1, e2, e3, e4, e5, e6, e7⟩ := q4
          have B1 := hB.alloc (.cells #[.int .u64 s.pn, .int .u64 s.off, .int .u64 s.len, .int .u64 s.nonce, .int .u64 s.time, .bool s.coin, .bool s.used, .int .i64 3] 42)
          have c2 : (w1.alloc (.cells #[.int .u64 s.pn, .int .u64 s.off, .int .u64 s.len, .int .u64 s.nonce, .int .u64 s.time, .bool s.coin, .bool s.used, .int .i64 3] 42)).cell? ⟨b, 2, none⟩ = some (.slice (some ⟨g0, 0, none⟩) g.l.length cap) := B1.cell 2
          have hb := B1.lt
          have hF : Fr S w (w1.alloc (.cells #[.int .u64 s.pn, .int .u64 s.off, .int .u64 s.len, .int .u64 s.nonce, .int .u64 s.time, .bool s.coin, .bool s.used, .int .i64 3] 42)) := (Fr.of_below L1).alloc _
          unfold maxLen at q2
          have hvg := hv g0 rfl
          have Q6 := q6 { s with state := 2 } (.int .i64 2) rfl
          clear q6 hv hO hB hs
          generalize w1.alloc (.cells #[.int .u64 s.pn, .int .u64 s.off, .int .u64 s.len, .int .u64 s.nonce, .int .u64 s.time, .bool s.coin, .bool s.used, .int .i64 3] 42) = W at *
          go_wp2
          go_ret
          exact ⟨rfl, ⟨ho, h.inB, _, B1.other hvg.2.symm _, Q6, fun x hx => by cases hx; exact hvg⟩, hF.setCell (fun _ => hvg.1) _⟩
        · subst s2
          have hu : settleB g k 2 = false := decide_eq_false fun q => by have := q.2; rw [ek] at this; change (_ ∧ ((g.l.getD k Z8).state = 1 ∨ (g.l.getD k Z8).state = 3) ∨ _ ∧ (g.l.getD k Z8).state = 1) at this; omega
          rw [show settleG g k 2 = g by unfold settleG; rw [hu]; rfl, hu]
          clear hu hk ek
          generalize g.l.getD k Z8 = s at *
          skip
          go_enter Try.func42, Try.ntmps42
          go_wp2_with (go_at_call 45; refine C0.mono ?_; rintro e w1 ⟨rfl, L1⟩; have hR1 := h.below L1; clear C0)
          go_ret
          exact ⟨rfl, hR1.below ((Below.refl _ _).alloc (Nat.le_refl _) _), (Fr.of_below L1).alloc _⟩
    · by_cases s3 : st = 3
      · by_cases hw : (g.l.getD k Z8).state = 1
        · subst s3
          have hu : settleB g k 3 = true := decide_eq_true ⟨hk, by rw [ek]; show _ ∧ ((g.l.getD k Z8).state = 1 ∨ (g.l.getD k Z8).state = 3) ∨ _ ∧ (g.l.getD k Z8).state = 1; omega⟩
          have ho := ok_settle h.ok k 3
          have eu : settleG g k 3 = { g with l := g.l.set k { g.l.getD k Z8 with state := 3 } } := by unfold settleG; rw [if_pos hu, ek]; rfl
          rw [eu] at ho ⊢
          rw [hu]
          clear hu eu hk ek
          generalize hs : g.l.getD k Z8 = s at *
          rw [hw] at C0
          go_enter Try.func42, Try.ntmps42
          go_upto_region 1 with fail
          go_upto_region 4 with (go_at_call 45; refine C0.mono ?_; rintro e w1 ⟨rfl, L1⟩; have hR1 := h.below L1; clear C0)
          obtain ⟨v, hB, hO, hv⟩ := hR1.ex
          obtain ⟨g0, cap, rfl, q1, q2, q3, q4, q5, q6⟩ := (hO.alloc (.cells #[.int .u64 s.pn, .int .u64 s.off, .int .u64 s.len, .int .u64 s.nonce, .int .u64 s.time, .bool s.coin, .bool s.used, .int .i64 1] 42)).set hkl 7 (by decide)
          rw [hs] at q4 q6
          obtain ⟨e0, e1, e2, e3, e4, e5, e6, e7⟩ := q4
          have B1 := hB.alloc (.cells #[.int .u64 s.pn, .int .u64 s.off, .int .u64 s.len, .int .u64 s.nonce, .int .u64 s.time, .bool s.coin, .bool s.used, .int .i64 1] 42)
          have c2 : (w1.alloc (.cells #[.int .u64 s.pn, .int .u64 s.off, .int .u64 s.len, .int .u64 s.nonce, .int .u64 s.time, .bool s.coin, .bool s.used, .int .i64 1] 42)).cell? ⟨b, 2, none⟩ = some (.slice (some ⟨g0, 0, none⟩) g.l.length cap) := B1.cell 2
          have hb := B1.lt
          have hF : Fr S w (w1.alloc (.cells #[.int .u64 s.pn, .int .u64 s.off, .int .u64 s.len, .int .u64 s.nonce, .int .u64 s.time, .bool s.coin, .bool s.used, .int .i64 1] 42)) := (Fr.of_below L1).alloc _
          unfold maxLen at q2
          have hvg := hv g0 rfl
          have Q6 := q6 { s with state := 3 } (.int .i64 3) rfl
          clear q6 hv hO hB hs
          generalize w1.alloc (.cells #[.int .u64 s.pn, .int .u64 s.off, .int .u64 s.len, .int .u64 s.nonce, .int .u64 s.time, .bool s.coin, .bool s.used, .int .i64 1] 42) = W at *
          go_wp2
          go_ret
          exact ⟨rfl, ⟨ho, h.inB, _, B1.other hvg.2.symm _, Q6, fun x hx => by cases hx; exact hvg⟩, hF.setCell (fun _ => hvg.1) _⟩
        · subst s3
          by_cases hw3 : (g.l.getD k Z8).state = 3
          · have hu : settleB g k 3 = false := decide_eq_false fun q => by have := q.2; rw [ek] at this; change (_ ∧ ((g.l.getD k Z8).state = 1 ∨ (g.l.getD k Z8).state = 3) ∨ _ ∧ (g.l.getD k Z8).state = 1) at this; omega
            rw [show settleG g k 3 = g by unfold settleG; rw [hu]; rfl, hu]
            clear hu hk ek
            generalize g.l.getD k Z8 = s at *
            rw [hw3] at C0
            go_enter Try.func42, Try.ntmps42
            go_wp2_with (go_at_call 45; refine C0.mono ?_; rintro e w1 ⟨rfl, L1⟩; have hR1 := h.below L1; clear C0)
            go_ret
            exact ⟨rfl, hR1.below ((Below.refl _ _).alloc (Nat.le_refl _) _), (Fr.of_below L1).alloc _⟩
          · have hu : settleB g k 3 = false := decide_eq_false fun q => by have := q.2; rw [ek] at this; change (_ ∧ ((g.l.getD k Z8).state = 1 ∨ (g.l.getD k Z8).state = 3) ∨ _ ∧ (g.l.getD k Z8).state = 1) at this; omega
            rw [show settleG g k 3 = g by unfold settleG; rw [hu]; rfl, hu]
            clear hu hk ek
            generalize g.l.getD k Z8 = s at *
            go_enter Try.func42, Try.ntmps42
            go_wp2_with (go_at_call 45; refine C0.mono ?_; rintro e w1 ⟨rfl, L1⟩; have hR1 := h.below L1; clear C0)
            go_ret
            exact ⟨rfl, hR1.below ((Below.refl _ _).alloc (Nat.le_refl _) _), (Fr.of_below L1).alloc _⟩
      · have hu : settleB g k st = false := decide_eq_false fun q => by have := q.2; omega
        rw [show settleG g k st = g by unfold settleG; rw [hu]; rfl, hu]
        clear hu hk ek
        generalize g.l.getD k Z8 = s at *
        go_enter Try.func42, Try.ntmps42
        go_wp2_with (go_at_call 45; refine C0.mono ?_; rintro e w1 ⟨rfl, L1⟩; have hR1 := h.below L1; clear C0)
        go_ret
        exact ⟨rfl, hR1.below ((Below.refl _ _).alloc (Nat.le_refl _) _), (Fr.of_below L1).alloc _⟩
  · rw [show getS g pn = Z8 by unfold getS; rw [if_neg hk], show hasN g pn = false by unfold hasN; exact decide_eq_false hk] at C0
    have hu : settleB g pn st = false := decide_eq_false fun q => hk q.1
    rw [show settleG g pn st = g by unfold settleG; rw [hu]; rfl, hu]
    clear hu hk
    go_enter Try.func42, Try.ntmps42
    go_wp2_with (go_at_call 45; refine C0.mono ?_; rintro e w1 ⟨rfl, L1⟩; have hR1 := h.below L1; clear C0)
    go_ret
    exact ⟨rfl, hR1.below ((Below.refl _ _).alloc (Nat.le_refl _) _), (Fr.of_below L1).alloc _⟩
end Go.Proofs.Ytoncominjgkjoaa.Led
