/-
  Contracts of the program's ledger: what reads one number, what turns it.
-/
import Derived.Test.YtoncominjgkjoaaLedTell
set_option linter.unusedSimpArgs false
set_option linter.unusedVariables false
namespace Go.Proofs.Ytoncominjgkjoaa.Led
set_option linter.unusedVariables false
set_option maxRecDepth 20000
open Go.ChangeShapes Go.WideShapes Go.ChangeAt Go.RowKit
open Go.Proofs.Ytoncominjgkjoaa.Base Go.Proofs.Ytoncominjgkjoaa.LedPlain

theorem valid_in (s : Sn) (hs : Words s) (w : World) :
    Calls Try.prog 46 #[.agg #[.int .u64 s.pn, .int .u64 s.off, .int .u64 s.len, .int .u64 s.nonce, .int .u64 s.time, .bool s.coin, .bool s.used, .int .i64 s.state]] w fun e w' => e = .returned (.bool (decide (¬ badS s))) ∧ Below w.heap.size w w' := by
  have hb : (decide (¬ badS s)) = (decide (1 ≤ s.len) && decide (s.len ≤ 1500) && decide (s.off ≤ 4611686018427387903)) := by
    unfold badS
    rw [Bool.eq_iff_iff]
    simp only [Bool.and_eq_true, decide_eq_true_eq]
    omega
  rw [hb]
  clear hb
  unfold Words at hs
  by_cases h1 : 1 ≤ s.len
  · by_cases h2 : s.len ≤ 1500
    · by_cases h3 : s.off ≤ 4611686018427387903
      all_goals
        go_enter Try.func46, Try.ntmps46
        go_wp2
        go_ret
        exact ⟨Base.ret_bool (by simp [h1, h2, h3]), (Below.refl _ _).alloc (Nat.le_refl _) _⟩
    · go_enter Try.func46, Try.ntmps46
      go_wp2
      go_ret
      exact ⟨Base.ret_bool (by simp [h1]; omega), (Below.refl _ _).alloc (Nat.le_refl _) _⟩
  · go_enter Try.func46, Try.ntmps46
    go_wp2
    go_ret
    exact ⟨Base.ret_bool (by simp; omega), (Below.refl _ _).alloc (Nat.le_refl _) _⟩
def follows (a b : Int) : Bool := decide ((b = 2 ∧ (a = 1 ∨ a = 3)) ∨ (b = 3 ∧ a = 1))
theorem follows_in (x y : Int) (x0 : -9223372036854775808 ≤ x) (x1 : x ≤ 9223372036854775807) (y0 : -9223372036854775808 ≤ y) (y1 : y ≤ 9223372036854775807) (w : World) :
    Calls Try.prog 52 #[.int .i64 x, .int .i64 y] w fun e w' => e = .returned (.bool (follows x y)) ∧ w = w' := by
  by_cases h1 : y = 2
  · subst h1
    by_cases h2 : x = 1
    · subst h2
      go_enter Try.func52, Try.ntmps52
      go_wp2
      go_ret
      exact ⟨rfl, rfl⟩
    · by_cases h3 : x = 3
      · subst h3
        go_enter Try.func52, Try.ntmps52
        go_wp2
        go_ret
        exact ⟨rfl, rfl⟩
      · go_enter Try.func52, Try.ntmps52
        go_wp2
        go_ret
        exact ⟨Base.ret_bool (by unfold follows; simp [h2, h3]), rfl⟩
  · by_cases h2 : y = 3
    · subst h2
      by_cases h3 : x = 1
      all_goals
        go_enter Try.func52, Try.ntmps52
        go_wp2
        go_ret
        exact ⟨Base.ret_bool (by unfold follows; simp [h3]), rfl⟩
    · go_enter Try.func52, Try.ntmps52
      go_wp2
      go_ret
      exact ⟨Base.ret_bool (by unfold follows; simp [h1, h2]), rfl⟩
theorem get_in {S : Nat → Prop} {w : World} {b c cap : Nat} {kc : List Sn} {g : Lg} (h : Kp S w b c cap kc g) (pn : Int) (p0 : 0 ≤ pn) (p1 : pn ≤ 18446744073709551615) :
    Calls Try.prog 14 #[.pointer (some ⟨b, 0, none⟩), .int .u64 pn] w fun e w' => e = .returned (.tuple #[.agg #[.int .u64 (getS g pn).pn, .int .u64 (getS g pn).off, .int .u64 (getS g pn).len, .int .u64 (getS g pn).nonce, .int .u64 (getS g pn).time, .bool (getS g pn).coin, .bool (getS g pn).used, .int .i64 (getS g pn).state], .bool (hasN g pn)]) ∧ Below w.heap.size w w' := by
  obtain ⟨k, rfl⟩ := Int.eq_ofNat_of_zero_le p0
  by_cases hk : keptN g k
  · rw [show getS g k = g.l.getD k Z8 by unfold getS; rw [if_pos hk]; rfl, show hasN g k = true by unfold hasN; exact decide_eq_true hk]
    have hk1 : lowN g ≤ k := by have := hk.1; omega
    have hk2 : k < g.l.length := by have := hk.2; omega
    clear hk
    have hs : atN g k = g.l.getD k Z8 := rfl
    generalize g.l.getD k Z8 = s at *
    go_enter Try.func14, Try.ntmps14
    go_upto_region 1 with fail
    have hB := Blk.new w #[.int .u64 0, .int .u64 0, .int .u64 0, .int .u64 0, .int .u64 0, .bool false, .bool false, .int .i64 0] 42
    have hL : Below w.heap.size w (w.alloc (.cells #[.int .u64 0, .int .u64 0, .int .u64 0, .int .u64 0, .int .u64 0, .bool false, .bool false, .int .i64 0] 42)) := (Below.refl _ _).alloc (Nat.le_refl _) _
    have hR := h.below hL
    generalize w.alloc (.cells #[.int .u64 0, .int .u64 0, .int .u64 0, .int .u64 0, .int .u64 0, .bool false, .bool false, .int .i64 0] 42) = W at hB hL hR ⊢
    have C0 := entry_some hR k hk1 hk2
    go_wp2_with (first
      | (go_at_call 37; refine C0.mono ?_; rintro e w1 ⟨rfl, L1⟩; have hB1 := hB.below L1 hB.lt; have hL1 := Base.next hL L1; have hR1 := hR.below L1; have hc := hR1.ltc; obtain ⟨e0, e1, e2, e3, e4, e5, e6, e7⟩ := hR1.cells hk1 hk2; rw [hs] at e0 e1 e2 e3 e4 e5 e6 e7)
      | (refine wpl_store_row rfl 42 (.tmp 4) (.tmp 15) rfl hB1 #[.int .u64 s.pn, .int .u64 s.off, .int .u64 s.len, .int .u64 s.nonce, .int .u64 s.time, .bool s.coin, .bool s.used, .int .i64 s.state] rfl rfl (by kernel_rfl) rfl (by simp [Value.oneCell']) ?_))
    (refine bodyPost_ret (results_rowT rfl _ _ w.heap.size 42 #[.int .u64 s.pn, .int .u64 s.off, .int .u64 s.len, .int .u64 s.nonce, .int .u64 s.time, .bool s.coin, .bool s.used, .int .i64 s.state] _ rfl (hB1.setRow _) Try.underlying42 rfl (by kernel_rfl)) rfl ?_)
    exact ⟨rfl, below_setRow' hL1 (Nat.le_refl _)⟩
  · rw [show getS g k = Z8 by unfold getS; rw [if_neg hk], show hasN g k = false by unfold hasN; exact decide_eq_false hk]
    go_enter Try.func14, Try.ntmps14
    go_upto_region 1 with fail
    have hB := Blk.new w #[.int .u64 0, .int .u64 0, .int .u64 0, .int .u64 0, .int .u64 0, .bool false, .bool false, .int .i64 0] 42
    have hL : Below w.heap.size w (w.alloc (.cells #[.int .u64 0, .int .u64 0, .int .u64 0, .int .u64 0, .int .u64 0, .bool false, .bool false, .int .i64 0] 42)) := (Below.refl _ _).alloc (Nat.le_refl _) _
    have hR := h.below hL
    generalize w.alloc (.cells #[.int .u64 0, .int .u64 0, .int .u64 0, .int .u64 0, .int .u64 0, .bool false, .bool false, .int .i64 0] 42) = W at hB hL hR ⊢
    have C0 := entry_none hR k p0 p1 hk
    clear hk
    go_wp2_with (first
      | (go_at_call 37; refine C0.mono ?_; rintro e w1 ⟨rfl, L1⟩; have hB1 := hB.below L1 hB.lt; have hL1 := Base.next hL L1)
      | (refine wpl_store_row rfl 42 (.tmp 4) (.tmp 12) rfl hB1 #[.int .u64 0, .int .u64 0, .int .u64 0, .int .u64 0, .int .u64 0, .bool false, .bool false, .int .i64 0] rfl rfl (by kernel_rfl) rfl (by simp [Value.oneCell']) ?_))
    (refine bodyPost_ret (results_rowT rfl _ _ w.heap.size 42 #[.int .u64 0, .int .u64 0, .int .u64 0, .int .u64 0, .int .u64 0, .bool false, .bool false, .int .i64 0] _ rfl (hB1.setRow _) Try.underlying42 rfl (by kernel_rfl)) rfl ?_)
    exact ⟨rfl, below_setRow' hL1 (Nat.le_refl _)⟩
/-- One number's place turned. -/
theorem Kp.turned {S : Nat → Prop} {w w' : World} {b c cap : Nat} {kc : List Sn} {g : Lg} (h : Kp S w b c cap kc g) {k : Nat} (k0 : lowN g ≤ k) (k1 : k < g.l.length) {s : Sn} (ho : Ok { g with l := g.l.set k s })
    (hO : Owns w' (.slice (some ⟨c, 0, none⟩) kc.length cap) (kc.set (k % kc.length) s)) (hF : Fr (fun j => j = c) w w') : Kp S w' b c cap (kc.set (k % kc.length) s) { g with l := g.l.set k s } := by
  have hr := h.r0
  have hl := h.low
  refine ⟨ho, h.inB, h.inC, h.ne, ?_, ?_, ?_, ?_⟩
  · simp only [List.length_set]
    exact h.blk.kept hF (fun e => h.ne e.symm)
  · rw [List.length_set]
    exact hO
  · rw [List.length_set]
    exact h.len
  · intro i hi hi2
    rw [low_set] at hi
    simp only [List.length_set] at hi2 ⊢
    by_cases e : k = i
    · subst e
      rw [getD_set_same _ _ (Nat.mod_lt _ (by omega)), at_set k1]
    · rw [getD_set_other _ _ (mod_ne (L := g.l.length) (by omega) (by omega) (by omega) k1 hi2 e), at_set_ne e]
      exact h.at_ i hi hi2
theorem use_in {S : Nat → Prop} {w : World} {b c cap : Nat} {kc : List Sn} {g : Lg} (h : Kp S w b c cap kc g) (pn : Int) (p0 : 0 ≤ pn) (p1 : pn ≤ 18446744073709551615) :
    Calls Try.prog 43 #[.pointer (some ⟨b, 0, none⟩), .int .u64 pn] w fun e w' => e = .returned (.bool (useB g pn)) ∧ (∃ kc', Kp S w' b c cap kc' (useG g pn)) ∧ Fr S w w' := by
  by_cases hk : keptN g pn
  · obtain ⟨k, rfl, hkl, ek⟩ := kept_nat hk
    have hk1 : lowN g ≤ k := by have := hk.1; omega
    have C0 := entry_some h k hk1 hkl
    have hX := fun (W : World) (hW : Below w.heap.size w W) => (h.below hW).cells (k := k) hk1 hkl
    by_cases hn : (g.l.getD k Z8).state ≠ 4 ∧ (g.l.getD k Z8).used = false
    · have hu : useB g k = true := decide_eq_true ⟨hk, by rw [ek]; exact hn.1, by rw [ek]; exact hn.2⟩
      have ho := ok_use h.ok k
      have eu : useG g k = { g with l := g.l.set k { atN g k with used := true } } := by unfold useG; rw [if_pos hu, ek]
      rw [eu] at ho ⊢
      rw [hu]
      clear hu eu hk ek
      have hs : atN g k = g.l.getD k Z8 := rfl
      have ha := h.at_ k hk1 hkl
      generalize hgs : g.l.getD k Z8 = s at *
      rw [hs] at ho ⊢
      rw [hs] at ha
      obtain ⟨h4, hf⟩ := hn
      have HS := Lib.hid hs
      have HO := Lib.hid ho
      have HF := Lib.hid hf
      clear hs ho hf hgs
      go_enter Try.func43, Try.ntmps43
      go_upto_region 1 with fail
      go_upto_region 2 with (go_at_call 37; refine C0.mono ?_; rintro e w1 ⟨rfl, L1⟩; have hR := h.below L1; obtain ⟨_, _, _, _, _, _, e6, e7⟩ := hX _ L1; clear hX; rw [HS.out] at e6 e7; rw [HF.out] at e6; have hc := hR.ltc; clear C0)
      obtain ⟨c', cap', e, q1, q2, q3, q4, q5, q6⟩ := hR.own.set (k := k % kc.length) (Nat.mod_lt _ (by have := h.r0; omega)) 6 (by decide)
      injection e with e1 e2 e3
      injection e1 with e1
      injection e1 with e1 _ _
      subst e1
      subst e3
      rw [ha] at q6
      have Q6 := q6 { s with used := true } (.bool true) rfl
      clear q6 q4 ha
      go_wp2
      go_ret
      exact ⟨rfl, ⟨_, hR.turned hk1 hkl HO.out Q6 ((Fr.refl (fun j => j = c) _).setCell (fun _ => rfl) _)⟩, (Fr.of_below L1).setCell (fun _ => h.inC) _⟩
    · have hu : useB g k = false := decide_eq_false fun q => hn ⟨by have := q.2.1; rw [ek] at this; exact this, by have := q.2.2; rw [ek] at this; exact this⟩
      rw [show useG g k = g by unfold useG; rw [hu]; rfl, hu]
      clear hu hk ek
      have hs : atN g k = g.l.getD k Z8 := rfl
      generalize g.l.getD k Z8 = s at *
      rw [hs] at hX
      clear hs
      by_cases h4 : s.state = 4
      · have HF := Lib.hid h4
        clear h4 hn
        go_enter Try.func43, Try.ntmps43
        go_wp2_with (go_at_call 37; refine C0.mono ?_; rintro e w1 ⟨rfl, L1⟩; have hR := h.below L1; obtain ⟨_, _, _, _, _, _, e6, e7⟩ := hX _ L1; clear hX; rw [HF.out] at e7; have hc := hR.ltc; clear C0)
        go_ret
        exact ⟨rfl, ⟨_, hR⟩, Fr.of_below L1⟩
      · have h5 : s.used = true := by
          cases e : s.used with
          | true => rfl
          | false => exact absurd ⟨h4, e⟩ hn
        have HF := Lib.hid h5
        clear h5 hn
        generalize hy : s.state = y at *
        have HY := Lib.hid hy
        clear hy
        go_enter Try.func43, Try.ntmps43
        go_wp2_with (go_at_call 37; refine C0.mono ?_; rintro e w1 ⟨rfl, L1⟩; have hR := h.below L1; obtain ⟨_, _, _, _, _, _, e6, e7⟩ := hX _ L1; clear hX; rw [HF.out] at e6; rw [HY.out] at e7; have hc := hR.ltc; clear C0)
        go_ret
        exact ⟨rfl, ⟨_, hR⟩, Fr.of_below L1⟩
  · have C0 := entry_none h pn p0 p1 hk
    have hu : useB g pn = false := decide_eq_false fun q => hk q.1
    rw [show useG g pn = g by unfold useG; rw [hu]; rfl, hu]
    clear hu hk
    go_enter Try.func43, Try.ntmps43
    go_wp2_with (go_at_call 37; refine C0.mono ?_; rintro e w1 ⟨rfl, L1⟩; have hR := h.below L1; clear C0)
    go_ret
    exact ⟨rfl, ⟨_, hR⟩, Fr.of_below L1⟩
theorem settle_in {S : Nat → Prop} {w : World} {b c cap : Nat} {kc : List Sn} {g : Lg} (h : Kp S w b c cap kc g) (pn st : Int) (p0 : 0 ≤ pn) (p1 : pn ≤ 18446744073709551615) (s0 : -9223372036854775808 ≤ st) (s1 : st ≤ 9223372036854775807) :
    Calls Try.prog 41 #[.pointer (some ⟨b, 0, none⟩), .int .u64 pn, .int .i64 st] w fun e w' => e = .returned (.bool (settleB g pn st)) ∧ (∃ kc', Kp S w' b c cap kc' (settleG g pn st)) ∧ Fr S w w' := by
  by_cases hk : keptN g pn
  · obtain ⟨k, rfl, hkl, ek⟩ := kept_nat hk
    have hk1 : lowN g ≤ k := by have := hk.1; omega
    have C0 := entry_some h k hk1 hkl
    have hX := fun (W : World) (hW : Below w.heap.size w W) => (h.below hW).cells (k := k) hk1 hkl
    have hw := (h.ok.each k hkl).2.1
    have C1 := follows_in (atN g k).state st (by unfold Words at hw; omega) (by unfold Words at hw; omega) s0 s1
    have hb : settleB g k st = follows (atN g k).state st := by
      unfold settleB follows
      rw [ek]
      exact decide_eq_decide.2 ⟨fun q => q.2, fun q => ⟨hk, q⟩⟩
    have ho := ok_settle h.ok k st
    have eu : settleG g k st = if follows (atN g k).state st = true then { g with l := g.l.set k { atN g k with state := st } } else g := by unfold settleG; rw [hb, ek]
    have ha := h.at_ k hk1 hkl
    rw [eu] at ho ⊢
    rw [hb]
    clear eu hb hk ek hw
    generalize hgs : atN g k = s at *
    clear hgs
    cases hf : follows s.state st with
    | true =>
      rw [hf] at C1 ho
      rw [if_pos rfl] at ho ⊢
      have HO := Lib.hid ho
      clear ho hf
      generalize hy : s.state = y at *
      have HY := Lib.hid hy
      clear hy
      go_enter Try.func41, Try.ntmps41
      go_upto_region 1 with fail
      go_upto_region 2 with (go_at_call 37; refine C0.mono ?_; rintro e w1 ⟨rfl, L1⟩; have hR := h.below L1; obtain ⟨_, _, _, _, _, _, e6, e7⟩ := hX _ L1; clear hX; rw [HY.out] at e7; have hc := hR.ltc; clear C0)
      obtain ⟨c', cap', e, q1, q2, q3, q4, q5, q6⟩ := hR.own.set (k := k % kc.length) (Nat.mod_lt _ (by have := h.r0; omega)) 7 (by decide)
      injection e with e1 e2 e3
      injection e1 with e1
      injection e1 with e1 _ _
      subst e1
      subst e3
      rw [ha] at q6
      have Q6 := q6 { s with state := st } (.int .i64 st) rfl
      clear q6 q4 ha
      go_wp2_with (go_at_call 52; refine (C1 _).mono ?_; rintro e w2 ⟨rfl, rfl⟩)
      go_ret
      exact ⟨rfl, ⟨_, hR.turned hk1 hkl HO.out Q6 ((Fr.refl (fun j => j = c) _).setCell (fun _ => rfl) _)⟩, (Fr.of_below L1).setCell (fun _ => h.inC) _⟩
    | false =>
      rw [hf] at C1
      rw [if_neg (by decide)]
      clear ho hf
      generalize hy : s.state = y at *
      have HY := Lib.hid hy
      clear hy
      go_enter Try.func41, Try.ntmps41
      go_wp2_with (first
        | (go_at_call 37; refine C0.mono ?_; rintro e w1 ⟨rfl, L1⟩; have hR := h.below L1; obtain ⟨_, _, _, _, _, _, e6, e7⟩ := hX _ L1; clear hX; rw [HY.out] at e7; have hc := hR.ltc; clear C0)
        | (go_at_call 52; refine (C1 _).mono ?_; rintro e w2 ⟨rfl, rfl⟩))
      go_ret
      exact ⟨rfl, ⟨_, hR⟩, Fr.of_below L1⟩
  · have C0 := entry_none h pn p0 p1 hk
    have hu : settleB g pn st = false := decide_eq_false fun q => hk q.1
    rw [show settleG g pn st = g by unfold settleG; rw [hu]; rfl, hu]
    clear hu hk
    go_enter Try.func41, Try.ntmps41
    go_wp2_with (go_at_call 37; refine C0.mono ?_; rintro e w1 ⟨rfl, L1⟩; have hR := h.below L1; clear C0)
    go_ret
    exact ⟨rfl, ⟨_, hR⟩, Fr.of_below L1⟩
end Go.Proofs.Ytoncominjgkjoaa.Led
