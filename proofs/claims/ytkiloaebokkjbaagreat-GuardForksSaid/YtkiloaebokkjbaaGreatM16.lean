/-
  Several texts in one: LedRef, LedRef2, LedRef3, LedKp, LedSame.
-/
import Derived.Test.YtkiloaebokkjbaaGreatM15
import Derived.Test.YtkiloaebokkjbaaGreatIn
import Derived.WalkSpells
import Derived.LoopTactic
import Derived.Lib.Hide
import Derived.BigQuiet
import Derived.Deep.QuietTactic
import Derived.Deep.RegionHeld3
import Derived.Deep.RegionWith
import Derived.Deep.RegionLaw
import Derived.Deep.DeepCutAuto
import Derived.Outline
import Derived.Deep.MidRow
/-
  Contracts of the reference's ledger: what it tells.
-/
set_option linter.unusedSimpArgs false
set_option linter.unusedVariables false
namespace Go.Proofs.YtkiloaebokkjbaaGreat.Led
set_option linter.unusedVariables false
set_option maxRecDepth 20000
open Go.ChangeShapes Go.WideShapes Go.ChangeAt Go.RowKit
open Go.Proofs.YtkiloaebokkjbaaGreat.Base Go.Proofs.YtkiloaebokkjbaaGreat.LedPlain

/-- The reference's ledger g: its block b and the row of all that ever was given lie in S. -/
structure Rf (S : Nat → Prop) (w : World) (b : Nat) (g : Lg) : Prop where
  ok : Ok g
  inB : S b
  ex : ∃ v, Blk w b #[.int .i64 g.ring, .int .u64 g.limit, v] 132 ∧ Owns w v g.l ∧ ∀ k, v.ownBlock = some k → S k ∧ k ≠ b
theorem Rf.kept {S T : Nat → Prop} {w w' : World} {b : Nat} {g : Lg} (h : Rf S w b g) (hf : Fr T w w') (hn : ∀ k, S k → ¬ T k) : Rf S w' b g := by
  obtain ⟨v, hB, hO, hv⟩ := h.ex
  exact ⟨h.ok, h.inB, v, hB.kept hf (hn b h.inB), hO.kept hf fun k hk => hn k (hv k hk).1, hv⟩
theorem Rf.below {S : Nat → Prop} {w w' : World} {b : Nat} {g : Lg} (h : Rf S w b g) (hb : Below w.heap.size w w') : Rf S w' b g := h.kept (T := fun _ => False) (Fr.of_below hb) fun _ _ h => h
theorem Rf.mono {S T : Nat → Prop} {w : World} {b : Nat} {g : Lg} (h : Rf S w b g) (hn : ∀ k, S k → T k) : Rf T w b g := by
  obtain ⟨v, hB, hO, hv⟩ := h.ex
  exact ⟨h.ok, hn b h.inB, v, hB, hO, fun k hk => ⟨hn k (hv k hk).1, (hv k hk).2⟩⟩
theorem Rf.drew {S : Nat → Prop} {w : World} {b : Nat} {g : Lg} (h : Rf S w b g) : Rf S w.drew b g := ⟨h.ok, h.inB, h.ex⟩
theorem Rf.lt {S : Nat → Prop} {w : World} {b : Nat} {g : Lg} (h : Rf S w b g) : b < w.heap.size := by
  obtain ⟨v, hB, _⟩ := h.ex
  exact hB.lt
/-- What a walk reads of it. -/
theorem Rf.read {S : Nat → Prop} {w : World} {b : Nat} {g : Lg} (h : Rf S w b g) : ∃ a cap, w.cell? ⟨b, 0, none⟩ = some (.int .i64 g.ring) ∧ w.cell? ⟨b, 1, none⟩ = some (.int .u64 g.limit) ∧ w.cell? ⟨b, 2, none⟩ = some (.slice a g.l.length cap) ∧ g.l.length ≤ cap ∧ cap ≤ maxLen ∧ Sents w a g.l := by
  obtain ⟨v, hB, hO, _⟩ := h.ex
  obtain ⟨a, cap, rfl, h1, h2, h3, _⟩ := hO.read
  exact ⟨a, cap, hB.cell 0, hB.cell 1, hB.cell 2, h1, h2, h3⟩

theorem ref_next {S : Nat → Prop} {w : World} {b : Nat} {g : Lg} (h : Rf S w b g) :
    Calls Tryz.prog 60 #[.pointer (some ⟨b, 0, none⟩)] w fun e w' => e = .returned (.int .u64 g.l.length) ∧ w = w' := by
  obtain ⟨a, cap, c0, c1, c2, h1, h2, hz⟩ := h.read
  unfold maxLen at h2
  have hb := h.lt
  go_enter Tryz.func60, Tryz.ntmps60
  go_wp2
  go_ret
  exact ⟨rfl, rfl⟩
theorem ref_low {S : Nat → Prop} {w : World} {b : Nat} {g : Lg} (h : Rf S w b g) :
    Calls Tryz.prog 53 #[.pointer (some ⟨b, 0, none⟩)] w fun e w' => e = .returned (.int .u64 (lowN g)) ∧ Below w.heap.size w w' := by
  obtain ⟨a, cap, c0, c1, c2, h1, h2, hz⟩ := h.read
  unfold maxLen at h2
  have hb := h.lt
  have r0 := h.ok.r0
  have r1 := h.ok.r1
  have hlow : (lowN g : Int) = if (0 : Int) < (g.l.length : Int) - g.ring then (g.l.length : Int) - g.ring else 0 := by
    unfold lowN
    split <;> omega
  generalize (lowN g : Int) = L at *
  generalize g.l.length = n at *
  generalize g.ring = r at *
  go_enter Tryz.func53, Tryz.ntmps53
  go_wp2
  go_quiet (fail)
  all_goals go_wp2
  all_goals go_ret
  all_goals exact ⟨rfl, Base.drawn (Below.refl _ _) _⟩
theorem first_step {l : List Sn} {k : Nat} (h : k < l.length) : firstF k (l.drop k) = if (l.getD k Z8).state = 1 then k else firstF (k + 1) (l.drop (k + 1)) := by
  rw [List.drop_eq_getElem_cons h, firstF, show l.getD k Z8 = l[k] by simp [List.getD, h]]
theorem ref_least {S : Nat → Prop} {w : World} {b : Nat} {g : Lg} (h : Rf S w b g) :
    Calls Tryz.prog 69 #[.pointer (some ⟨b, 0, none⟩)] w fun e w' => e = .returned (.int .u64 (leastN g)) ∧ Below w.heap.size w w' := by
  have hlow := low_le g
  have hN : firstF (lowN g) (g.l.drop (lowN g)) = leastN g := rfl
  have C0 := ref_low h
  generalize lowN g = k0 at *
  generalize leastN g = K at *
  have hnl : (g.l.length : Int) ≤ 4611686018427387904 := by have := h.ok.n1; have := h.ok.l1; omega
  go_enter Tryz.func69, Tryz.ntmps69
  go_wp2_with (go_at_call 53; refine C0.mono ?_; rintro e w1 ⟨rfl, L1⟩; clear C0)
  go_loopw [3] (fun i wr => ∃ k : Nat, k ≤ g.l.length ∧ i = .int .i64 k ∧ firstF k (g.l.drop k) = K ∧ Below w.heap.size w wr) (fun i _ => g.l.length - (intOf i).toNat)
  case atStart => exact ⟨k0, hlow, rfl, hN, L1⟩
  case round =>
    obtain ⟨k, hk, rfl, hF, hL⟩ := hrel
    obtain ⟨a, cap, c0, c1, c2, h1, h2, hz⟩ := (h.below hL).read
    have hb := (h.below hL).lt
    unfold maxLen at h2
    by_cases hlt : k < g.l.length
    · rw [first_step hlt] at hF
      obtain ⟨b', off', rfl, hb', e0, e1, e2, e3, e4, e5, e6, e7⟩ := hz.at_ hlt
      generalize g.l.getD k Z8 = s at *
      clear e0 e1 e2 e3 e4 e5 e6 c0 c1
      by_cases hs : s.state = 1
      · rw [if_pos hs] at hF
        subst hF
        go_wp2
        go_ret
        exact ⟨rfl, hL⟩
      · rw [if_neg hs] at hF
        go_wp2
        all_goals go_roundw
        case rel => exact ⟨k + 1, by omega, by go_num, hF, hL⟩
        case measure => simp [intOf]; omega
    · obtain rfl : k = g.l.length := by omega
      rw [List.drop_eq_nil_of_le (Nat.le_refl _)] at hF
      obtain rfl : g.l.length = K := hF
      go_wp2
      go_ret
      exact ⟨rfl, hL⟩
theorem ref_room {S : Nat → Prop} {w : World} {b : Nat} {g : Lg} (h : Rf S w b g) :
    Calls Tryz.prog 71 #[.pointer (some ⟨b, 0, none⟩)] w fun e w' => e = .returned (.int .i64 (roomI g)) ∧ Below w.heap.size w w' := by
  obtain ⟨a, cap, c0, _, _, _⟩ := h.read
  have CN := fun p : In (Lt w) => ref_next (h.below p.h)
  have CL := fun p : In (Lt w) => ref_least (h.below p.h)
  have e0 := fun p : In (Lt w) => inCell p c0
  have hge := least_le g
  have hrm : roomI g = g.ring - ((g.l.length : Int) - leastN g) := rfl
  have hR := room_ge h.ok
  have hR2 := room_le h.ok
  have r1 := h.ok.r1
  have hnl : (g.l.length : Int) ≤ 4611686018427387904 := by have := h.ok.n1; have := h.ok.l1; omega
  clear h c0
  generalize leastN g = K at *
  generalize roomI g = R at *
  generalize g.l.length = n at *
  generalize g.ring = r at *
  go_enter Tryz.func71, Tryz.ntmps71
  go_wp2
  refine wp_region_in (Lt w) (Lt.drew w) (by kernel_rfl) (by kernel_rfl) ?_
  repeat (go_big_quiet_step ((first | (go_at_call 60; refine in_same (v := .int .u64 n) ?_; exact CN _) | (go_at_call 69; refine in_below (v := .int .u64 K) ?_; exact CL _))))
  refine wpQuiet_nil ?_
  rintro _ ⟨⟨w1, hw1⟩, rfl⟩
  go_wp2
  go_ret
  exact ⟨Base.ret_i64 (by omega), hw1⟩
theorem fly_step {l : List Sn} {k : Nat} (h : k < l.length) : fly (l.drop k) = (if (l.getD k Z8).state = 1 then (l.getD k Z8).len else 0) + fly (l.drop (k + 1)) := by
  rw [List.drop_eq_getElem_cons h, fly, show l.getD k Z8 = l[k] by simp [List.getD, h]]
theorem fly_bd {g : Lg} (h : Ok g) (k : Nat) : 0 ≤ fly (g.l.drop k) ∧ fly (g.l.drop k) ≤ 1500 * ((g.l.length - k : Nat) : Int) := by
  have := fly_le (g.l.drop k) fun s hs he => by
    obtain ⟨i, hi, rfl⟩ := List.getElem_of_mem hs
    rw [List.getElem_drop] at he ⊢
    rw [List.length_drop] at hi
    have := h.each (k + i) (by omega)
    rw [show atN g (k + i) = g.l[k + i] by unfold atN; simp [List.getD, show k + i < g.l.length by omega]] at this
    have := this.2.2.2.2.1 (by omega)
    omega
  rwa [List.length_drop] at this
theorem flight_bd {g : Lg} (h : Ok g) : 0 ≤ flight g ∧ flight g ≤ 384000 := by
  have := fly_bd h (lowN g)
  have r1 := h.r1
  unfold flight
  refine ⟨this.1, Int.le_trans this.2 ?_⟩
  unfold lowN
  omega
theorem ref_flight {S : Nat → Prop} {w : World} {b : Nat} {g : Lg} (h : Rf S w b g) :
    Calls Tryz.prog 73 #[.pointer (some ⟨b, 0, none⟩)] w fun e w' => e = .returned (.int .u64 (flight g)) ∧ Below w.heap.size w w' := by
  have hlow := low_le g
  have hN : (0 : Int) + fly (g.l.drop (lowN g)) = flight g := Int.zero_add _
  obtain ⟨_, hF1⟩ := flight_bd h.ok
  have C0 := ref_low h
  generalize lowN g = k0 at *
  generalize flight g = F at *
  have hnl : (g.l.length : Int) ≤ 4611686018427387904 := by have := h.ok.n1; have := h.ok.l1; omega
  go_enter Tryz.func73, Tryz.ntmps73
  go_wp2_with (go_at_call 53; refine C0.mono ?_; rintro e w1 ⟨rfl, L1⟩; clear C0)
  go_loopw [3, 4] (fun o i wr => ∃ (k : Nat) (n : Int), k ≤ g.l.length ∧ i = .int .i64 k ∧ o = .int .u64 n ∧ 0 ≤ n ∧ n + fly (g.l.drop k) = F ∧ Below w.heap.size w wr) (fun _ i _ => g.l.length - (intOf i).toNat)
  case atStart => exact ⟨k0, 0, hlow, rfl, rfl, Int.le_refl _, hN, L1⟩
  case round =>
    obtain ⟨k, n, hk, rfl, rfl, hn0, hF, hL⟩ := hrel
    obtain ⟨a, cap, c0, c1, c2, h1, h2, hz⟩ := (h.below hL).read
    have hb := (h.below hL).lt
    unfold maxLen at h2
    have hbd := fly_bd h.ok k
    have hbd1 := fly_bd h.ok (k + 1)
    by_cases hlt : k < g.l.length
    · rw [fly_step hlt] at hF
      have hE := h.ok.each k hlt
      rw [show atN g k = g.l.getD k Z8 from rfl] at hE
      obtain ⟨b', off', rfl, hb', e0, e1, e2, e3, e4, e5, e6, e7⟩ := hz.at_ hlt
      generalize g.l.getD k Z8 = s at *
      clear e0 e1 e3 e4 e5 e6 c0 c1 hN
      generalize hfe : fly (g.l.drop (k + 1)) = f at *
      have HF := Lib.hid hfe
      clear hfe
      obtain ⟨f0, _⟩ := hbd1
      obtain ⟨_, _, _, _, hE, _, _⟩ := hE
      clear hbd
      by_cases hs : s.state = 1
      · rw [if_pos hs] at hF
        obtain ⟨l0, l1, _⟩ := hE (by omega)
        clear hE
        generalize s.len = x at *
        generalize s.state = y at *
        subst hs
        have hF' := Lib.hid hF
        have hx : n + x ≤ 384000 := by omega
        clear hF
        go_wp2
        all_goals go_roundw
        case rel => exact ⟨k + 1, n + x, by omega, by go_num, rfl, by omega, by rw [HF.out]; have := hF'.out; omega, hL⟩
        case measure => simp [intOf]; omega
      · rw [if_neg hs] at hF
        clear hE e2
        go_wp2
        all_goals go_roundw
        case rel => exact ⟨k + 1, n, by omega, by go_num, rfl, hn0, by rw [HF.out]; omega, hL⟩
        case measure => simp [intOf]; omega
    · obtain rfl : k = g.l.length := by omega
      rw [List.drop_eq_nil_of_le (Nat.le_refl _)] at hF
      obtain rfl : n = F := by have : fly [] = 0 := rfl; omega
      go_wp2
      go_ret
      exact ⟨rfl, hL⟩
end Go.Proofs.YtkiloaebokkjbaaGreat.Led

/-
  Contracts of the reference's ledger: what turns it, what makes one.
-/
set_option linter.unusedSimpArgs false
set_option linter.unusedVariables false
namespace Go.Proofs.YtkiloaebokkjbaaGreat.Led
set_option linter.unusedVariables false
set_option maxRecDepth 20000
open Go.ChangeShapes Go.WideShapes Go.ChangeAt Go.RowKit
open Go.Proofs.YtkiloaebokkjbaaGreat.Base Go.Proofs.YtkiloaebokkjbaaGreat.LedPlain

theorem ref_get {S : Nat → Prop} {w : World} {b : Nat} {g : Lg} (h : Rf S w b g) (pn : Int) (p0 : 0 ≤ pn) (p1 : pn ≤ 18446744073709551615) :
    Calls Tryz.prog 52 #[.pointer (some ⟨b, 0, none⟩), .int .u64 pn] w fun e w' => e = .returned (.tuple #[.agg #[.int .u64 (getS g pn).pn, .int .u64 (getS g pn).off, .int .u64 (getS g pn).len, .int .u64 (getS g pn).nonce, .int .u64 (getS g pn).time, .bool (getS g pn).coin, .bool (getS g pn).used, .int .i64 (getS g pn).state], .bool (hasN g pn)]) ∧ Below w.heap.size w w' := by
  obtain ⟨k, rfl⟩ := Int.eq_ofNat_of_zero_le p0
  have hnl : (g.l.length : Int) ≤ 4611686018427387904 := by have := h.ok.n1; have := h.ok.l1; omega
  have hlow := low_le g
  have hLow : (lowN g : Int) ≤ 4611686018427387904 := by omega
  by_cases h1 : (k : Int) < lowN g
  · have hk : ¬ keptN g k := by unfold keptN; omega
    rw [show getS g k = Z8 by unfold getS; rw [if_neg hk], show hasN g k = false by unfold hasN; exact decide_eq_false hk]
    clear hk
    go_enter Tryz.func52, Tryz.ntmps52
    go_upto_region 1 with fail
    have hB := Blk.new w #[.int .u64 0, .int .u64 0, .int .u64 0, .int .u64 0, .int .u64 0, .bool false, .bool false, .int .i64 0] 76
    have hL : Below w.heap.size w (w.alloc (.cells #[.int .u64 0, .int .u64 0, .int .u64 0, .int .u64 0, .int .u64 0, .bool false, .bool false, .int .i64 0] 76)) := (Below.refl _ _).alloc (Nat.le_refl _) _
    have hR := h.below hL
    generalize w.alloc (.cells #[.int .u64 0, .int .u64 0, .int .u64 0, .int .u64 0, .int .u64 0, .bool false, .bool false, .int .i64 0] 76) = W at hB hL hR ⊢
    have C0 := ref_low hR
    generalize (lowN g : Int) = L at *
    go_wp2_with (first
      | (go_at_call 53; refine C0.mono ?_; rintro e w1 ⟨rfl, L1⟩; have hB1 := hB.below L1 hB.lt; have hL1 := Base.next hL L1)
      | (refine wpl_store_row rfl 76 (.tmp 4) (.tmp 16) rfl hB1 #[.int .u64 0, .int .u64 0, .int .u64 0, .int .u64 0, .int .u64 0, .bool false, .bool false, .int .i64 0] rfl rfl (by kernel_rfl) rfl (by simp [Value.oneCell']) ?_))
    (refine bodyPost_ret (results_rowT rfl _ _ w.heap.size 76 #[.int .u64 0, .int .u64 0, .int .u64 0, .int .u64 0, .int .u64 0, .bool false, .bool false, .int .i64 0] _ rfl (hB1.setRow _) Tryz.underlying76 rfl (by kernel_rfl)) rfl ?_)
    exact ⟨rfl, below_setRow' hL1 (Nat.le_refl _)⟩
  · by_cases h2 : k < g.l.length
    · have hk : keptN g k := by unfold keptN; omega
      rw [show getS g k = g.l.getD k Z8 by unfold getS; rw [if_pos hk]; rfl, show hasN g k = true by unfold hasN; exact decide_eq_true hk]
      clear hk
      generalize hs : g.l.getD k Z8 = s at *
      have h2' : (k : Int) < (g.l.length : Int) := by omega
      go_enter Tryz.func52, Tryz.ntmps52
      go_upto_region 1 with fail
      have hB := Blk.new w #[.int .u64 0, .int .u64 0, .int .u64 0, .int .u64 0, .int .u64 0, .bool false, .bool false, .int .i64 0] 76
      have hL : Below w.heap.size w (w.alloc (.cells #[.int .u64 0, .int .u64 0, .int .u64 0, .int .u64 0, .int .u64 0, .bool false, .bool false, .int .i64 0] 76)) := (Below.refl _ _).alloc (Nat.le_refl _) _
      have hR := h.below hL
      generalize w.alloc (.cells #[.int .u64 0, .int .u64 0, .int .u64 0, .int .u64 0, .int .u64 0, .bool false, .bool false, .int .i64 0] 76) = W at hB hL hR ⊢
      have C0 := ref_low hR
      generalize (lowN g : Int) = L at *
      go_wp2_with (first
        | (go_at_call 53; refine C0.mono ?_; rintro e w1 ⟨rfl, L1⟩; have hB1 := hB.below L1 hB.lt; have hL1 := Base.next hL L1; have hR1 := hR.below L1; have hb := hR1.lt; obtain ⟨a, cap, c0, c1, c2, h3, h4, hz⟩ := hR1.read; unfold maxLen at h4; have C1 := ref_next hR1; obtain ⟨b', off', rfl, hb', e0, e1, e2, e3, e4, e5, e6, e7⟩ := hz.at_ h2; rw [hs] at e0 e1 e2 e3 e4 e5 e6 e7)
        | (go_at_call 60; refine C1.mono ?_; rintro e w2 ⟨rfl, rfl⟩)
        | (refine wpl_store_row rfl 76 (.tmp 4) (.tmp 24) rfl hB1 #[.int .u64 s.pn, .int .u64 s.off, .int .u64 s.len, .int .u64 s.nonce, .int .u64 s.time, .bool s.coin, .bool s.used, .int .i64 s.state] rfl rfl (by kernel_rfl) rfl (by simp [Value.oneCell']) ?_))
      (refine bodyPost_ret (results_rowT rfl _ _ w.heap.size 76 #[.int .u64 s.pn, .int .u64 s.off, .int .u64 s.len, .int .u64 s.nonce, .int .u64 s.time, .bool s.coin, .bool s.used, .int .i64 s.state] _ rfl (hB1.setRow _) Tryz.underlying76 rfl (by kernel_rfl)) rfl ?_)
      exact ⟨rfl, below_setRow' hL1 (Nat.le_refl _)⟩
    · have hk : ¬ keptN g k := by unfold keptN; omega
      rw [show getS g k = Z8 by unfold getS; rw [if_neg hk], show hasN g k = false by unfold hasN; exact decide_eq_false hk]
      clear hk
      have h2' : (g.l.length : Int) ≤ (k : Int) := by omega
      go_enter Tryz.func52, Tryz.ntmps52
      go_upto_region 1 with fail
      have hB := Blk.new w #[.int .u64 0, .int .u64 0, .int .u64 0, .int .u64 0, .int .u64 0, .bool false, .bool false, .int .i64 0] 76
      have hL : Below w.heap.size w (w.alloc (.cells #[.int .u64 0, .int .u64 0, .int .u64 0, .int .u64 0, .int .u64 0, .bool false, .bool false, .int .i64 0] 76)) := (Below.refl _ _).alloc (Nat.le_refl _) _
      have hR := h.below hL
      generalize w.alloc (.cells #[.int .u64 0, .int .u64 0, .int .u64 0, .int .u64 0, .int .u64 0, .bool false, .bool false, .int .i64 0] 76) = W at hB hL hR ⊢
      have C0 := ref_low hR
      generalize (lowN g : Int) = L at *
      go_wp2_with (first
        | (go_at_call 53; refine C0.mono ?_; rintro e w1 ⟨rfl, L1⟩; have hB1 := hB.below L1 hB.lt; have hL1 := Base.next hL L1; have C1 := ref_next (hR.below L1))
        | (go_at_call 60; refine C1.mono ?_; rintro e w2 ⟨rfl, rfl⟩)
        | (refine wpl_store_row rfl 76 (.tmp 4) (.tmp 16) rfl hB1 #[.int .u64 0, .int .u64 0, .int .u64 0, .int .u64 0, .int .u64 0, .bool false, .bool false, .int .i64 0] rfl rfl (by kernel_rfl) rfl (by simp [Value.oneCell']) ?_))
      (refine bodyPost_ret (results_rowT rfl _ _ w.heap.size 76 #[.int .u64 0, .int .u64 0, .int .u64 0, .int .u64 0, .int .u64 0, .bool false, .bool false, .int .i64 0] _ rfl (hB1.setRow _) Tryz.underlying76 rfl (by kernel_rfl)) rfl ?_)
      exact ⟨rfl, below_setRow' hL1 (Nat.le_refl _)⟩
/-- Which number's place it is. -/
theorem kept_nat {g : Lg} {pn : Int} (h : keptN g pn) : ∃ k : Nat, pn = k ∧ k < g.l.length ∧ pn.toNat = k := by
  unfold keptN at h
  exact ⟨pn.toNat, by omega, by omega, rfl⟩
theorem ref_use {S : Nat → Prop} {w : World} {b : Nat} {g : Lg} (h : Rf S w b g) (pn : Int) (p0 : 0 ≤ pn) (p1 : pn ≤ 18446744073709551615) :
    Calls Tryz.prog 20 #[.pointer (some ⟨b, 0, none⟩), .int .u64 pn] w fun e w' => e = .returned (.bool (useB g pn)) ∧ Rf S w' b (useG g pn) ∧ Fr S w w' := by
  have C0 := ref_get h pn p0 p1
  by_cases hk : keptN g pn
  · obtain ⟨k, rfl, hkl, ek⟩ := kept_nat hk
    rw [show getS g k = g.l.getD k Z8 by unfold getS; rw [if_pos hk]; rfl, show hasN g k = true by unfold hasN; exact decide_eq_true hk] at C0
    have hnl : (g.l.length : Int) ≤ 4611686018427387904 := by have := h.ok.n1; have := h.ok.l1; omega
    have hk' : (k : Int) < (g.l.length : Int) := by omega
    by_cases hn : (g.l.getD k Z8).state ≠ 4 ∧ (g.l.getD k Z8).used = false
    · have hu : useB g k = true := decide_eq_true ⟨hk, by rw [ek]; exact hn.1, by rw [ek]; exact hn.2⟩
      have ho := ok_use h.ok k
      have eu : useG g k = { g with l := g.l.set k { g.l.getD k Z8 with used := true } } := by unfold useG; rw [if_pos hu, ek]; rfl
      rw [eu] at ho ⊢
      rw [hu]
      clear hu eu hk ek
      generalize hs : g.l.getD k Z8 = s at *
      obtain ⟨h4, hf⟩ := hn
      rw [hf] at C0
      go_enter Tryz.func20, Tryz.ntmps20
      go_upto_region 1 with fail
      go_upto_region 4 with (go_at_call 52; refine C0.mono ?_; rintro e w1 ⟨rfl, L1⟩; have hR1 := h.below L1; clear C0)
      obtain ⟨v, hB, hO, hv⟩ := hR1.ex
      obtain ⟨g0, cap, rfl, q1, q2, q3, q4, q5, q6⟩ := (hO.alloc (.cells #[.int .u64 s.pn, .int .u64 s.off, .int .u64 s.len, .int .u64 s.nonce, .int .u64 s.time, .bool s.coin, .bool false, .int .i64 s.state] 76)).set hkl 6 (by decide)
      rw [hs] at q4 q6
      obtain ⟨e0, e1, e2, e3, e4, e5, e6, e7⟩ := q4
      have B1 := hB.alloc (.cells #[.int .u64 s.pn, .int .u64 s.off, .int .u64 s.len, .int .u64 s.nonce, .int .u64 s.time, .bool s.coin, .bool false, .int .i64 s.state] 76)
      have c2 : (w1.alloc (.cells #[.int .u64 s.pn, .int .u64 s.off, .int .u64 s.len, .int .u64 s.nonce, .int .u64 s.time, .bool s.coin, .bool false, .int .i64 s.state] 76)).cell? ⟨b, 2, none⟩ = some (.slice (some ⟨g0, 0, none⟩) g.l.length cap) := B1.cell 2
      have hb := B1.lt
      have hF : Fr S w (w1.alloc (.cells #[.int .u64 s.pn, .int .u64 s.off, .int .u64 s.len, .int .u64 s.nonce, .int .u64 s.time, .bool s.coin, .bool false, .int .i64 s.state] 76)) := (Fr.of_below L1).alloc _
      unfold maxLen at q2
      have hvg := hv g0 rfl
      have Q6 := q6 { s with used := true } (.bool true) rfl
      clear q6 hv hO hB hs
      generalize w1.alloc (.cells #[.int .u64 s.pn, .int .u64 s.off, .int .u64 s.len, .int .u64 s.nonce, .int .u64 s.time, .bool s.coin, .bool false, .int .i64 s.state] 76) = W at *
      go_wp2
      go_ret
      exact ⟨rfl, ⟨ho, h.inB, _, B1.other hvg.2.symm _, Q6, fun x hx => by cases hx; exact hvg⟩, hF.setCell (fun _ => hvg.1) _⟩
    · have hu : useB g k = false := decide_eq_false fun q => hn ⟨by have := q.2.1; rw [ek] at this; exact this, by have := q.2.2; rw [ek] at this; exact this⟩
      rw [show useG g k = g by unfold useG; rw [hu]; rfl, hu]
      clear hu hk ek
      generalize g.l.getD k Z8 = s at *
      by_cases h4 : s.state = 4
      · rw [h4] at C0
        go_enter Tryz.func20, Tryz.ntmps20
        go_wp2_with (go_at_call 52; refine C0.mono ?_; rintro e w1 ⟨rfl, L1⟩; have hR1 := h.below L1; clear C0)
        go_ret
        exact ⟨rfl, hR1.below ((Below.refl _ _).alloc (Nat.le_refl _) _), (Fr.of_below L1).alloc _⟩
      · have h5 : s.used = true := by
          cases e : s.used with
          | true => rfl
          | false => exact absurd ⟨h4, e⟩ hn
        rw [h5] at C0
        go_enter Tryz.func20, Tryz.ntmps20
        go_wp2_with (go_at_call 52; refine C0.mono ?_; rintro e w1 ⟨rfl, L1⟩; have hR1 := h.below L1; clear C0)
        go_ret
        exact ⟨rfl, hR1.below ((Below.refl _ _).alloc (Nat.le_refl _) _), (Fr.of_below L1).alloc _⟩
  · rw [show getS g pn = Z8 by unfold getS; rw [if_neg hk], show hasN g pn = false by unfold hasN; exact decide_eq_false hk] at C0
    have hu : useB g pn = false := decide_eq_false fun q => hk q.1
    rw [show useG g pn = g by unfold useG; rw [hu]; rfl, hu]
    clear hu hk
    go_enter Tryz.func20, Tryz.ntmps20
    go_wp2_with (go_at_call 52; refine C0.mono ?_; rintro e w1 ⟨rfl, L1⟩; have hR1 := h.below L1; clear C0)
    go_ret
    exact ⟨rfl, hR1.below ((Below.refl _ _).alloc (Nat.le_refl _) _), (Fr.of_below L1).alloc _⟩
theorem ref_settle {S : Nat → Prop} {w : World} {b : Nat} {g : Lg} (h : Rf S w b g) (pn st : Int) (p0 : 0 ≤ pn) (p1 : pn ≤ 18446744073709551615) :
    Calls Tryz.prog 79 #[.pointer (some ⟨b, 0, none⟩), .int .u64 pn, .int .i64 st] w fun e w' => e = .returned (.bool (settleB g pn st)) ∧ Rf S w' b (settleG g pn st) ∧ Fr S w w' := by
  have C0 := ref_get h pn p0 p1
  by_cases hk : keptN g pn
  · obtain ⟨k, rfl, hkl, ek⟩ := kept_nat hk
    rw [show getS g k = g.l.getD k Z8 by unfold getS; rw [if_pos hk]; rfl, show hasN g k = true by unfold hasN; exact decide_eq_true hk] at C0
    have hnl : (g.l.length : Int) ≤ 4611686018427387904 := by have := h.ok.n1; have := h.ok.l1; omega
    have hk' : (k : Int) < (g.l.length : Int) := by omega
    by_cases s2 : st = 2
    · by_cases hw : (g.l.getD k Z8).state = 1
      · subst s2
        have hu : settleB g k 2 = true := decide_eq_true ⟨hk, by rw [ek]; show _ ∧ ((g.l.getD k Z8).state = 1 ∨ (g.l.getD k Z8).state = 3) ∨ _ ∧ (g.l.getD k Z8).state = 1; omega⟩
        have ho := ok_settle h.ok k 2
        have eu : settleG g k 2 = { g with l := g.l.set k { g.l.getD k Z8 with state := 2 } } := by unfold settleG; rw [if_pos hu, ek]; rfl
        rw [eu] at ho ⊢
        rw [hu]
        clear hu eu hk ek
        generalize hs : g.l.getD k Z8 = s at *
        rw [hw] at C0
        go_enter Tryz.func79, Tryz.ntmps79
        go_upto_region 1 with fail
        go_upto_region 4 with (go_at_call 52; refine C0.mono ?_; rintro e w1 ⟨rfl, L1⟩; have hR1 := h.below L1; clear C0)
        obtain ⟨v, hB, hO, hv⟩ := hR1.ex
        obtain ⟨g0, cap, rfl, q1, q2, q3, q4, q5, q6⟩ := (hO.alloc (.cells #[.int .u64 s.pn, .int .u64 s.off, .int .u64 s.len, .int .u64 s.nonce, .int .u64 s.time, .bool s.coin, .bool s.used, .int .i64 1] 76)).set hkl 7 (by decide)
        rw [hs] at q4 q6
        obtain ⟨e0, e1, e2, e3, e4, e5, e6, e7⟩ := q4
        have B1 := hB.alloc (.cells #[.int .u64 s.pn, .int .u64 s.off, .int .u64 s.len, .int .u64 s.nonce, .int .u64 s.time, .bool s.coin, .bool s.used, .int .i64 1] 76)
        have c2 : (w1.alloc (.cells #[.int .u64 s.pn, .int .u64 s.off, .int .u64 s.len, .int .u64 s.nonce, .int .u64 s.time, .bool s.coin, .bool s.used, .int .i64 1] 76)).cell? ⟨b, 2, none⟩ = some (.slice (some ⟨g0, 0, none⟩) g.l.length cap) := B1.cell 2
        have hb := B1.lt
        have hF : Fr S w (w1.alloc (.cells #[.int .u64 s.pn, .int .u64 s.off, .int .u64 s.len, .int .u64 s.nonce, .int .u64 s.time, .bool s.coin, .bool s.used, .int .i64 1] 76)) := (Fr.of_below L1).alloc _
        unfold maxLen at q2
        have hvg := hv g0 rfl
        have Q6 := q6 { s with state := 2 } (.int .i64 2) rfl
        clear q6 hv hO hB hs
        generalize w1.alloc (.cells #[.int .u64 s.pn, .int .u64 s.off, .int .u64 s.len, .int .u64 s.nonce, .int .u64 s.time, .bool s.coin, .bool s.used, .int .i64 1] 76) = W at *
        go_wp2
        go_ret
        exact ⟨rfl, ⟨ho, h.inB, _, B1.other hvg.2.symm _, Q6, fun x hx => by cases hx; exact hvg⟩, hF.setCell (fun _ => hvg.1) _⟩
      · by_cases hw3 : (g.l.getD k Z8).state = 3
        · subst s2
          clear hw
          have hw := hw3
          clear hw3
          have hu : settleB g k 2 = true := decide_eq_true ⟨hk, by rw [ek]; show _ ∧ ((g.l.getD k Z8).state = 1 ∨ (g.l.getD k Z8).state = 3) ∨ _ ∧ (g.l.getD k Z8).state = 1; omega⟩
          have ho := ok_settle h.ok k 2
          have eu : settleG g k 2 = { g with l := g.l.set k { g.l.getD k Z8 with state := 2 } } := by unfold settleG; rw [if_pos hu, ek]; rfl
          rw [eu] at ho ⊢
          rw [hu]
          clear hu eu hk ek
          generalize hs : g.l.getD k Z8 = s at *
          rw [hw] at C0
          go_enter Tryz.func79, Tryz.ntmps79
          go_upto_region 1 with fail
          go_upto_region 4 with (go_at_call 52; refine C0.mono ?_; rintro e w1 ⟨rfl, L1⟩; have hR1 := h.below L1; clear C0)
          obtain ⟨v, hB, hO, hv⟩ := hR1.ex
          obtain ⟨g0, cap, rfl, q1, q2, q3, q4, q5, q6⟩ := (hO.alloc (.cells #[.int .u64 s.pn, .int .u64 s.off, .int .u64 s.len, .int .u64 s.nonce, .int .u64 s.time, .bool s.coin, .bool s.used, .int .i64 3] 76)).set hkl 7 (by decide)
          rw [hs] at q4 q6
          obtain ⟨e0, e1, e2, e3, e4, e5, e6, e7⟩ := q4
          have B1 := hB.alloc (.cells #[.int .u64 s.pn, .int .u64 s.off, .int .u64 s.len, .int .u64 s.nonce, .int .u64 s.time, .bool s.coin, .bool s.used, .int .i64 3] 76)
          have c2 : (w1.alloc (.cells #[.int .u64 s.pn, .int .u64 s.off, .int .u64 s.len, .int .u64 s.nonce, .int .u64 s.time, .bool s.coin, .bool s.used, .int .i64 3] 76)).cell? ⟨b, 2, none⟩ = some (.slice (some ⟨g0, 0, none⟩) g.l.length cap) := B1.cell 2
          have hb := B1.lt
          have hF : Fr S w (w1.alloc (.cells #[.int .u64 s.pn, .int .u64 s.off, .int .u64 s.len, .int .u64 s.nonce, .int .u64 s.time, .bool s.coin, .bool s.used, .int .i64 3] 76)) := (Fr.of_below L1).alloc _
          unfold maxLen at q2
          have hvg := hv g0 rfl
          have Q6 := q6 { s with state := 2 } (.int .i64 2) rfl
          clear q6 hv hO hB hs
          generalize w1.alloc (.cells #[.int .u64 s.pn, .int .u64 s.off, .int .u64 s.len, .int .u64 s.nonce, .int .u64 s.time, .bool s.coin, .bool s.used, .int .i64 3] 76) = W at *
          go_wp2
          go_ret
          exact ⟨rfl, ⟨ho, h.inB, _, B1.other hvg.2.symm _, Q6, fun x hx => by cases hx; exact hvg⟩, hF.setCell (fun _ => hvg.1) _⟩
        · subst s2
          have hu : settleB g k 2 = false := decide_eq_false fun q => by have := q.2; rw [ek] at this; change (_ ∧ ((g.l.getD k Z8).state = 1 ∨ (g.l.getD k Z8).state = 3) ∨ _ ∧ (g.l.getD k Z8).state = 1) at this; omega
          rw [show settleG g k 2 = g by unfold settleG; rw [hu]; rfl, hu]
          clear hu hk ek
          generalize g.l.getD k Z8 = s at *
          skip
          go_enter Tryz.func79, Tryz.ntmps79
          go_wp2_with (go_at_call 52; refine C0.mono ?_; rintro e w1 ⟨rfl, L1⟩; have hR1 := h.below L1; clear C0)
          go_ret
          exact ⟨rfl, hR1.below ((Below.refl _ _).alloc (Nat.le_refl _) _), (Fr.of_below L1).alloc _⟩
    · by_cases s3 : st = 3
      · by_cases hw : (g.l.getD k Z8).state = 1
        · subst s3
          have hu : settleB g k 3 = true := decide_eq_true ⟨hk, by rw [ek]; show _ ∧ ((g.l.getD k Z8).state = 1 ∨ (g.l.getD k Z8).state = 3) ∨ _ ∧ (g.l.getD k Z8).state = 1; omega⟩
          have ho := ok_settle h.ok k 3
          have eu : settleG g k 3 = { g with l := g.l.set k { g.l.getD k Z8 with state := 3 } } := by unfold settleG; rw [if_pos hu, ek]; rfl
          rw [eu] at ho ⊢
          rw [hu]
          clear hu eu hk ek
          generalize hs : g.l.getD k Z8 = s at *
          rw [hw] at C0
          go_enter Tryz.func79, Tryz.ntmps79
          go_upto_region 1 with fail
          go_upto_region 4 with (go_at_call 52; refine C0.mono ?_; rintro e w1 ⟨rfl, L1⟩; have hR1 := h.below L1; clear C0)
          obtain ⟨v, hB, hO, hv⟩ := hR1.ex
          obtain ⟨g0, cap, rfl, q1, q2, q3, q4, q5, q6⟩ := (hO.alloc (.cells #[.int .u64 s.pn, .int .u64 s.off, .int .u64 s.len, .int .u64 s.nonce, .int .u64 s.time, .bool s.coin, .bool s.used, .int .i64 1] 76)).set hkl 7 (by decide)
          rw [hs] at q4 q6
          obtain ⟨e0, e1, e2, e3, e4, e5, e6, e7⟩ := q4
          have B1 := hB.alloc (.cells #[.int .u64 s.pn, .int .u64 s.off, .int .u64 s.len, .int .u64 s.nonce, .int .u64 s.time, .bool s.coin, .bool s.used, .int .i64 1] 76)
          have c2 : (w1.alloc (.cells #[.int .u64 s.pn, .int .u64 s.off, .int .u64 s.len, .int .u64 s.nonce, .int .u64 s.time, .bool s.coin, .bool s.used, .int .i64 1] 76)).cell? ⟨b, 2, none⟩ = some (.slice (some ⟨g0, 0, none⟩) g.l.length cap) := B1.cell 2
          have hb := B1.lt
          have hF : Fr S w (w1.alloc (.cells #[.int .u64 s.pn, .int .u64 s.off, .int .u64 s.len, .int .u64 s.nonce, .int .u64 s.time, .bool s.coin, .bool s.used, .int .i64 1] 76)) := (Fr.of_below L1).alloc _
          unfold maxLen at q2
          have hvg := hv g0 rfl
          have Q6 := q6 { s with state := 3 } (.int .i64 3) rfl
          clear q6 hv hO hB hs
          generalize w1.alloc (.cells #[.int .u64 s.pn, .int .u64 s.off, .int .u64 s.len, .int .u64 s.nonce, .int .u64 s.time, .bool s.coin, .bool s.used, .int .i64 1] 76) = W at *
          go_wp2
          go_ret
          exact ⟨rfl, ⟨ho, h.inB, _, B1.other hvg.2.symm _, Q6, fun x hx => by cases hx; exact hvg⟩, hF.setCell (fun _ => hvg.1) _⟩
        · subst s3
          by_cases hw3 : (g.l.getD k Z8).state = 3
          · have hu : settleB g k 3 = false := decide_eq_false fun q => by have := q.2; rw [ek] at this; change (_ ∧ ((g.l.getD k Z8).state = 1 ∨ (g.l.getD k Z8).state = 3) ∨ _ ∧ (g.l.getD k Z8).state = 1) at this; omega
            rw [show settleG g k 3 = g by unfold settleG; rw [hu]; rfl, hu]
            clear hu hk ek
            generalize g.l.getD k Z8 = s at *
            rw [hw3] at C0
            go_enter Tryz.func79, Tryz.ntmps79
            go_wp2_with (go_at_call 52; refine C0.mono ?_; rintro e w1 ⟨rfl, L1⟩; have hR1 := h.below L1; clear C0)
            go_ret
            exact ⟨rfl, hR1.below ((Below.refl _ _).alloc (Nat.le_refl _) _), (Fr.of_below L1).alloc _⟩
          · have hu : settleB g k 3 = false := decide_eq_false fun q => by have := q.2; rw [ek] at this; change (_ ∧ ((g.l.getD k Z8).state = 1 ∨ (g.l.getD k Z8).state = 3) ∨ _ ∧ (g.l.getD k Z8).state = 1) at this; omega
            rw [show settleG g k 3 = g by unfold settleG; rw [hu]; rfl, hu]
            clear hu hk ek
            generalize g.l.getD k Z8 = s at *
            go_enter Tryz.func79, Tryz.ntmps79
            go_wp2_with (go_at_call 52; refine C0.mono ?_; rintro e w1 ⟨rfl, L1⟩; have hR1 := h.below L1; clear C0)
            go_ret
            exact ⟨rfl, hR1.below ((Below.refl _ _).alloc (Nat.le_refl _) _), (Fr.of_below L1).alloc _⟩
      · have hu : settleB g k st = false := decide_eq_false fun q => by have := q.2; omega
        rw [show settleG g k st = g by unfold settleG; rw [hu]; rfl, hu]
        clear hu hk ek
        generalize g.l.getD k Z8 = s at *
        go_enter Tryz.func79, Tryz.ntmps79
        go_wp2_with (go_at_call 52; refine C0.mono ?_; rintro e w1 ⟨rfl, L1⟩; have hR1 := h.below L1; clear C0)
        go_ret
        exact ⟨rfl, hR1.below ((Below.refl _ _).alloc (Nat.le_refl _) _), (Fr.of_below L1).alloc _⟩
  · rw [show getS g pn = Z8 by unfold getS; rw [if_neg hk], show hasN g pn = false by unfold hasN; exact decide_eq_false hk] at C0
    have hu : settleB g pn st = false := decide_eq_false fun q => hk q.1
    rw [show settleG g pn st = g by unfold settleG; rw [hu]; rfl, hu]
    clear hu hk
    go_enter Tryz.func79, Tryz.ntmps79
    go_wp2_with (go_at_call 52; refine C0.mono ?_; rintro e w1 ⟨rfl, L1⟩; have hR1 := h.below L1; clear C0)
    go_ret
    exact ⟨rfl, hR1.below ((Below.refl _ _).alloc (Nat.le_refl _) _), (Fr.of_below L1).alloc _⟩
end Go.Proofs.YtkiloaebokkjbaaGreat.Led

/-
  Contracts of the reference's ledger: what gives a number, what makes one, what tells all of it.
-/
set_option linter.unusedSimpArgs false
set_option linter.unusedVariables false
namespace Go.Proofs.YtkiloaebokkjbaaGreat.Led
set_option linter.unusedVariables false
set_option maxRecDepth 20000
open Go.ChangeShapes Go.WideShapes Go.ChangeAt Go.RowKit
open Go.Proofs.YtkiloaebokkjbaaGreat.Base Go.Proofs.YtkiloaebokkjbaaGreat.LedPlain

theorem Rf.plus {S : Nat → Prop} {w w1 w2 : World} {b : Nat} {g : Lg} (h : Rf S w b g) : Rf (Plus S w1 w2) w b g := h.mono fun k hk => .inl hk

/-- What an append leaves, laid in the ledger's block. -/
theorem rf_given {S : Nat → Prop} {w w3 w4 : World} {b : Nat} {g : Lg} {v v4 : Value} {s : Sn} (ho : Ok { g with l := g.l ++ [s] }) (hb : S b) (hbw : b < w.heap.size) (hv : ∀ k, v.ownBlock = some k → S k ∧ k ≠ b) (hsz : w.heap.size ≤ w3.heap.size)
    (F3 : Fr S w w3) (B4 : Blk w4 b #[.int .i64 g.ring, .int .u64 g.limit, v] 132) (A : Added8 w3 v (g.l ++ [s]) v4 w4) :
    Rf (Plus S w (w4.setCell ⟨b, 2, none⟩ v4)) (w4.setCell ⟨b, 2, none⟩ v4) b { g with l := g.l ++ [s] } ∧ Fr S w (w4.setCell ⟨b, 2, none⟩ v4) := by
  have hnb : ∀ k, v4.ownBlock = some k → k ≠ b ∧ (S k ∨ (w.heap.size ≤ k ∧ k < w4.heap.size)) := fun k hk => by
    rcases A.at_ k hk with h1 | h1
    · exact ⟨(hv k h1).2, .inl (hv k h1).1⟩
    · exact ⟨by omega, .inr ⟨by omega, h1.2⟩⟩
  have es : (w4.setCell ⟨b, 2, none⟩ v4).heap.size = w4.heap.size := by simp [World.setCell]
  refine ⟨⟨ho, .inl hb, v4, B4.set 2 v4, ?_, fun k hk => ⟨?_, (hnb k hk).1⟩⟩, ?_⟩
  · exact A.own.kept (T := fun k => k = b) ((Fr.of_below (S := fun k => k = b) (Below.refl w4.heap.size w4)).setCell (p := ⟨b, 2, none⟩) (fun _ => rfl) v4) fun k hk e => (hnb k hk).1 e
  · unfold Plus
    rw [es]
    exact (hnb k hk).2
  · exact (F3.trans A.fr fun i _ hi => (hv i hi).1).setCell (fun _ => hb) v4
set_option maxHeartbeats 1000000 in
theorem ref_give {S : Nat → Prop} {w : World} {b : Nat} {g : Lg} (h : Rf S w b g) (s : Sn) (ho : Ok (giveG g s)) (hn : g.l.length ≤ 1000000) :
    Calls Tryz.prog 105 #[.pointer (some ⟨b, 0, none⟩), .agg #[.int .u64 s.pn, .int .u64 s.off, .int .u64 s.len, .int .u64 s.nonce, .int .u64 s.time, .bool s.coin, .bool s.used, .int .i64 s.state]] w fun e w' => e = .returned (.tuple #[.int .u64 (giveN g), .int .i64 (giveE g)]) ∧ Rf (Plus S w w') w' b (giveG g s) ∧ Fr S w w' := by
  by_cases h1 : (g.l.length : Int) > g.limit
  · have hE : giveE g = 8 := by unfold giveE; rw [if_pos h1]
    rw [show giveN g = 0 by unfold giveN; rw [hE]; rfl, show giveG g s = g by unfold giveG; rw [hE]; rfl, hE]
    clear hE ho
    go_enter Tryz.func105, Tryz.ntmps105
    go_upto_region 1 with fail
    have hB := Blk.new w #[.int .u64 s.pn, .int .u64 s.off, .int .u64 s.len, .int .u64 s.nonce, .int .u64 s.time, .bool s.coin, .bool s.used, .int .i64 s.state] 76
    have hL : Below w.heap.size w (w.alloc (.cells #[.int .u64 s.pn, .int .u64 s.off, .int .u64 s.len, .int .u64 s.nonce, .int .u64 s.time, .bool s.coin, .bool s.used, .int .i64 s.state] 76)) := (Below.refl _ _).alloc (Nat.le_refl _) _
    have hR := h.below hL
    generalize w.alloc (.cells #[.int .u64 s.pn, .int .u64 s.off, .int .u64 s.len, .int .u64 s.nonce, .int .u64 s.time, .bool s.coin, .bool s.used, .int .i64 s.state] 76) = W at hB hL hR ⊢
    have CN := fun p : In (Lt W) => ref_next (hR.below p.h)
    obtain ⟨a, cap, c0, c1, c2, _⟩ := hR.read
    have d1 := fun p : In (Lt W) => inCell p c1
    refine wp_region_in (Lt W) (Lt.drew W) (by kernel_rfl) (by kernel_rfl) ?_
    repeat (go_big_quiet_step ((go_at_call 60; refine in_same (v := .int .u64 g.l.length) ?_; exact CN _)))
    refine wpQuiet_nil ?_
    rintro w1 ⟨⟨_, hw1⟩, rfl⟩
    have hL1 : Below w.heap.size w w1 := Base.next hL hw1
    have hB1 := hB.below hw1 hB.lt
    have hR1 := hR.below hw1
    clear CN d1 c0 c1 c2 hR hB hw1
    generalize (g.l.length : Int) = n at *
    generalize g.limit = m at *
    have h1' : m < n := h1
    go_wp2
    go_ret2
    exact ⟨rfl, hR1.plus, Fr.of_below hL1⟩
  · by_cases h2 : roomI g ≤ 0
    · have hE : giveE g = 7 := by unfold giveE; rw [if_neg h1, if_pos h2]
      rw [show giveN g = 0 by unfold giveN; rw [hE]; rfl, show giveG g s = g by unfold giveG; rw [hE]; rfl, hE]
      clear hE ho
      go_enter Tryz.func105, Tryz.ntmps105
      go_upto_region 1 with fail
      have hB := Blk.new w #[.int .u64 s.pn, .int .u64 s.off, .int .u64 s.len, .int .u64 s.nonce, .int .u64 s.time, .bool s.coin, .bool s.used, .int .i64 s.state] 76
      have hL : Below w.heap.size w (w.alloc (.cells #[.int .u64 s.pn, .int .u64 s.off, .int .u64 s.len, .int .u64 s.nonce, .int .u64 s.time, .bool s.coin, .bool s.used, .int .i64 s.state] 76)) := (Below.refl _ _).alloc (Nat.le_refl _) _
      have hR := h.below hL
      generalize w.alloc (.cells #[.int .u64 s.pn, .int .u64 s.off, .int .u64 s.len, .int .u64 s.nonce, .int .u64 s.time, .bool s.coin, .bool s.used, .int .i64 s.state] 76) = W at hB hL hR ⊢
      have CN := fun p : In (Lt W) => ref_next (hR.below p.h)
      obtain ⟨a, cap, c0, c1, c2, _⟩ := hR.read
      have d1 := fun p : In (Lt W) => inCell p c1
      refine wp_region_in (Lt W) (Lt.drew W) (by kernel_rfl) (by kernel_rfl) ?_
      repeat (go_big_quiet_step ((go_at_call 60; refine in_same (v := .int .u64 g.l.length) ?_; exact CN _)))
      refine wpQuiet_nil ?_
      rintro w1 ⟨⟨_, hw1⟩, rfl⟩
      have hL1 : Below w.heap.size w w1 := Base.next hL hw1
      have hB1 := hB.below hw1 hB.lt
      have hR1 := hR.below hw1
      clear CN d1 c0 c1 c2 hR hB hw1
      have CR := ref_room hR1
      generalize hnn : (g.l.length : Int) = n at *
      generalize g.limit = m at *
      generalize roomI g = r at *
      have h1' : ¬ m < n := h1
      go_wp2_with (go_at_call 71; refine CR.mono ?_; rintro e w2 ⟨rfl, L2⟩; have hL2 := Base.next hL1 L2; have hR2 := hR1.below L2)
      go_ret2
      exact ⟨rfl, hR2.plus, Fr.of_below hL2⟩
    · have hE : giveE g = 0 := by unfold giveE; rw [if_neg h1, if_neg h2]
      have eg : giveG g s = { g with l := g.l ++ [{ s with pn := g.l.length }] } := by unfold giveG; rw [hE]; rfl
      rw [eg] at ho
      rw [show giveN g = g.l.length by unfold giveN; rw [hE]; rfl, eg, hE]
      clear hE eg
      go_enter Tryz.func105, Tryz.ntmps105
      go_upto_region 1 with fail
      have hB := Blk.new w #[.int .u64 s.pn, .int .u64 s.off, .int .u64 s.len, .int .u64 s.nonce, .int .u64 s.time, .bool s.coin, .bool s.used, .int .i64 s.state] 76
      have hL : Below w.heap.size w (w.alloc (.cells #[.int .u64 s.pn, .int .u64 s.off, .int .u64 s.len, .int .u64 s.nonce, .int .u64 s.time, .bool s.coin, .bool s.used, .int .i64 s.state] 76)) := (Below.refl _ _).alloc (Nat.le_refl _) _
      have hR := h.below hL
      generalize w.alloc (.cells #[.int .u64 s.pn, .int .u64 s.off, .int .u64 s.len, .int .u64 s.nonce, .int .u64 s.time, .bool s.coin, .bool s.used, .int .i64 s.state] 76) = W at hB hL hR ⊢
      have CN := fun p : In (Lt W) => ref_next (hR.below p.h)
      obtain ⟨a, cap, c0, c1, c2, _⟩ := hR.read
      have d1 := fun p : In (Lt W) => inCell p c1
      refine wp_region_in (Lt W) (Lt.drew W) (by kernel_rfl) (by kernel_rfl) ?_
      repeat (go_big_quiet_step ((go_at_call 60; refine in_same (v := .int .u64 g.l.length) ?_; exact CN _)))
      refine wpQuiet_nil ?_
      rintro w1 ⟨⟨_, hw1⟩, rfl⟩
      have hL1 : Below w.heap.size w w1 := Base.next hL hw1
      have hB1 := hB.below hw1 hB.lt
      have hR1 := hR.below hw1
      clear CN d1 c0 c1 c2 hR hB hw1
      have CR := ref_room hR1
      have hbw := h.lt
      generalize hr : roomI g = r at *
      clear hr
      have h1' : ¬ g.limit < (g.l.length : Int) := h1
      go_upto_region 6 with (first
        | (go_at_call 71; refine CR.mono ?_; rintro e w2 ⟨rfl, L2⟩; have hL2 := Base.next hL1 L2; have hR2 := hR1.below L2; have hB2 := hB1.below L2 hB1.lt; have C2 := ref_next hR2; have k0 : w2.cell? ⟨w.heap.size, 0, none⟩ = some (.int .u64 s.pn) := hB2.cell 0; have f0 := hB2.free 0; clear hR1 hB1 CR)
        | (go_at_call 60; refine C2.mono ?_; rintro e w3 ⟨rfl, rfl⟩))
      obtain ⟨v, B0, O0, hv⟩ := h.ex
      have B2 := B0.below hL2 B0.lt
      have O2 := O0.below hL2
      have hlt := fun k hk => O0.lt (g := k) hk
      have hb2 := hL2.size
      have B3 := B2.other (a := ⟨w.heap.size, 0, none⟩) (by simp only; omega) (.int .u64 g.l.length)
      have X3 := hB2.set 0 (.int .u64 g.l.length)
      have O3 := O2.kept (T := fun k => k = w.heap.size) ((Fr.of_below (S := fun k => k = w.heap.size) (Below.refl w2.heap.size w2)).setCell (p := ⟨w.heap.size, 0, none⟩) (fun _ => rfl) (.int .u64 g.l.length)) fun k hk e => by have := hlt k hk; omega
      have F3 : Fr S w (w2.setCell ⟨w.heap.size, 0, none⟩ (.int .u64 g.l.length)) := (Fr.of_below hL2).setCell (fun q => by simp at q) _
      have Z3 : w2.heap.size = (w2.setCell ⟨w.heap.size, 0, none⟩ (.int .u64 g.l.length)).heap.size := by simp [World.setCell]
      have hxlt := hB2.lt
      clear hR2 C2 k0 f0 hL1 hL2 L2 hB2 B2 O2 hL O0 B0
      generalize w2.setCell ⟨w.heap.size, 0, none⟩ (.int .u64 g.l.length) = w3 at *
      have X3' : Blk w3 w.heap.size #[.int .u64 g.l.length, .int .u64 s.off, .int .u64 s.len, .int .u64 s.nonce, .int .u64 s.time, .bool s.coin, .bool s.used, .int .i64 s.state] 76 := X3
      have e0 : w3.cell? ⟨w.heap.size, 0, none⟩ = some (.int .u64 g.l.length) := X3'.cell 0
      have e1 : w3.cell? ⟨w.heap.size, 1, none⟩ = some (.int .u64 s.off) := X3'.cell 1
      have e2 : w3.cell? ⟨w.heap.size, 2, none⟩ = some (.int .u64 s.len) := X3'.cell 2
      have e3 : w3.cell? ⟨w.heap.size, 3, none⟩ = some (.int .u64 s.nonce) := X3'.cell 3
      have e4 : w3.cell? ⟨w.heap.size, 4, none⟩ = some (.int .u64 s.time) := X3'.cell 4
      have e5 : w3.cell? ⟨w.heap.size, 5, none⟩ = some (.bool s.coin) := X3'.cell 5
      have e6 : w3.cell? ⟨w.heap.size, 6, none⟩ = some (.bool s.used) := X3'.cell 6
      have e7 : w3.cell? ⟨w.heap.size, 7, none⟩ = some (.int .i64 s.state) := X3'.cell 7
      have q2 : w3.cell? ⟨b, 2, none⟩ = some v := B3.cell 2
      have q3 := B3.free 2
      have q4 := B3.lt
      have HV := Lib.hid hv
      have HLT := Lib.hid hlt
      clear hv hlt X3
      go_region_law (refine step_add8 (W := w3.drew) (s := { s with pn := g.l.length }) (by rfl) (by rfl) (.tmp 23) (.tmp 25) (by rfl) (by rfl) O3.drew (by rfl) (by simp) (by omega) ?_; intro v4 w4 A4; replace A4 := A4.undrew; obtain ⟨a4, cap4, rfl, _, _, _, _, _⟩ := A4.own.read; have B4 := B3.kept (w := w3) (S := fun k => v.ownBlock = some k) A4.fr (fun e => (HV.out _ e).2 rfl); have X4 := X3'.kept (w := w3) (S := fun k => v.ownBlock = some k) A4.fr (fun e => by have := HLT.out _ e; omega); have A4h := Lib.hid A4; have p2 : w4.cell? ⟨b, 2, none⟩ = some v := B4.cell 2; have p3 := B4.free 2; have p4 : w4.cell? ⟨w.heap.size, 0, none⟩ = some (.int .u64 g.l.length) := X4.cell 0; have p5 := B4.lt; clear A4)
      all_goals go_wp2
      all_goals go_ret2
      all_goals exact ⟨rfl, rf_given ho h.inB hbw HV.out (by omega) F3 B4 (by simpa using A4h.out)⟩
theorem plus_mono {S : Nat → Prop} {w w0 w1 : World} (h : w.heap.size ≤ w0.heap.size) : ∀ k, Plus S w0 w1 k → Plus S w w1 k := fun k hk => by
  unfold Plus at *
  rcases hk with hk | hk
  · exact .inl hk
  · exact .inr ⟨by omega, hk.2⟩
theorem ref_send {S : Nat → Prop} {w : World} {b : Nat} {g : Lg} (h : Rf S w b g) (s : Sn) (hs : Words s) (hn : g.l.length ≤ 1000000) :
    Calls Tryz.prog 75 #[.pointer (some ⟨b, 0, none⟩), .agg #[.int .u64 s.pn, .int .u64 s.off, .int .u64 s.len, .int .u64 s.nonce, .int .u64 s.time, .bool s.coin, .bool s.used, .int .i64 s.state]] w fun e w' => e = .returned (.tuple #[.int .u64 (sendN g s), .int .i64 (sendE g s)]) ∧ Rf (Plus S w w') w' b (sendG g s) ∧ Fr S w w' := by
  by_cases hb : badS s
  · rw [show sendN g s = 0 by unfold sendN; rw [if_pos hb], show sendE g s = 1 by unfold sendE; rw [if_pos hb], show sendG g s = g by unfold sendG; rw [if_pos hb]]
    unfold badS at hb
    by_cases h1 : s.len < 1
    · go_enter Tryz.func75, Tryz.ntmps75
      go_wp2
      go_ret2
      exact ⟨rfl, (h.below ((Below.refl _ _).alloc (Nat.le_refl _) _)).plus, Fr.of_below ((Below.refl _ _).alloc (Nat.le_refl _) _)⟩
    · by_cases h2 : 1500 < s.len
      · go_enter Tryz.func75, Tryz.ntmps75
        go_wp2
        go_ret2
        exact ⟨rfl, (h.below ((Below.refl _ _).alloc (Nat.le_refl _) _)).plus, Fr.of_below ((Below.refl _ _).alloc (Nat.le_refl _) _)⟩
      · have h3 : 4611686018427387903 < s.off := by omega
        go_enter Tryz.func75, Tryz.ntmps75
        go_wp2
        go_ret2
        exact ⟨rfl, (h.below ((Below.refl _ _).alloc (Nat.le_refl _) _)).plus, Fr.of_below ((Below.refl _ _).alloc (Nat.le_refl _) _)⟩
  · have ho := ok_send h.ok hs
    have eg : sendG g s = giveG g { s with state := 1, used := false } := by unfold sendG; rw [if_neg hb]
    rw [eg] at ho
    rw [show sendN g s = giveN g by unfold sendN; rw [if_neg hb], show sendE g s = giveE g by unfold sendE; rw [if_neg hb], eg]
    unfold badS at hb
    have CG := fun W hW => ref_give (h.below (w' := W) hW) { s with state := 1, used := false } ho hn
    clear eg ho
    have b1 : ¬ s.len < 1 := by omega
    have b2 : ¬ 1500 < s.len := by omega
    have b3 : ¬ 4611686018427387903 < s.off := by omega
    clear hb
    generalize giveN g = n at *
    generalize giveE g = m at *
    go_enter Tryz.func75, Tryz.ntmps75
    go_wp2_with (go_at_call 105; refine (CG _ ((Below.refl _ _).alloc (Nat.le_refl _) _)).mono ?_; rintro e w1 ⟨rfl, R1, F1⟩)
    go_ret2
    exact ⟨rfl, R1.mono (plus_mono (by simp)), ((Fr.of_below ((Below.refl _ _).alloc (Nat.le_refl _) _)).trans F1 fun _ _ hk => hk)⟩
theorem ref_skip {S : Nat → Prop} {w : World} {b : Nat} {g : Lg} (h : Rf S w b g) (hn : g.l.length ≤ 1000000) :
    Calls Tryz.prog 77 #[.pointer (some ⟨b, 0, none⟩)] w fun e w' => e = .returned (.tuple #[.int .u64 (giveN g), .int .i64 (giveE g)]) ∧ Rf (Plus S w w') w' b (skipG g) ∧ Fr S w w' := by
  have CG := ref_give h { Z8 with state := 4 } (ok_skip h.ok) hn
  go_enter Tryz.func77, Tryz.ntmps77
  go_wp2_with (go_at_call 105; refine CG.mono ?_; rintro e w1 ⟨rfl, R1, F1⟩)
  go_ret2
  exact ⟨rfl, R1, F1⟩
theorem ref_new (ring limit : Int) (r0 : -9223372036854775808 ≤ ring) (r1 : ring ≤ 9223372036854775807) (l0 : 0 ≤ limit) (l1 : limit ≤ 18446744073709551615) (w : World) :
    Calls Tryz.prog 35 #[.int .i64 ring, .int .u64 limit] w fun e w' => e = .returned (.pointer (some ⟨w.heap.size, 0, none⟩)) ∧ Rf (fun k => w.heap.size ≤ k ∧ k < w'.heap.size) w' w.heap.size (newG ring limit) ∧ Below w.heap.size w w' := by
  have fin : ∀ r m, r = (newG ring limit).ring → m = (newG ring limit).limit → Rf (fun k => w.heap.size ≤ k ∧ k < (w.alloc (.cells #[.int .i64 r, .int .u64 m, .slice none 0 0] 132)).heap.size) (w.alloc (.cells #[.int .i64 r, .int .u64 m, .slice none 0 0] 132)) w.heap.size (newG ring limit) ∧ Below w.heap.size w (w.alloc (.cells #[.int .i64 r, .int .u64 m, .slice none 0 0] 132)) := fun r m hr hm => by
    subst hr
    subst hm
    exact ⟨⟨ok_new ring limit l0, by simp, _, Blk.new _ _ _, Owns.nil _, fun k hk => by simp [Value.ownBlock] at hk⟩, (Below.refl _ _).alloc (Nat.le_refl _) _⟩
  by_cases h1 : 256 < ring
  · by_cases h3 : 4611686018427387903 < limit
    · go_enter Tryz.func35, Tryz.ntmps35
      go_wp2
      go_ret
      exact ⟨rfl, fin _ _ (by unfold newG; simp only; omega) (by unfold newG; simp only; omega)⟩
    · go_enter Tryz.func35, Tryz.ntmps35
      go_wp2
      go_ret
      exact ⟨rfl, fin _ _ (by unfold newG; simp only; omega) (by unfold newG; simp only; omega)⟩
  · by_cases h2 : 4 < ring
    · by_cases h3 : 4611686018427387903 < limit
      · go_enter Tryz.func35, Tryz.ntmps35
        go_wp2
        go_ret
        exact ⟨rfl, fin _ _ (by unfold newG; simp only; omega) (by unfold newG; simp only; omega)⟩
      · go_enter Tryz.func35, Tryz.ntmps35
        go_wp2
        go_ret
        exact ⟨rfl, fin _ _ (by unfold newG; simp only; omega) (by unfold newG; simp only; omega)⟩
    · by_cases h3 : 4611686018427387903 < limit
      · go_enter Tryz.func35, Tryz.ntmps35
        go_wp2
        go_ret
        exact ⟨rfl, fin _ _ (by unfold newG; simp only; omega) (by unfold newG; simp only; omega)⟩
      · go_enter Tryz.func35, Tryz.ntmps35
        go_wp2
        go_ret
        exact ⟨rfl, fin _ _ (by unfold newG; simp only; omega) (by unfold newG; simp only; omega)⟩
set_option maxHeartbeats 1000000 in
theorem ref_all {S : Nat → Prop} {w : World} {b : Nat} {g : Lg} (h : Rf S w b g) (hn : g.l.length ≤ 1000000) :
    Calls Tryz.prog 74 #[.pointer (some ⟨b, 0, none⟩)] w fun e w' => ∃ v, e = .returned v ∧ Owns w' v (allS g) ∧ Below w.heap.size w w' := by
  have hlow := low_le g
  have hal : allS g = g.l.drop (lowN g) := rfl
  obtain ⟨v, hB, hO, _⟩ := h.ex
  obtain ⟨a, cap, rfl, h1, h2, hz, h0, hx⟩ := hO.read
  have c2 : w.cell? ⟨b, 2, none⟩ = some (.slice a g.l.length cap) := hB.cell 2
  have hb := h.lt
  unfold maxLen at h2
  cases a with
  | none =>
    obtain ⟨e1, rfl⟩ := h0 rfl
    have e2 : lowN g = 0 := by rw [e1] at hlow; simpa using hlow
    have CL := ref_low (h.drew)
    rw [e2] at CL
    rw [hal, e1, List.drop_nil]
    rw [e1] at c2
    have w0 : IntKind.i64.wrap 0 = 0 := rfl
    go_enter Tryz.func74, Tryz.ntmps74
    go_wp2
    go_region_law (first
      | (refine step_call1 (F := 53) (X := .pointer (some ⟨b, 0, none⟩)) (by rfl) (.tmp 7) #[26] (by rfl) (by rfl) (by rfl) (CL.mono ?_); rintro e w1 ⟨rfl, L1⟩; replace L1 := Base.undrew L1; refine ⟨_, rfl, ?_⟩; have k2 := keepCell L1 c2)
      | (refine step_copy8 (b := none) (m := 0) (c := 0) (l := []) (by rfl) (.const (.slice none 0 0)) (.tmp 10) (by rfl) (by rfl) (by rfl) rfl (Sents.nil _ _) (by decide) ?_; intro v4 w4 O4 L4 N4))
    all_goals go_wp2
    all_goals go_ret
    all_goals exact ⟨_, rfl, O4, Base.next L1 L4⟩
  | some x =>
    obtain ⟨b', rfl, _⟩ := hx x rfl
    have hD := (show Sents w (some ⟨b', 0, none⟩) g.l from hz).drop (lowN g)
    have CL := ref_low (h.drew)
    have hlen : (g.l.drop (lowN g)).length = g.l.length - lowN g := List.length_drop
    rw [hal]
    have hI : (lowN g : Int) ≤ g.l.length := by omega
    have w0 : IntKind.i64.wrap (lowN g) = (lowN g : Int) := by
      simp [IntKind.wrap, IntKind.bits, IntKind.signed]
      omega
    generalize g.l.drop (lowN g) = D at *
    generalize lowN g = k at *
    generalize hm : g.l.length = m at *
    rw [Nat.zero_add] at hD
    have hS : Sents w (if cap = k then some ⟨b', 0, none⟩ else some ⟨b', k * 8, none⟩) D := by
      split
      · obtain rfl : D = [] := List.eq_nil_of_length_eq_zero (by omega)
        exact Sents.nil _ _
      · exact hD
    go_enter Tryz.func74, Tryz.ntmps74
    go_wp2
    go_region_law (first
      | (refine step_call1 (F := 53) (X := .pointer (some ⟨b, 0, none⟩)) (by rfl) (.tmp 7) #[26] (by rfl) (by rfl) (by rfl) (CL.mono ?_); rintro e w1 ⟨rfl, L1⟩; replace L1 := Base.undrew L1; refine ⟨_, rfl, ?_⟩; have k2 := keepCell L1 c2)
      | (refine step_copy8 (b := if cap = k then some ⟨b', 0, none⟩ else some ⟨b', k * 8, none⟩) (m := m - k) (c := cap - k) (l := D) (by rfl) (.const (.slice none 0 0)) (.tmp 10) (by rfl) (by rfl) (by rfl) hlen (hS.below L1) (by omega) ?_; intro v4 w4 O4 L4 N4))
    all_goals go_wp2
    all_goals go_ret
    all_goals exact ⟨_, rfl, O4, Base.next L1 L4⟩
set_option maxHeartbeats 1000000 in
theorem ref_fork {S : Nat → Prop} {w : World} {b : Nat} {g : Lg} (h : Rf S w b g) (hn : g.l.length ≤ 1000000) :
    Calls Tryz.prog 30 #[.pointer (some ⟨b, 0, none⟩)] w fun e w' => ∃ b', e = .returned (.pointer (some ⟨b', 0, none⟩)) ∧ Rf (fun k => w.heap.size ≤ k ∧ k < w'.heap.size) w' b' g ∧ Below w.heap.size w w' := by
  obtain ⟨v, hB, hO, _⟩ := h.ex
  obtain ⟨a, cap, rfl, h1, h2, hz, h0, hx⟩ := hO.read
  have c0 : w.cell? ⟨b, 0, none⟩ = some (.int .i64 g.ring) := hB.cell 0
  have c1 : w.cell? ⟨b, 1, none⟩ = some (.int .u64 g.limit) := hB.cell 1
  have c2 : w.cell? ⟨b, 2, none⟩ = some (.slice a g.l.length cap) := hB.cell 2
  have hb := h.lt
  have ok := h.ok
  unfold maxLen at h2
  clear hB hO h0 hx h
  have HOK := Lib.hid ok
  clear ok
  obtain ⟨r, m, l⟩ := g
  simp only at *
  go_enter Tryz.func30, Tryz.ntmps30
  go_wp2
  go_region_law (refine step_copy8 (W := w.drew) (b := a) (m := l.length) (c := cap) (l := l) (by rfl) (.const (.slice none 0 0)) (.tmp 14) (by rfl) (by rfl) (by rfl) rfl hz (by omega) ?_; intro v4 w4 O4 L4 N4; replace L4 := Base.undrew L4; have d0 := keepCell L4 c0; have d1 := keepCell L4 c1; have d2 := keepCell L4 c2; obtain ⟨a4, cap4, rfl, q1, q2, _, _, _⟩ := O4.read)
  all_goals go_wp2
  all_goals go_ret
  all_goals exact ⟨_, rfl, ⟨HOK.out, by have := L4.size; simp; omega, _, Blk.new _ _ _, O4.alloc _, fun k hk => ⟨⟨N4 k hk, by have := O4.lt hk; simp; omega⟩, by have := O4.lt hk; omega⟩⟩, L4.alloc L4.size _⟩
end Go.Proofs.YtkiloaebokkjbaaGreat.Led

/-
  The program's ledger: its block and its ring of what is kept; one element stored whole.
-/
set_option linter.unusedSimpArgs false
set_option linter.unusedVariables false
namespace Go.Proofs.YtkiloaebokkjbaaGreat.Base
set_option linter.unusedVariables false
open Go.ChangeShapes Go.WideShapes Go.ChangeAt Go.RowKit
open Go.Proofs.YtkiloaebokkjbaaGreat.LedPlain

theorem sents_put (l : List Sn) (k : Nat) (s : Sn) (hk : k < l.length) :
    ((((((((sents l).set (k * 8) (.int .u64 s.pn)).set (k * 8 + 1) (.int .u64 s.off)).set (k * 8 + 1 + 1) (.int .u64 s.len)).set (k * 8 + 1 + 1 + 1) (.int .u64 s.nonce)).set (k * 8 + 1 + 1 + 1 + 1) (.int .u64 s.time)).set (k * 8 + 1 + 1 + 1 + 1 + 1) (.bool s.coin)).set (k * 8 + 1 + 1 + 1 + 1 + 1 + 1) (.bool s.used)).set (k * 8 + 1 + 1 + 1 + 1 + 1 + 1 + 1) (.int .i64 s.state) = sents (l.set k s) := by
  apply List.ext_getElem?
  intro j
  have hlen := sents_len l
  rw [sents_set l k s j hk]
  simp only [List.getElem?_set, List.length_set, hlen]
  by_cases h : k * 8 ≤ j ∧ j < k * 8 + 8
  · rw [if_pos h]
    obtain ⟨i, rfl⟩ : ∃ i, j = k * 8 + i := ⟨j - k * 8, by omega⟩
    rw [show k * 8 + i - k * 8 = i by omega]
    have hi : i < 8 := by omega
    have hb : k * 8 + 7 < l.length * 8 := by omega
    rcases (show i = 0 ∨ i = 1 ∨ i = 2 ∨ i = 3 ∨ i = 4 ∨ i = 5 ∨ i = 6 ∨ i = 7 by omega) with rfl | rfl | rfl | rfl | rfl | rfl | rfl | rfl
    all_goals
      repeat (first | rw [if_neg (by omega)] | (rw [if_pos (by omega), if_pos (by omega)]; rfl))
  · rw [if_neg h]
    repeat rw [if_neg (by omega)]
/-- An element of a row of the call's own stored whole. -/
theorem Owns.put {w : World} {c n cap : Nat} {l : List Sn} (hn : l.length = n) (h : Owns w (.slice (some ⟨c, 0, none⟩) n cap) l) {k : Nat} (hk : k < n) (s : Sn) :
    Owns (w.setCells c (k * 8) (sv s)) (.slice (some ⟨c, 0, none⟩) n cap) (l.set k s) ∧ Fr (fun j => j = c) w (w.setCells c (k * 8) (sv s)) := by
  subst hn
  have fr : ∀ {u : World} (i : Nat) (x : Value), Fr (fun j => j = c) w u → Fr (fun j => j = c) w (u.setCell ⟨c, i, none⟩ x) := fun i x hu => hu.setCell (fun _ => rfl) x
  have h0 := World.ownsRow.stored h (k * 8) (.int .u64 s.pn)
  have h1 := World.ownsRow.stored h0.1 (k * 8 + 1) (.int .u64 s.off)
  have h2 := World.ownsRow.stored h1.1 (k * 8 + 1 + 1) (.int .u64 s.len)
  have h3 := World.ownsRow.stored h2.1 (k * 8 + 1 + 1 + 1) (.int .u64 s.nonce)
  have h4 := World.ownsRow.stored h3.1 (k * 8 + 1 + 1 + 1 + 1) (.int .u64 s.time)
  have h5 := World.ownsRow.stored h4.1 (k * 8 + 1 + 1 + 1 + 1 + 1) (.bool s.coin)
  have h6 := World.ownsRow.stored h5.1 (k * 8 + 1 + 1 + 1 + 1 + 1 + 1) (.bool s.used)
  have h7 := World.ownsRow.stored h6.1 (k * 8 + 1 + 1 + 1 + 1 + 1 + 1 + 1) (.int .i64 s.state)
  refine ⟨?_, ?_⟩
  · have := h7.1
    rw [sents_put l k s hk] at this
    unfold Owns
    rw [List.length_set]
    exact this
  · exact fr _ _ (fr _ _ (fr _ _ (fr _ _ (fr _ _ (fr _ _ (fr _ _ (fr _ _ (Fr.refl _ _))))))))
theorem Owns.there {w : World} {c n cap : Nat} {l : List Sn} (hn : l.length = n) (h : Owns w (.slice (some ⟨c, 0, none⟩) n cap) l) {k : Nat} (hk : k < n) : w.there c (k * 8) 8 := by
  subst hn
  intro j hj
  refine ⟨?_, World.ownsRow.frozenAt h _⟩
  rw [World.ownsRow.cellAt h _ (by omega), sents_at j hk hj]
  have : (sv (l.getD k Z8)).length = 8 := rfl
  rw [List.getElem?_eq_getElem (by omega)]
  rfl
/-- .. as an operation. -/
theorem wp_store8 {o : Oper} {a : Act} {K : Act → World → Prop} {Q : Exit → Act → World → Prop} {w : World} (x y : Operand) (ho : o.op = .store 76 x y) {c n cap : Nat} {l : List Sn} (hn : l.length = n) (hO : Owns w (.slice (some ⟨c, 0, none⟩) n cap) l) {k : Nat} (hk : k < n) (s : Sn)
    (hx : a.eval x = .pointer (some ⟨c, k * 8, none⟩)) (hy : a.eval y = .agg #[.int .u64 s.pn, .int .u64 s.off, .int .u64 s.len, .int .u64 s.nonce, .int .u64 s.time, .bool s.coin, .bool s.used, .int .i64 s.state])
    (h : ∀ w', Owns w' (.slice (some ⟨c, 0, none⟩) n cap) (l.set k s) → Fr (fun j => j = c) w w' → K (a.put o.dst undef) w') : o.wp Tryz.prog a w K Q := by
  obtain ⟨i0, hi0, hz0, hz1, hz2⟩ := info_parts info8
  refine wp_store_mid 76 x y ho c (k * 8) _ hx hy (hO.there hn hk) (by rw [hi0]; exact congrArg some hz1) (by simp [Value.oneCell']) ?_
  obtain ⟨h1, h2⟩ := hO.put hn hk s
  exact h _ h1 h2
theorem getD_set_same (l : List Sn) {k : Nat} (s : Sn) (hk : k < l.length) : (l.set k s).getD k Z8 = s := by simp [List.getD, hk]
theorem getD_set_other (l : List Sn) {k i : Nat} (s : Sn) (h : k ≠ i) : (l.set k s).getD i Z8 = l.getD i Z8 := by
  simp only [List.getD]
  rw [List.getElem?_set_ne h]
/-- Two numbers of one ring's length have places of their own. -/
theorem mod_ne {R i j L : Nat} (hR : 0 < R) (h1 : L ≤ i + R) (h2 : L ≤ j + R) (h3 : i < L) (h4 : j < L) (hne : i ≠ j) : i % R ≠ j % R := by
  intro e
  have a := Nat.div_add_mod i R
  have b := Nat.div_add_mod j R
  rw [e] at a
  rcases Nat.lt_trichotomy (i / R) (j / R) with h | h | h
  · have := Nat.mul_le_mul_left R (show i / R + 1 ≤ j / R from h)
    rw [Nat.mul_add] at this
    omega
  · rw [h] at a
    omega
  · have := Nat.mul_le_mul_left R (show j / R + 1 ≤ i / R from h)
    rw [Nat.mul_add] at this
    omega
end Go.Proofs.YtkiloaebokkjbaaGreat.Base
namespace Go.Proofs.YtkiloaebokkjbaaGreat.Led
set_option linter.unusedVariables false
open Go.ChangeShapes Go.WideShapes Go.ChangeAt Go.RowKit
open Go.Proofs.YtkiloaebokkjbaaGreat.Base Go.Proofs.YtkiloaebokkjbaaGreat.LedPlain

/-- The program's ledger g: its block b, the block c of its ring kc; both lie in S. -/
structure Kp (S : Nat → Prop) (w : World) (b c cap : Nat) (kc : List Sn) (g : Lg) : Prop where
  ok : Ok g
  inB : S b
  inC : S c
  ne : c ≠ b
  blk : Blk w b #[.slice (some ⟨c, 0, none⟩) kc.length cap, .int .u64 g.limit, .int .u64 g.l.length] 142
  own : Owns w (.slice (some ⟨c, 0, none⟩) kc.length cap) kc
  len : (kc.length : Int) = g.ring
  at_ : ∀ i, lowN g ≤ i → i < g.l.length → kc.getD (i % kc.length) Z8 = atN g i
theorem Kp.kept {S T : Nat → Prop} {w w' : World} {b c cap : Nat} {kc : List Sn} {g : Lg} (h : Kp S w b c cap kc g) (hf : Fr T w w') (hn : ∀ k, S k → ¬ T k) : Kp S w' b c cap kc g :=
  ⟨h.ok, h.inB, h.inC, h.ne, h.blk.kept hf (hn b h.inB), h.own.kept hf (fun k hk => by cases hk; exact hn c h.inC), h.len, h.at_⟩
theorem Kp.below {S : Nat → Prop} {w w' : World} {b c cap : Nat} {kc : List Sn} {g : Lg} (h : Kp S w b c cap kc g) (hb : Below w.heap.size w w') : Kp S w' b c cap kc g := h.kept (T := fun _ => False) (Fr.of_below hb) fun _ _ h => h
theorem Kp.mono {S T : Nat → Prop} {w : World} {b c cap : Nat} {kc : List Sn} {g : Lg} (h : Kp S w b c cap kc g) (hn : ∀ k, S k → T k) : Kp T w b c cap kc g :=
  ⟨h.ok, hn b h.inB, hn c h.inC, h.ne, h.blk, h.own, h.len, h.at_⟩
theorem Kp.drew {S : Nat → Prop} {w : World} {b c cap : Nat} {kc : List Sn} {g : Lg} (h : Kp S w b c cap kc g) : Kp S w.drew b c cap kc g := ⟨h.ok, h.inB, h.inC, h.ne, h.blk, h.own, h.len, h.at_⟩
theorem Kp.c0 {S : Nat → Prop} {w : World} {b c cap : Nat} {kc : List Sn} {g : Lg} (h : Kp S w b c cap kc g) : w.cell? ⟨b, 0, none⟩ = some (.slice (some ⟨c, 0, none⟩) kc.length cap) := h.blk.cell 0
theorem Kp.c1 {S : Nat → Prop} {w : World} {b c cap : Nat} {kc : List Sn} {g : Lg} (h : Kp S w b c cap kc g) : w.cell? ⟨b, 1, none⟩ = some (.int .u64 g.limit) := h.blk.cell 1
theorem Kp.c2 {S : Nat → Prop} {w : World} {b c cap : Nat} {kc : List Sn} {g : Lg} (h : Kp S w b c cap kc g) : w.cell? ⟨b, 2, none⟩ = some (.int .u64 g.l.length) := h.blk.cell 2
theorem Kp.lt {S : Nat → Prop} {w : World} {b c cap : Nat} {kc : List Sn} {g : Lg} (h : Kp S w b c cap kc g) : b < w.heap.size := h.blk.lt
theorem Kp.ltc {S : Nat → Prop} {w : World} {b c cap : Nat} {kc : List Sn} {g : Lg} (h : Kp S w b c cap kc g) : c < w.heap.size := h.own.lt rfl
theorem Kp.r0 {S : Nat → Prop} {w : World} {b c cap : Nat} {kc : List Sn} {g : Lg} (h : Kp S w b c cap kc g) : 4 ≤ kc.length ∧ kc.length ≤ 256 := by
  have h0 := h.ok.r0
  have h1 := h.ok.r1
  have h2 := h.len
  omega
theorem Kp.caps {S : Nat → Prop} {w : World} {b c cap : Nat} {kc : List Sn} {g : Lg} (h : Kp S w b c cap kc g) : kc.length ≤ cap ∧ cap ≤ 9223372036854775807 := by
  obtain ⟨a, cap', e, h1, h2, _⟩ := h.own.read
  injection e with e1 e2 e3
  subst e3
  unfold maxLen at h2
  exact ⟨h1, h2⟩
theorem Kp.low {S : Nat → Prop} {w : World} {b c cap : Nat} {kc : List Sn} {g : Lg} (h : Kp S w b c cap kc g) : lowN g = g.l.length - kc.length := by
  have h2 := h.len
  unfold lowN
  omega
theorem Kp.nl {S : Nat → Prop} {w : World} {b c cap : Nat} {kc : List Sn} {g : Lg} (h : Kp S w b c cap kc g) : (g.l.length : Int) ≤ 4611686018427387904 := by
  have := h.ok.n1
  have := h.ok.l1
  omega
/-- The cells of a number that is kept. -/
theorem Kp.cells {S : Nat → Prop} {w : World} {b c cap : Nat} {kc : List Sn} {g : Lg} (h : Kp S w b c cap kc g) {k : Nat} (h1 : lowN g ≤ k) (h2 : k < g.l.length) : At8 w c (k % kc.length * 8) (atN g k) := by
  have hr := h.r0
  obtain ⟨a, cap', e, _, _, hz, _, _⟩ := h.own.read
  injection e with e1 e2 e3
  subst e1
  obtain ⟨b', off, e', hb', h8⟩ := hz.at_ (i := k % kc.length) (Nat.mod_lt _ (by omega))
  cases e'
  rw [h.at_ k h1 h2, Nat.zero_add] at h8
  exact h8
end Go.Proofs.YtkiloaebokkjbaaGreat.Led

/-
  Contract of the reference's SameSent, of two slices that read alike.
-/
set_option linter.unusedSimpArgs false
set_option linter.unusedVariables false
namespace Go.Proofs.YtkiloaebokkjbaaGreat.Led
set_option linter.unusedVariables false
set_option maxRecDepth 20000
open Go.ChangeShapes Go.WideShapes Go.ChangeAt Go.RowKit
open Go.Proofs.YtkiloaebokkjbaaGreat.Base Go.Proofs.YtkiloaebokkjbaaGreat.LedPlain

set_option maxHeartbeats 1000000 in
theorem ref_same (a a' : Option Addr) (n cap cap' : Nat) (l : List Sn) (w : World) (hn : l.length = n) (hm : n ≤ 1000000) (hz : Sents w a l) (hz' : Sents w a' l) :
    Calls Tryz.prog 19 #[.slice a n cap, .slice a' n cap'] w fun e w' => e = .returned (.bool true) ∧ Below w.heap.size w w' := by
  subst hn
  go_enter Tryz.func19, Tryz.ntmps19
  go_wp2
  go_loopw [5] (fun i wr => ∃ k : Nat, k ≤ l.length ∧ i = .int .i64 k ∧ Below w.heap.size w wr) (fun i _ => l.length - (intOf i).toNat)
  case atStart => exact ⟨0, Nat.zero_le _, rfl, Below.refl _ _⟩
  case round =>
    obtain ⟨k, hk, rfl, hL⟩ := hrel
    by_cases hlt : k < l.length
    · obtain ⟨b, off, rfl, hb, c0, c1, c2, c3, c4, c5, c6, c7⟩ := (hz.below hL).at_ hlt
      obtain ⟨b', off', rfl, hb', d0, d1, d2, d3, d4, d5, d6, d7⟩ := (hz'.below hL).at_ hlt
      generalize l.getD k Z8 = s at *
      have hkI : (k : Int) < (l.length : Int) := by omega
      go_wp2
      go_quiet (fail)
      all_goals go_wp2
      all_goals go_roundw
      case rel => exact ⟨k + 1, by omega, by go_num, Base.drawn hL _⟩
      case measure => simp [intOf]; omega
    · obtain rfl : k = l.length := by omega
      go_wp2
      go_ret
      exact ⟨rfl, hL⟩
end Go.Proofs.YtkiloaebokkjbaaGreat.Led
