/-
  Contracts of the reference's ledger: what it tells.
-/
import Derived.Test.YtoncominjgkjoaaLedRow
import Derived.Test.YtoncominjgkjoaaIn
import Derived.WalkSpells
import Derived.LoopTactic
import Derived.Lib.Hide
import Derived.BigQuiet
import Derived.Deep.QuietTactic
import Derived.Deep.RegionHeld3
import Derived.Deep.RegionWith
import Derived.Deep.RegionLaw
import Derived.Deep.DeepCutAuto
import Derived.Outline
set_option linter.unusedSimpArgs false
set_option linter.unusedVariables false
namespace Go.Proofs.Ytoncominjgkjoaa.Led
set_option linter.unusedVariables false
set_option maxRecDepth 20000
open Go.ChangeShapes Go.WideShapes Go.ChangeAt Go.RowKit
open Go.Proofs.Ytoncominjgkjoaa.Base Go.Proofs.Ytoncominjgkjoaa.LedPlain

/-- The reference's ledger g: its block b and the row of all that ever was given lie in S. -/
structure Rf (S : Nat → Prop) (w : World) (b : Nat) (g : Lg) : Prop where
  ok : Ok g
  inB : S b
  ex : ∃ v, Blk w b #[.int .i64 g.ring, .int .u64 g.limit, v] 58 ∧ Owns w v g.l ∧ ∀ k, v.ownBlock = some k → S k ∧ k ≠ b
theorem Rf.kept {S T : Nat → Prop} {w w' : World} {b : Nat} {g : Lg} (h : Rf S w b g) (hf : Fr T w w') (hn : ∀ k, S k → ¬ T k) : Rf S w' b g := by
  obtain ⟨v, hB, hO, hv⟩ := h.ex
  exact ⟨h.ok, h.inB, v, hB.kept hf (hn b h.inB), hO.kept hf fun k hk => hn k (hv k hk).1, hv⟩
theorem Rf.below {S : Nat → Prop} {w w' : World} {b : Nat} {g : Lg} (h : Rf S w b g) (hb : Below w.heap.size w w') : Rf S w' b g := h.kept (T := fun _ => False) (Fr.of_below hb) fun _ _ h => h
theorem Rf.mono {S T : Nat → Prop} {w : World} {b : Nat} {g : Lg} (h : Rf S w b g) (hn : ∀ k, S k → T k) : Rf T w b g := by
  obtain ⟨v, hB, hO, hv⟩ := h.ex
  exact ⟨h.ok, hn b h.inB, v, hB, hO, fun k hk => ⟨hn k (hv k hk).1, (hv k hk).2⟩⟩
theorem Rf.drew {S : Nat → Prop} {w : World} {b : Nat} {g : Lg} (h : Rf S w b g) : Rf S w.drew b g := ⟨h.ok, h.inB, h.ex⟩
theorem Rf.lt {S : Nat → Prop} {w : World} {b : Nat} {g : Lg} (h : Rf S w b g) : b < w.heap.size := by
  obtain ⟨v, hB, _⟩ := h.ex
  exact hB.lt
/-- What a walk reads of it. -/
theorem Rf.read {S : Nat → Prop} {w : World} {b : Nat} {g : Lg} (h : Rf S w b g) : ∃ a cap, w.cell? ⟨b, 0, none⟩ = some (.int .i64 g.ring) ∧ w.cell? ⟨b, 1, none⟩ = some (.int .u64 g.limit) ∧ w.cell? ⟨b, 2, none⟩ = some (.slice a g.l.length cap) ∧ g.l.length ≤ cap ∧ cap ≤ maxLen ∧ Sents w a g.l := by
  obtain ⟨v, hB, hO, _⟩ := h.ex
  obtain ⟨a, cap, rfl, h1, h2, h3, _⟩ := hO.read
  exact ⟨a, cap, hB.cell 0, hB.cell 1, hB.cell 2, h1, h2, h3⟩

theorem ref_next {S : Nat → Prop} {w : World} {b : Nat} {g : Lg} (h : Rf S w b g) :
    Calls Try.prog 9 #[.pointer (some ⟨b, 0, none⟩)] w fun e w' => e = .returned (.int .u64 g.l.length) ∧ w = w' := by
  obtain ⟨a, cap, c0, c1, c2, h1, h2, hz⟩ := h.read
  unfold maxLen at h2
  have hb := h.lt
  go_enter Try.func9, Try.ntmps9
  go_wp2
  go_ret
  exact ⟨rfl, rfl⟩
theorem ref_low {S : Nat → Prop} {w : World} {b : Nat} {g : Lg} (h : Rf S w b g) :
    Calls Try.prog 28 #[.pointer (some ⟨b, 0, none⟩)] w fun e w' => e = .returned (.int .u64 (lowN g)) ∧ Below w.heap.size w w' := by
  obtain ⟨a, cap, c0, c1, c2, h1, h2, hz⟩ := h.read
  unfold maxLen at h2
  have hb := h.lt
  have r0 := h.ok.r0
  have r1 := h.ok.r1
  have hlow : (lowN g : Int) = if (0 : Int) < (g.l.length : Int) - g.ring then (g.l.length : Int) - g.ring else 0 := by
    unfold lowN
    split <;> omega
  generalize (lowN g : Int) = L at *
  generalize g.l.length = n at *
  generalize g.ring = r at *
  go_enter Try.func28, Try.ntmps28
  go_wp2
  go_quiet (fail)
  all_goals go_wp2
  all_goals go_ret
  all_goals exact ⟨rfl, Base.drawn (Below.refl _ _) _⟩
theorem first_step {l : List Sn} {k : Nat} (h : k < l.length) : firstF k (l.drop k) = if (l.getD k Z8).state = 1 then k else firstF (k + 1) (l.drop (k + 1)) := by
  rw [List.drop_eq_getElem_cons h, firstF, show l.getD k Z8 = l[k] by simp [List.getD, h]]
theorem ref_least {S : Nat → Prop} {w : World} {b : Nat} {g : Lg} (h : Rf S w b g) :
    Calls Try.prog 31 #[.pointer (some ⟨b, 0, none⟩)] w fun e w' => e = .returned (.int .u64 (leastN g)) ∧ Below w.heap.size w w' := by
  have hlow := low_le g
  have hN : firstF (lowN g) (g.l.drop (lowN g)) = leastN g := rfl
  have C0 := ref_low h
  generalize lowN g = k0 at *
  generalize leastN g = K at *
  have hnl : (g.l.length : Int) ≤ 4611686018427387904 := by have := h.ok.n1; have := h.ok.l1; omega
  go_enter Try.func31, Try.ntmps31
  go_wp2_with (go_at_call 28; refine C0.mono ?_; rintro e w1 ⟨rfl, L1⟩; clear C0)
  go_loopw [3] (fun i wr => ∃ k : Nat, k ≤ g.l.length ∧ i = .int .i64 k ∧ firstF k (g.l.drop k) = K ∧ Below w.heap.size w wr) (fun i _ => g.l.length - (intOf i).toNat)
  case atStart => exact ⟨k0, hlow, rfl, hN, L1⟩
  case round =>
    obtain ⟨k, hk, rfl, hF, hL⟩ := hrel
    obtain ⟨a, cap, c0, c1, c2, h1, h2, hz⟩ := (h.below hL).read
    have hb := (h.below hL).lt
    unfold maxLen at h2
    by_cases hlt : k < g.l.length
    · rw [first_step hlt] at hF
      obtain ⟨b', off', rfl, hb', e0, e1, e2, e3, e4, e5, e6, e7⟩ := hz.at_ hlt
      generalize g.l.getD k Z8 = s at *
      clear e0 e1 e2 e3 e4 e5 e6 c0 c1
      by_cases hs : s.state = 1
      · rw [if_pos hs] at hF
        subst hF
        go_wp2
        go_ret
        exact ⟨rfl, hL⟩
      · rw [if_neg hs] at hF
        go_wp2
        all_goals go_roundw
        case rel => exact ⟨k + 1, by omega, by go_num, hF, hL⟩
        case measure => simp [intOf]; omega
    · obtain rfl : k = g.l.length := by omega
      rw [List.drop_eq_nil_of_le (Nat.le_refl _)] at hF
      obtain rfl : g.l.length = K := hF
      go_wp2
      go_ret
      exact ⟨rfl, hL⟩
theorem ref_room {S : Nat → Prop} {w : World} {b : Nat} {g : Lg} (h : Rf S w b g) :
    Calls Try.prog 33 #[.pointer (some ⟨b, 0, none⟩)] w fun e w' => e = .returned (.int .i64 (roomI g)) ∧ Below w.heap.size w w' := by
  obtain ⟨a, cap, c0, _, _, _⟩ := h.read
  have CN := fun p : In (Lt w) => ref_next (h.below p.h)
  have CL := fun p : In (Lt w) => ref_least (h.below p.h)
  have e0 := fun p : In (Lt w) => inCell p c0
  have hge := least_le g
  have hrm : roomI g = g.ring - ((g.l.length : Int) - leastN g) := rfl
  have hR := room_ge h.ok
  have hR2 := room_le h.ok
  have r1 := h.ok.r1
  have hnl : (g.l.length : Int) ≤ 4611686018427387904 := by have := h.ok.n1; have := h.ok.l1; omega
  clear h c0
  generalize leastN g = K at *
  generalize roomI g = R at *
  generalize g.l.length = n at *
  generalize g.ring = r at *
  go_enter Try.func33, Try.ntmps33
  go_wp2
  refine wp_region_in (Lt w) (Lt.drew w) (by kernel_rfl) (by kernel_rfl) ?_
  repeat (go_big_quiet_step ((first | (go_at_call 9; refine in_same (v := .int .u64 n) ?_; exact CN _) | (go_at_call 31; refine in_below (v := .int .u64 K) ?_; exact CL _))))
  refine wpQuiet_nil ?_
  rintro _ ⟨⟨w1, hw1⟩, rfl⟩
  go_wp2
  go_ret
  exact ⟨Base.ret_i64 (by omega), hw1⟩
theorem fly_step {l : List Sn} {k : Nat} (h : k < l.length) : fly (l.drop k) = (if (l.getD k Z8).state = 1 then (l.getD k Z8).len else 0) + fly (l.drop (k + 1)) := by
  rw [List.drop_eq_getElem_cons h, fly, show l.getD k Z8 = l[k] by simp [List.getD, h]]
theorem fly_bd {g : Lg} (h : Ok g) (k : Nat) : 0 ≤ fly (g.l.drop k) ∧ fly (g.l.drop k) ≤ 1500 * ((g.l.length - k : Nat) : Int) := by
  have := fly_le (g.l.drop k) fun s hs he => by
    obtain ⟨i, hi, rfl⟩ := List.getElem_of_mem hs
    rw [List.getElem_drop] at he ⊢
    rw [List.length_drop] at hi
    have := h.each (k + i) (by omega)
    rw [show atN g (k + i) = g.l[k + i] by unfold atN; simp [List.getD, show k + i < g.l.length by omega]] at this
    have := this.2.2.2.2.1 (by omega)
    omega
  rwa [List.length_drop] at this
theorem flight_bd {g : Lg} (h : Ok g) : 0 ≤ flight g ∧ flight g ≤ 384000 := by
  have := fly_bd h (lowN g)
  have r1 := h.r1
  unfold flight
  refine ⟨this.1, Int.le_trans this.2 ?_⟩
  unfold lowN
  omega
theorem ref_flight {S : Nat → Prop} {w : World} {b : Nat} {g : Lg} (h : Rf S w b g) :
    Calls Try.prog 35 #[.pointer (some ⟨b, 0, none⟩)] w fun e w' => e = .returned (.int .u64 (flight g)) ∧ Below w.heap.size w w' := by
  have hlow := low_le g
  have hN : (0 : Int) + fly (g.l.drop (lowN g)) = flight g := Int.zero_add _
  obtain ⟨_, hF1⟩ := flight_bd h.ok
  have C0 := ref_low h
  generalize lowN g = k0 at *
  generalize flight g = F at *
  have hnl : (g.l.length : Int) ≤ 4611686018427387904 := by have := h.ok.n1; have := h.ok.l1; omega
  go_enter Try.func35, Try.ntmps35
  go_wp2_with (go_at_call 28; refine C0.mono ?_; rintro e w1 ⟨rfl, L1⟩; clear C0)
  go_loopw [3, 4] (fun o i wr => ∃ (k : Nat) (n : Int), k ≤ g.l.length ∧ i = .int .i64 k ∧ o = .int .u64 n ∧ 0 ≤ n ∧ n + fly (g.l.drop k) = F ∧ Below w.heap.size w wr) (fun _ i _ => g.l.length - (intOf i).toNat)
  case atStart => exact ⟨k0, 0, hlow, rfl, rfl, Int.le_refl _, hN, L1⟩
  case round =>
    obtain ⟨k, n, hk, rfl, rfl, hn0, hF, hL⟩ := hrel
    obtain ⟨a, cap, c0, c1, c2, h1, h2, hz⟩ := (h.below hL).read
    have hb := (h.below hL).lt
    unfold maxLen at h2
    have hbd := fly_bd h.ok k
    have hbd1 := fly_bd h.ok (k + 1)
    by_cases hlt : k < g.l.length
    · rw [fly_step hlt] at hF
      have hE := h.ok.each k hlt
      rw [show atN g k = g.l.getD k Z8 from rfl] at hE
      obtain ⟨b', off', rfl, hb', e0, e1, e2, e3, e4, e5, e6, e7⟩ := hz.at_ hlt
      generalize g.l.getD k Z8 = s at *
      clear e0 e1 e3 e4 e5 e6 c0 c1 hN
      generalize hfe : fly (g.l.drop (k + 1)) = f at *
      have HF := Lib.hid hfe
      clear hfe
      obtain ⟨f0, _⟩ := hbd1
      obtain ⟨_, _, _, _, hE, _, _⟩ := hE
      clear hbd
      by_cases hs : s.state = 1
      · rw [if_pos hs] at hF
        obtain ⟨l0, l1, _⟩ := hE (by omega)
        clear hE
        generalize s.len = x at *
        generalize s.state = y at *
        subst hs
        have hF' := Lib.hid hF
        have hx : n + x ≤ 384000 := by omega
        clear hF
        go_wp2
        all_goals go_roundw
        case rel => exact ⟨k + 1, n + x, by omega, by go_num, rfl, by omega, by rw [HF.out]; have := hF'.out; omega, hL⟩
        case measure => simp [intOf]; omega
      · rw [if_neg hs] at hF
        clear hE e2
        go_wp2
        all_goals go_roundw
        case rel => exact ⟨k + 1, n, by omega, by go_num, rfl, hn0, by rw [HF.out]; omega, hL⟩
        case measure => simp [intOf]; omega
    · obtain rfl : k = g.l.length := by omega
      rw [List.drop_eq_nil_of_le (Nat.le_refl _)] at hF
      obtain rfl : n = F := by have : fly [] = 0 := rfl; omega
      go_wp2
      go_ret
      exact ⟨rfl, hL⟩
end Go.Proofs.Ytoncominjgkjoaa.Led
