/-
  Contracts of the program's ledger: what it tells.
-/
import Derived.Test.YtoncominjgkjoaaLedKp
import Derived.Test.YtoncominjgkjoaaSat
import Derived.Test.YtoncominjgkjoaaIn
import Derived.WalkSpells
import Derived.LoopTactic
import Derived.Lib.Hide
import Derived.BigQuiet
import Derived.Deep.QuietTactic
import Derived.Deep.RegionHeld3
import Derived.Deep.RegionWith
import Derived.Deep.RegionLaw
import Derived.Deep.DeepCutAuto
import Derived.Outline
set_option linter.unusedSimpArgs false
set_option linter.unusedVariables false
namespace Go.Proofs.Ytoncominjgkjoaa.Led
set_option linter.unusedVariables false
set_option maxRecDepth 20000
open Go.ChangeShapes Go.WideShapes Go.ChangeAt Go.RowKit
open Go.Proofs.Ytoncominjgkjoaa.Base Go.Proofs.Ytoncominjgkjoaa.LedPlain

/-- A ledger's own block: the ring's length R, the greatest number m, the next number n. -/
structure Kb (w : World) (b c cap R : Nat) (m : Int) (n : Nat) : Prop where
  blk : Blk w b #[.slice (some ⟨c, 0, none⟩) R cap, .int .u64 m, .int .u64 n] 67
  r0 : 4 ≤ R
  r1 : R ≤ 256
  q0 : R ≤ cap
  q1 : cap ≤ 9223372036854775807
  nl : (n : Int) ≤ 4611686018427387904
  ltc : c < w.heap.size
theorem Kb.below {w w' : World} {b c cap R : Nat} {m : Int} {n : Nat} (h : Kb w b c cap R m n) (hb : Below w.heap.size w w') : Kb w' b c cap R m n :=
  ⟨h.blk.below hb h.blk.lt, h.r0, h.r1, h.q0, h.q1, h.nl, Nat.lt_of_lt_of_le h.ltc hb.size⟩
theorem Kp.kb {S : Nat → Prop} {w : World} {b c cap : Nat} {kc : List Sn} {g : Lg} (h : Kp S w b c cap kc g) : Kb w b c cap kc.length g.limit g.l.length :=
  ⟨h.blk, h.r0.1, h.r0.2, h.caps.1, h.caps.2, h.nl, h.ltc⟩
theorem next_b {w : World} {b c cap R : Nat} {m : Int} {n : Nat} (h : Kb w b c cap R m n) :
    Calls Try.prog 29 #[.pointer (some ⟨b, 0, none⟩)] w fun e w' => e = .returned (.int .u64 n) ∧ w = w' := by
  have c2 : w.cell? ⟨b, 2, none⟩ = some (.int .u64 n) := h.blk.cell 2
  have hb := h.blk.lt
  have hn := h.nl
  go_enter Try.func29, Try.ntmps29
  go_wp2
  go_ret
  exact ⟨rfl, rfl⟩
theorem low_b {w : World} {b c cap R : Nat} {m : Int} {n : Nat} (h : Kb w b c cap R m n) :
    Calls Try.prog 27 #[.pointer (some ⟨b, 0, none⟩)] w fun e w' => e = .returned (.int .u64 ((n - R : Nat) : Int)) ∧ Below w.heap.size w w' := by
  obtain ⟨hB, r0, r1, q0, q1, hn, _⟩ := h
  have hb := hB.lt
  have e0 := fun p : In (Lt w) => inCell p (o := 0) (v := .slice (some ⟨c, 0, none⟩) R cap) (hB.cell 0)
  have e2 := fun p : In (Lt w) => inCell p (o := 2) (v := .int .u64 n) (hB.cell 2)
  have CS := fun p : In (Lt w) => Sat.sub_any n R (by omega) (by omega) (by omega) (by omega) p.w
  have hsub : Sat.sub n R = ((n - R : Nat) : Int) := by unfold Sat.sub; split <;> omega
  rw [hsub] at CS
  clear hsub
  generalize ((n - R : Nat) : Int) = L at *
  go_enter Try.func27, Try.ntmps27
  go_wp2
  refine wp_region_in (Lt w) (Lt.drew w) (by kernel_rfl) (by kernel_rfl) ?_
  repeat (go_big_quiet_step ((go_at_call 50; refine in_same (v := .int .u64 L) ?_; exact CS _)))
  refine wpQuiet_nil ?_
  rintro _ ⟨⟨w1, hw1⟩, rfl⟩
  go_wp2
  go_ret
  exact ⟨rfl, hw1⟩
theorem entry_b {w : World} {b c cap R : Nat} {m : Int} {n : Nat} (h : Kb w b c cap R m n) (k : Nat) (k0 : n - R ≤ k) (k1 : k < n) :
    Calls Try.prog 37 #[.pointer (some ⟨b, 0, none⟩), .int .u64 k] w fun e w' => e = .returned (.pointer (some ⟨c, k % R * 8, none⟩)) ∧ Below w.heap.size w w' := by
  have C0 := low_b h
  have hn := h.nl
  have k0' : ((n - R : Nat) : Int) ≤ k := by omega
  have k1' : (k : Int) < (n : Int) := by omega
  obtain ⟨_, r0, r1, q0, q1, _, _⟩ := id h
  have hm : (k : Int).tmod R = ((k % R : Nat) : Int) := rfl
  have hm1 : k % R < R := Nat.mod_lt _ (by omega)
  have hmi : ((k % R : Nat) : Int) < (R : Int) := by omega
  generalize ((n - R : Nat) : Int) = L at *
  go_enter Try.func37, Try.ntmps37
  go_wp2_with (first
    | (go_at_call 27; refine C0.mono ?_; rintro e w1 ⟨rfl, L1⟩; clear C0; have hR := h.below L1; have C1 := next_b hR; have c0 : w1.cell? ⟨b, 0, none⟩ = some (.slice (some ⟨c, 0, none⟩) R cap) := hR.blk.cell 0; have hb := hR.blk.lt; have hc := hR.ltc)
    | (go_at_call 29; refine C1.mono ?_; rintro e w2 ⟨rfl, rfl⟩))
  go_quiet (fail)
  all_goals go_wp2
  all_goals go_ret
  all_goals exact ⟨rfl, Base.drawn L1 _⟩
theorem next_in {S : Nat → Prop} {w : World} {b c cap : Nat} {kc : List Sn} {g : Lg} (h : Kp S w b c cap kc g) :
    Calls Try.prog 29 #[.pointer (some ⟨b, 0, none⟩)] w fun e w' => e = .returned (.int .u64 g.l.length) ∧ w = w' := next_b h.kb
theorem low_in {S : Nat → Prop} {w : World} {b c cap : Nat} {kc : List Sn} {g : Lg} (h : Kp S w b c cap kc g) :
    Calls Try.prog 27 #[.pointer (some ⟨b, 0, none⟩)] w fun e w' => e = .returned (.int .u64 (lowN g)) ∧ Below w.heap.size w w' := by
  rw [h.low]
  exact low_b h.kb
theorem entry_none {S : Nat → Prop} {w : World} {b c cap : Nat} {kc : List Sn} {g : Lg} (h : Kp S w b c cap kc g) (pn : Int) (p0 : 0 ≤ pn) (p1 : pn ≤ 18446744073709551615) (hk : ¬ keptN g pn) :
    Calls Try.prog 37 #[.pointer (some ⟨b, 0, none⟩), .int .u64 pn] w fun e w' => e = .returned (.pointer none) ∧ Below w.heap.size w w' := by
  have C0 := low_in h
  unfold keptN at hk
  have hn := h.nl
  by_cases h1 : pn < (lowN g : Int)
  · generalize (lowN g : Int) = L at *
    go_enter Try.func37, Try.ntmps37
    go_wp2_with (go_at_call 27; refine C0.mono ?_; rintro e w1 ⟨rfl, L1⟩; clear C0)
    go_ret
    exact ⟨rfl, L1⟩
  · have h2 : (g.l.length : Int) ≤ pn := by omega
    generalize (lowN g : Int) = L at *
    go_enter Try.func37, Try.ntmps37
    go_wp2_with (first
      | (go_at_call 27; refine C0.mono ?_; rintro e w1 ⟨rfl, L1⟩; clear C0; have C1 := next_in (h.below L1))
      | (go_at_call 29; refine C1.mono ?_; rintro e w2 ⟨rfl, rfl⟩))
    go_ret
    exact ⟨rfl, L1⟩
theorem entry_some {S : Nat → Prop} {w : World} {b c cap : Nat} {kc : List Sn} {g : Lg} (h : Kp S w b c cap kc g) (k : Nat) (k0 : lowN g ≤ k) (k1 : k < g.l.length) :
    Calls Try.prog 37 #[.pointer (some ⟨b, 0, none⟩), .int .u64 k] w fun e w' => e = .returned (.pointer (some ⟨c, k % kc.length * 8, none⟩)) ∧ Below w.heap.size w w' :=
  entry_b h.kb k (by rw [← h.low]; exact k0) k1
theorem least_in {S : Nat → Prop} {w : World} {b c cap : Nat} {kc : List Sn} {g : Lg} (h : Kp S w b c cap kc g) :
    Calls Try.prog 30 #[.pointer (some ⟨b, 0, none⟩)] w fun e w' => e = .returned (.int .u64 (leastN g)) ∧ Below w.heap.size w w' := by
  have hlow := low_le g
  have hN : firstF (lowN g) (g.l.drop (lowN g)) = leastN g := rfl
  have C0 := low_in h
  generalize hk0 : lowN g = k0 at *
  generalize leastN g = K at *
  have hnl := h.nl
  go_enter Try.func30, Try.ntmps30
  go_wp2_with (go_at_call 27; refine C0.mono ?_; rintro e w1 ⟨rfl, L1⟩; clear C0)
  go_loopw [3] (fun i wr => ∃ k : Nat, k0 ≤ k ∧ k ≤ g.l.length ∧ i = .int .u64 k ∧ firstF k (g.l.drop k) = K ∧ Below w.heap.size w wr) (fun i _ => g.l.length - (intOf i).toNat)
  case atStart => exact ⟨k0, Nat.le_refl _, hlow, rfl, hN, L1⟩
  case round =>
    obtain ⟨k, hk0', hk, rfl, hF, hL⟩ := hrel
    have hR := h.below hL
    have C1 := next_in hR
    have hkI : (k : Int) ≤ (g.l.length : Int) := by omega
    by_cases hlt : k < g.l.length
    · rw [first_step hlt] at hF
      have hltI : (k : Int) < (g.l.length : Int) := by omega
      have C2 := entry_some hR k (by omega) hlt
      by_cases hs : (g.l.getD k Z8).state = 1
      · rw [if_pos hs] at hF
        subst hF
        go_wp2_with (first
          | (go_at_call 29; refine C1.mono ?_; rintro e w2 ⟨rfl, rfl⟩)
          | (go_at_call 37; refine C2.mono ?_; rintro e w3 ⟨rfl, L3⟩; obtain ⟨_, _, _, _, _, _, _, e7⟩ := (hR.below L3).cells (by omega) hlt; rw [show (atN g k).state = 1 from hs] at e7; have hc := (hR.below L3).ltc; have hL3 := Base.next hL L3))
        go_ret
        exact ⟨rfl, hL3⟩
      · rw [if_neg hs] at hF
        go_wp2_with (first
          | (go_at_call 29; refine C1.mono ?_; rintro e w2 ⟨rfl, rfl⟩)
          | (go_at_call 37; refine C2.mono ?_; rintro e w3 ⟨rfl, L3⟩; obtain ⟨_, _, _, _, _, _, _, e7⟩ := (hR.below L3).cells (by omega) hlt; have hs' : (atN g k).state ≠ 1 := hs; generalize (atN g k).state = y at *; have hc := (hR.below L3).ltc; have hL3 := Base.next hL L3))
        all_goals go_roundw
        case rel => exact ⟨k + 1, by omega, by omega, by go_num, hF, hL3⟩
        case measure => simp [intOf]; omega
    · obtain rfl : k = g.l.length := by omega
      rw [List.drop_eq_nil_of_le (Nat.le_refl _)] at hF
      obtain rfl : g.l.length = K := hF
      go_wp2_with (go_at_call 29; refine C1.mono ?_; rintro e w2 ⟨rfl, rfl⟩)
      go_ret
      exact ⟨rfl, hL⟩
theorem room_in {S : Nat → Prop} {w : World} {b c cap : Nat} {kc : List Sn} {g : Lg} (h : Kp S w b c cap kc g) :
    Calls Try.prog 32 #[.pointer (some ⟨b, 0, none⟩)] w fun e w' => e = .returned (.int .i64 (roomI g)) ∧ Below w.heap.size w w' := by
  have e0 := fun p : In (Lt w) => inCell p h.c0
  have e2 := fun p : In (Lt w) => inCell p h.c2
  have CL := fun p : In (Lt w) => least_in (h.below p.h)
  have hge := least_le g
  have hge2 : (leastN g : Int) ≤ g.l.length := by omega
  have hrm : roomI g = g.ring - ((g.l.length : Int) - leastN g) := rfl
  have hR := room_ge h.ok
  have hR2 := room_le h.ok
  have hl := h.len
  rw [← hl] at hrm hR2
  have hnl := h.nl
  have hb := h.lt
  obtain ⟨r0, r1⟩ := h.r0
  obtain ⟨q0, q1⟩ := h.caps
  clear h hl hge
  generalize (leastN g : Int) = K at *
  generalize roomI g = R at *
  generalize (g.l.length : Int) = n at *
  generalize kc.length = r at *
  go_enter Try.func32, Try.ntmps32
  go_wp2
  refine wp_region_in (Lt w) (Lt.drew w) (by kernel_rfl) (by kernel_rfl) ?_
  repeat (go_big_quiet_step ((go_at_call 30; refine in_below (v := .int .u64 K) ?_; exact CL _)))
  refine wpQuiet_nil ?_
  rintro _ ⟨⟨w1, hw1⟩, rfl⟩
  go_wp2
  go_ret
  exact ⟨Base.ret_i64 (by omega), hw1⟩
theorem flight_in {S : Nat → Prop} {w : World} {b c cap : Nat} {kc : List Sn} {g : Lg} (h : Kp S w b c cap kc g) :
    Calls Try.prog 34 #[.pointer (some ⟨b, 0, none⟩)] w fun e w' => e = .returned (.int .u64 (flight g)) ∧ Below w.heap.size w w' := by
  have hlow := low_le g
  have hN : (0 : Int) + fly (g.l.drop (lowN g)) = flight g := Int.zero_add _
  obtain ⟨_, hF1⟩ := flight_bd h.ok
  have C0 := low_in h
  generalize hk0 : lowN g = k0 at *
  generalize flight g = F at *
  have hnl := h.nl
  go_enter Try.func34, Try.ntmps34
  go_wp2_with (go_at_call 27; refine C0.mono ?_; rintro e w1 ⟨rfl, L1⟩; clear C0)
  go_loopw [3, 4] (fun o i wr => ∃ (k : Nat) (n : Int), k0 ≤ k ∧ k ≤ g.l.length ∧ i = .int .u64 k ∧ o = .int .u64 n ∧ 0 ≤ n ∧ n + fly (g.l.drop k) = F ∧ Below w.heap.size w wr) (fun _ i _ => g.l.length - (intOf i).toNat)
  case atStart => exact ⟨k0, 0, Nat.le_refl _, hlow, rfl, rfl, Int.le_refl _, hN, L1⟩
  case round =>
    obtain ⟨k, n, hk0', hk, rfl, rfl, hn0, hF, hL⟩ := hrel
    have hR := h.below hL
    have C1 := next_in hR
    have hkI : (k : Int) ≤ (g.l.length : Int) := by omega
    have hbd := fly_bd h.ok k
    have hbd1 := fly_bd h.ok (k + 1)
    by_cases hlt : k < g.l.length
    · rw [fly_step hlt] at hF
      have hltI : (k : Int) < (g.l.length : Int) := by omega
      have C2 := entry_some hR k (by omega) hlt
      have hE := h.ok.each k hlt
      have hX := fun (W : World) (hW : Below w.heap.size w W) => (h.below hW).cells (k := k) (by omega) hlt
      have hc0 := fun (W : World) (hW : Below w.heap.size w W) => (h.below hW).ltc
      rw [show g.l.getD k Z8 = atN g k from rfl] at hF
      generalize atN g k = s at *
      generalize hfe : fly (g.l.drop (k + 1)) = f at *
      have HF := Lib.hid hfe
      clear hfe hN hbd
      obtain ⟨f0, _⟩ := hbd1
      obtain ⟨_, _, _, _, hE, _, _⟩ := hE
      by_cases hs : s.state = 1
      · rw [if_pos hs] at hF
        obtain ⟨l0, l1, _⟩ := hE (by omega)
        clear hE
        generalize hx : s.len = x at *
        have hF' := Lib.hid hF
        have hx1 : n + x ≤ 384000 := by omega
        clear hF
        have HX := Lib.hid hx
        clear hx
        have C3 := Sat.add_any n x (by omega) (by omega) (by omega) (by omega)
        rw [show Sat.add n x = n + x by unfold Sat.add; rw [if_pos (by omega)]] at C3
        have HS := Lib.hid hs
        clear hs
        go_wp2_with (first
          | (go_at_call 29; refine C1.mono ?_; rintro e w2 ⟨rfl, rfl⟩)
          | (go_at_call 37; refine C2.mono ?_; rintro e w3 ⟨rfl, L3⟩; have hL3 := Base.next hL L3; obtain ⟨_, _, e2, _, _, _, _, e7⟩ := hX _ hL3; have hc := hc0 _ hL3; rw [HS.out] at e7; rw [HX.out] at e2; clear HS HX)
          | (go_at_call 49; refine (C3 _).mono ?_; rintro e w4 ⟨rfl, rfl⟩))
        all_goals go_roundw
        case rel => exact ⟨k + 1, n + x, by omega, by omega, by go_num, rfl, by omega, by rw [HF.out]; have := hF'.out; omega, hL3⟩
        case measure => simp [intOf]; omega
      · rw [if_neg hs] at hF
        clear hE
        generalize hy : s.state = y at *
        have HY := Lib.hid hy
        clear hy
        go_wp2_with (first
          | (go_at_call 29; refine C1.mono ?_; rintro e w2 ⟨rfl, rfl⟩)
          | (go_at_call 37; refine C2.mono ?_; rintro e w3 ⟨rfl, L3⟩; have hL3 := Base.next hL L3; obtain ⟨_, _, _, _, _, _, _, e7⟩ := hX _ hL3; have hc := hc0 _ hL3; rw [HY.out] at e7; clear HY))
        all_goals go_roundw
        case rel => exact ⟨k + 1, n, by omega, by omega, by go_num, rfl, hn0, by rw [HF.out]; omega, hL3⟩
        case measure => simp [intOf]; omega
    · obtain rfl : k = g.l.length := by omega
      rw [List.drop_eq_nil_of_le (Nat.le_refl _)] at hF
      obtain rfl : n = F := by have : fly [] = 0 := rfl; omega
      go_wp2_with (go_at_call 29; refine C1.mono ?_; rintro e w2 ⟨rfl, rfl⟩)
      go_ret
      exact ⟨rfl, hL⟩
end Go.Proofs.Ytoncominjgkjoaa.Led
