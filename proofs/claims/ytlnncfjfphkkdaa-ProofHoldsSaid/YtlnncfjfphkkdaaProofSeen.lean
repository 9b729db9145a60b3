/-
  The rows of what is there (seen), by contract.
-/
import Derived.Test.YtlnncfjfphkkdaaLedRef3
import Derived.Test.YtlnncfjfphkkdaaM7
import Derived.Test.YtlnncfjfphkkdaaSpanRef4
import Derived.Test.YtlnncfjfphkkdaaProofRef
set_option linter.unusedSimpArgs false
set_option linter.unusedVariables false
namespace Go.Proofs.Ytlnncfjfphkkdaa.Led
set_option linter.unusedVariables false
set_option maxRecDepth 20000
open Go.ChangeShapes Go.WideShapes Go.ChangeAt Go.RowKit
open Go.Proofs.Ytlnncfjfphkkdaa.Base Go.Proofs.Ytlnncfjfphkkdaa.LedPlain Go.Proofs.Ytlnncfjfphkkdaa.SpanPlain Go.Proofs.Ytlnncfjfphkkdaa.SpanRef

set_option maxHeartbeats 4000000 in
theorem seen_any {S : Nat → Prop} {w : World} {a : Addr} {b : Nat} {g : Lg} (h : Rf S w b g) (hn : g.l.length ≤ 1000) (lo N0 : Int) (n0 : 0 ≤ N0) (n1 : N0 ≤ 1000) :
    Calls Try.prog 16 #[.agg #[.pointer (some a), .pointer (some ⟨b, 0, none⟩)], .int .u64 lo, .int .i64 N0] w fun e w' => ∃ v1 v2, e = .returned (.tuple #[v1, v2]) ∧ Own w.heap.size w' v1 (seenG g lo N0).1 ∧ Own w.heap.size w' v2 (seenG g lo N0).2 ∧ (seenG g lo N0).1.length ≤ 1000 ∧ (seenG g lo N0).2.length ≤ 1000 ∧ Below w.heap.size w w' := by
  have hok := h.ok
  have hR0 : seenT lo (allS g) N0 [] [] = seenG g lo N0 := rfl
  generalize seenG g lo N0 = res at *
  obtain ⟨r0, r1⟩ := res
  have HR := Lib.hid hR0
  clear hR0
  go_enter Try.func16, Try.ntmps16
  go_upto_region 1 with fail
  refine some_world ?_
  intro V hV
  obtain ⟨hT, hL⟩ : Blk V w.heap.size #[.pointer (some a), .pointer (some ⟨b, 0, none⟩)] 27 ∧ Below w.heap.size w V := by
    subst hV
    exact ⟨Blk.new _ _ _, (Below.refl _ _).alloc (Nat.le_refl _) _⟩
  clear hV
  have y1 : V.cell? ⟨w.heap.size, 1, none⟩ = some (.pointer (some ⟨b, 0, none⟩)) := hT.cell 1
  have CL := ref_all (h.below hL) (by omega)
  go_wp2_with (go_at_call 23; (with_reducible refine CL.mono ?_); rintro e u1 ⟨v8, rfl, O8, L8⟩; obtain ⟨p8, cap8, rfl, hc8, hm8, hz, _, _⟩ := O8.read; unfold maxLen at hm8; have M1 := Base.next hL L8)
  have hkl : (allS g).length + lowN g = g.l.length := by unfold allS; have := low_le g; rw [List.length_drop]; omega
  have hpn : ∀ k, k < (allS g).length → 0 ≤ ((allS g).getD k Z8).pn ∧ ((allS g).getD k Z8).pn ≤ 4611686018427387903 := fun k hk => all_pn hok (by
    rw [List.getD_eq_getElem?_getD, List.getElem?_eq_getElem hk, Option.getD_some]
    exact List.getElem_mem _)
  clear O8 CL y1 hT hL L8 h
  have hwu := M1.size
  go_loopw [2, 8, 9, 11, 12, 17] (fun n v1 v2 _ _ i wr => ∃ (k : Nat) (N : Int) (x y : Value) (l m : List Sp), k ≤ (allS g).length ∧ n = .int .i64 N ∧ 0 ≤ N ∧ N ≤ 1000 ∧ v1 = x ∧ v2 = y ∧ i = .int .i64 k ∧ seenT lo ((allS g).drop k) N l m = (r0, r1) ∧ Own w.heap.size wr x l ∧ Own w.heap.size wr y m ∧ good l = true ∧ good m = true ∧ l.length ≤ k ∧ m.length ≤ k ∧ Below u1.heap.size u1 wr) (fun _ _ _ _ _ i _ => (allS g).length - (intOf i).toNat)
  case atStart => exact ⟨0, N0, _, _, [], [], Nat.zero_le _, rfl, n0, n1, rfl, rfl, rfl, HR.out, Own.nil _ _, Own.nil _ _, rfl, rfl, Nat.le_refl _, Nat.le_refl _, Below.refl _ _⟩
  case round =>
    obtain ⟨k, N, x, y, l, m, hk, rfl, N0', N1', rfl, rfl, rfl, hF, O1, O2, hgl, hgm, hll, hlm, hL⟩ := hrel
    have hM := Base.next M1 hL
    by_cases hlt : k < (allS g).length
    · rw [seenT_step hlt] at hF
      obtain ⟨p0, p1⟩ := hpn k hlt
      obtain ⟨b2, off2, rfl, hb2, e0, e1, e2, e3, e4, e5, e6, e7⟩ := (hz.below hL).at_ hlt
      have hkI : (k : Int) < ((allS g).length : Int) := by omega
      generalize (allS g).getD k Z8 = s at *
      obtain ⟨s0, s1, s2, s3', s4, s5, s6', s7⟩ := s
      simp only at e0 e1 e2 e3 e4 e5 e6 e7 hF p0 p1
      have hA := (Below.refl wr.heap.size wr).alloc (Nat.le_refl _) (.cells #[.int .u64 s0, .int .u64 s1, .int .u64 s2, .int .u64 s3', .int .u64 s4, .bool s5, .bool s6', .int .i64 s7] 59)
      have hA2 := hL.alloc hL.size (.cells #[.int .u64 s0, .int .u64 s1, .int .u64 s2, .int .u64 s3', .int .u64 s4, .bool s5, .bool s6', .int .i64 s7] 59)
      clear hpn
      by_cases t1 : s7 = 4
      · rw [if_pos (.inl t1)] at hF
        subst t1
        go_wp2
        all_goals go_roundw
        case rel => exact ⟨k + 1, N, _, _, l, m, by omega, rfl, by omega, by omega, rfl, rfl, by go_num, hF, O1.below hA, O2.below hA, hgl, hgm, by omega, by omega, hA2⟩
        case measure => simp [intOf]; omega
      · by_cases t2 : s0 < lo
        · rw [if_pos (.inr (.inl t2))] at hF
          skip
          go_wp2
          all_goals go_roundw
          case rel => exact ⟨k + 1, N, _, _, l, m, by omega, rfl, by omega, by omega, rfl, rfl, by go_num, hF, O1.below hA, O2.below hA, hgl, hgm, by omega, by omega, hA2⟩
          case measure => simp [intOf]; omega
        · by_cases t3 : N < 1
          · rw [if_pos (.inr (.inr t3))] at hF
            skip
            go_wp2
            all_goals go_roundw
            case rel => exact ⟨k + 1, N, _, _, l, m, by omega, rfl, by omega, by omega, rfl, rfl, by go_num, hF, O1.below hA, O2.below hA, hgl, hgm, by omega, by omega, hA2⟩
            case measure => simp [intOf]; omega
          · rw [if_neg (by omega)] at hF
            obtain ⟨q1, c1, rfl, hq1, hc1, hn1, R1⟩ := O1.read
            obtain ⟨q2, c2, rfl, hq2, hc2, hn2, R2⟩ := O2.read
            have D := Blk.new wr #[.int .u64 s0, .int .u64 s1, .int .u64 s2, .int .u64 s3', .int .u64 s4, .bool s5, .bool s6', .int .i64 s7] 59
            have hG := has_add hgl p0 p1
            have hGm := has_add hgm p0 p1
            have hlen := add_len l (s0, s0)
            have hlenm := add_len m (s0, s0)
            have C1 := ref_add q1 l.length c1 l (s0, s0) (wr.alloc (.cells #[.int .u64 s0, .int .u64 s1, .int .u64 s2, .int .u64 s3', .int .u64 s4, .bool s5, .bool s6', .int .i64 s7] 59)) rfl hq1 (by omega) hn1 hgl p0 (Int.le_refl _) p1 (Row.below R1.row hA)
            generalize hAl : addS l (s0, s0) = al at *
            simp only at C1
            go_upto_region 7 with (go_at_call 54; (with_reducible refine C1.mono ?_); rintro e u2 ⟨v2, rfl, O3, L2⟩)
            have hA3 := Base.next hA L2
            have hA4 := Base.next hA2 L2
            have hM4 := Base.next M1 hA4
            have d0 : u2.cell? ⟨wr.heap.size, 0, none⟩ = some (.int .u64 s0) := (D.below L2 D.lt).cell 0
            replace O3 : Own w.heap.size u2 v2 al := O3.mono (Nat.le_trans hM.size hA.size)
            obtain ⟨q3, c3, rfl, hq3, hc3, _, _⟩ := O3.read
            have O1' := O1.below hA3
            have O2' := O2.below hA3
            clear C1 D e0 e1 e2 e3 e4 e5 e6 e7
            by_cases h32 : (al.length : Int) ≤ 32
            · rw [if_pos h32] at hF
              by_cases h3 : s0 % 3 = 0
              · rw [if_pos h3] at hF
                have C2 := ref_add q2 m.length c2 m (s0, s0) u2 rfl hq2 (by omega) hn2 hgm p0 (Int.le_refl _) p1 (Row.below R2.row hA3)
                simp only at C2
                go_wp2_with (go_at_call 54; (with_reducible refine C2.mono ?_); rintro e u3 ⟨v3, rfl, O4, L3⟩; have hA5 := Base.next hA4 L3; have O5 := O3.below L3; replace O4 := O4.mono (base' := w.heap.size) (hM4.size))
                all_goals go_roundw
                case rel => exact ⟨k + 1, N - 1, _, _, al, _, by omega, rfl, by omega, by omega, rfl, rfl, by go_num, hF, O5, O4, hG.1, hGm.1, by omega, by omega, hA5⟩
                case measure => simp [intOf]; omega
              · rw [if_neg h3] at hF
                go_wp2
                all_goals go_roundw
                case rel => exact ⟨k + 1, N - 1, _, _, al, m, by omega, rfl, by omega, by omega, rfl, rfl, by go_num, hF, O3, O2', hG.1, hgm, by omega, by omega, hA4⟩
                case measure => simp [intOf]; omega
            · rw [if_neg h32] at hF
              go_wp2
              all_goals go_roundw
              case rel => exact ⟨k + 1, N, _, _, l, m, by omega, rfl, by omega, by omega, rfl, rfl, by go_num, hF, O1', O2', hgl, hgm, by omega, by omega, hA4⟩
              case measure => simp [intOf]; omega
    · obtain rfl : k = (allS g).length := by omega
      rw [List.drop_eq_nil_of_le (Nat.le_refl _)] at hF
      injection hF with f1 f2
      subst f1
      subst f2
      go_wp2
      go_ret2
      exact ⟨_, _, rfl, O1, O2, by omega, by omega, hM⟩
end Go.Proofs.Ytlnncfjfphkkdaa.Led
