/-
  What is lost was flying, below the greatest one, and all of it that is far enough below is lost. No conditions.
-/
import Derived.Test.YtoncominjgkjoaaDeeds
import Derived.Test.YtoncominjgkjoaaRows
import Derived.Test.YtoncominjgkjoaaRow
import Derived.WalkKit
import Derived.ProofKit
import Derived.OpenShut
import Derived.ShutString
import Derived.ChangeOld
import Derived.Below
import Derived.Test.YtoncominjgkjoaaLossAlive
import Derived.Test.YtoncominjgkjoaaLossMore
namespace Go.Proofs.Ytoncominjgkjoaa.lossFlies
open Go.ChangeShapes Go.WideShapes Go.ChangeAt Go.RowKit
open Go.ChangeMaps (open_string shut_string)
open Go.Proofs.Ytoncominjgkjoaa.Base
set_option linter.unusedVariables false
set_option linter.unusedSimpArgs false

theorem own : ownKnob Try.prog.godebug = none := by kernel_rfl
theorem laidOut : laidOutB Try.prog = true := by kernel_rfl

open Go.Proofs.Ytoncominjgkjoaa.Led Go.Proofs.Ytoncominjgkjoaa.LedPlain Go.Proofs.Ytoncominjgkjoaa.Loss Go.Proofs.Ytoncominjgkjoaa.LossPlain
set_option maxHeartbeats 4000000 in
set_option maxRecDepth 20000 in
theorem walk (a0 : Int) (a1 : Option Addr) (len1 cap1 : Nat) (z1 : List Dd) (a2 : Int) (a3 : Int) (a4 : Int) (w : World) (w0 : (Lit.int .u8 a0).wf = true) (w1 : Deeds w a1 z1) (n1 : z1.length = len1) (m1 : len1 ≤ cap1) (o1 : cap1 ≤ maxLen) (f1 : ∀ d ∈ z1, Fit d) (w2 : (Lit.int .u8 a2).wf = true) (w3 : (Lit.int .u16 a3).wf = true) (w4 : (Lit.int .u16 a4).wf = true) :
    Calls Try.prog 6 #[.int .u8 a0, .slice a1 len1 cap1, .int .u8 a2, .int .u16 a3, .int .u16 a4] w fun e w' => e = .returned (.bool true) ∧ Below w.heap.size w w' := by
  obtain ⟨n0', n1'⟩ := Base.u8_of w2
  obtain ⟨t0, t1⟩ := Base.u16_of w3
  obtain ⟨v0, v1⟩ := Base.u16_of w4
  obtain ⟨p0, p1⟩ := Base.u8_of w0
  subst n1
  have CM := make_any (a0 % 40) 4611686018427387903 (by omega) (by omega) (by decide) (by decide) a1 z1.length cap1 z1 w rfl m1 o1 f1 w1
  have hml := made_len (a0 % 40) 4611686018427387903 z1
  have hme := made_early (a0 % 40) 4611686018427387903 z1
  generalize madeG (a0 % 40) 4611686018427387903 z1 = g at *
  have CA := fun U => alive_loss U
  go_enter Try.func6, Try.ntmps6
  go_upto_region 2 with (go_at_call 7; refine CM.mono ?_; rintro e u1 ⟨a, b, S, rfl, P1, hS, L1⟩)
  refine at_any ?_
  intro W hW
  obtain ⟨T1, hM, hP⟩ : Blk W u1.heap.size #[.pointer (some a), .pointer (some ⟨b, 0, none⟩)] 27 ∧ Below w.heap.size w W ∧ Pair S W a b g := by
    subst hW
    exact ⟨Blk.new _ _ _, L1.alloc L1.size _, P1.below ((Below.refl u1.heap.size u1).alloc (Nat.le_refl _) _)⟩
  clear hW CM P1 L1
  generalize u1.heap.size = tb at *
  clear u1
  go_upto_region 4 with (go_at_call 8; refine (CA W).mono ?_; rintro e U ⟨rfl, L1⟩)
  have T2 := T1.below L1 T1.lt
  have M2 := Base.next hM L1
  have P2 := hP.below L1
  have hts := ts_all P2.ok hme
  have hal : (allS g).length ≤ 80 := by
    unfold allS
    rw [List.length_drop]
    omega
  clear T1 hM L1 hP CA hme
  have c0 : U.cell? ⟨tb, 0, none⟩ = some (.pointer (some a)) := T2.cell 0
  have c1 : U.cell? ⟨tb, 1, none⟩ = some (.pointer (some ⟨b, 0, none⟩)) := T2.cell 1
  have hlt := T2.lt
  have hok := P2.ok
  have hnl : (g.l.length : Int) ≤ 4611686018427387904 := by have := hok.n1; have := hok.l1; omega
  have hmem := fun x (hx : x ∈ lostL a2 a3 a4 (allS g)) => lost_mem hok hx
  have hin := fun i (hi : i < (allS g).length) => lost_in (n := a2) (now := a3) (win := a4) hi
  have hwd := fun k (hk : k < (allS g).length) => words_at hok hk
  have hxs := lost_le a2 a3 a4 (allS g)
  have C1 := find_any P2.led (by omega) a2 a3 a4 (by omega) (by omega) (by omega) (by omega) (by omega) (by omega)
  generalize lostL a2 a3 a4 (allS g) = xs at *
  generalize nextT a2 a3 a4 (allS g) = tt at *
  go_upto_region 6 with (first
    | (go_at_call 10; refine C1.mono ?_; rintro e y1 ⟨p1, q1, rfl, l1, r1, _, R1, L1⟩))
  have T3 := T2.below L1 T2.lt
  have M3 := Base.next M2 L1
  have P3 := P2.below L1
  have Ra : Ints .u64 y1 p1 xs := R1.row
  clear T2 M2 P2 C1 c0 c1 hlt R1 L1
  generalize hla : xs.length = la at *
  go_wp2
  go_loopw [17, 18, 19, 54] (fun _ _ _ i wr => ∃ k : Nat, k ≤ la ∧ i = .int .i64 k ∧ Below y1.heap.size y1 wr) (fun _ _ _ i _ => la - (intOf i).toNat)
  case atStart => exact ⟨0, Nat.zero_le _, rfl, Below.refl _ _⟩
  case round =>
    obtain ⟨k, hk, rfl, hL⟩ := hrel
    have T4 := T3.below hL T3.lt
    have P4 := P3.below hL
    have R4 := Ra.below hL
    have c0 : wr.cell? ⟨tb, 0, none⟩ = some (.pointer (some a)) := T4.cell 0
    have c1 : wr.cell? ⟨tb, 1, none⟩ = some (.pointer (some ⟨b, 0, none⟩)) := T4.cell 1
    have htb := T4.lt
    by_cases hlt : k < la
    · have hkI : (k : Int) < (la : Int) := by omega
      obtain ⟨ba, oa, rfl, hba, hca⟩ := R4.at_ (show k < xs.length by omega)
      have hx := hmem (xs.getD k 0) (by rw [show xs.getD k 0 = xs[k]'(by omega) by simp [List.getD, show k < xs.length by omega]]; exact List.getElem_mem (by omega))
      generalize xs.getD k 0 = x at *
      obtain ⟨i, rfl, hi1, hi2, hlb, hpn⟩ := hx
      have CG := get_any P4.led (i : Int) (by omega) (by omega)
      have hkept : keptN g (i : Int) := ⟨by omega, by omega⟩
      rw [show getS g (i : Int) = atN g i by unfold getS; rw [if_pos hkept, Int.toNat_natCast], show hasN g (i : Int) = true from decide_eq_true hkept] at CG
      have hw := (hok.each i hi2).2.1
      generalize atN g i = s at *
      obtain ⟨s0, s1, s2, s3, s4, s5, s6, s7⟩ := s
      simp only at CG hpn
      subst hpn
      have h4 : 0 ≤ s4 ∧ s4 ≤ 18446744073709551615 := ⟨hw.2.2.2.2.2.2.2.2.1, hw.2.2.2.2.2.2.2.2.2.1⟩
      have CS := fun V => Sat.ref_sub a3 s4 (by omega) (by omega) h4.1 h4.2 V
      unfold lostB seenB goneB at hlb
      simp only [Bool.and_eq_true, Bool.or_eq_true, decide_eq_true_eq] at hlb
      obtain ⟨⟨rfl, hs2⟩, hg⟩ := hlb
      clear hw h4 hkept hmem hin hwd
      go_upto_region 10 with (go_at_call 14; refine CG.mono ?_; rintro e z ⟨rfl, LG⟩)
      refine at_any ?_
      intro Z hZ
      obtain ⟨hB, hLZ⟩ : Blk Z z.heap.size #[.int .u64 i, .int .u64 s1, .int .u64 s2, .int .u64 s3, .int .u64 s4, .bool s5, .bool s6, .int .i64 1] 42 ∧ Below y1.heap.size y1 Z := by
        subst hZ
        exact ⟨Blk.new _ _ _, (Base.next hL LG).alloc (Base.next hL LG).size _⟩
      clear hZ CG LG
      generalize z.heap.size = sb at *
      clear z
      have d4 : Z.cell? ⟨sb, 4, none⟩ = some (.int .u64 s4) := hB.cell 4
      have d7 : Z.cell? ⟨sb, 7, none⟩ = some (.int .i64 1) := hB.cell 7
      have hsb := hB.lt
      by_cases hd : (a2 - (i : Int)) < 3
      · have hg2 : ¬ Sat.sub a3 s4 < a4 := by omega
        generalize Sat.sub a3 s4 = dd at *
        go_wp2_with (go_at_call 15; refine (CS _).mono ?_; rintro e w7 ⟨rfl, rfl⟩)
        all_goals go_roundw
        case rel => exact ⟨k + 1, by omega, by go_num, hLZ⟩
        case measure => simp [intOf]; omega
      · go_wp2
        all_goals go_roundw
        case rel => exact ⟨k + 1, by omega, by go_num, hLZ⟩
        case measure => simp [intOf]; omega
    · obtain rfl : k = la := by omega
      have M4 := Base.next M3 hL
      clear hmem M3 Ra P3 T3 hL
      have CW := ref_all P4.rf (by omega)
      generalize hl0 : allS g = l at *
      generalize hn0 : l.length = nl at *
      go_wp2_with (go_at_call 16; refine CW.mono ?_; rintro e u3 ⟨v3, rfl, hOw, L3⟩; obtain ⟨p3, cap3, rfl, hc1, hc2, hz3, hnl3, hb3⟩ := hOw.read; clear hOw hnl3 hb3)
      have M5 := Base.next M4 L3
      have R5 := R4.below L3
      clear CW M4 L3 R4 P4 T4 c0 c1
      go_loopw [21, 22, 24, 98] (fun _ _ _ i wr => ∃ j : Nat, j ≤ nl ∧ i = .int .i64 j ∧ Below u3.heap.size u3 wr) (fun _ _ _ i _ => nl - (intOf i).toNat)
      case atStart => exact ⟨0, Nat.zero_le _, rfl, Below.refl _ _⟩
      case round =>
        obtain ⟨j, hj, rfl, hL⟩ := hrel
        by_cases hlt : j < nl
        · have hjI : (j : Int) < (nl : Int) := by omega
          obtain ⟨b', off', rfl, hb', e0, e1, e2, e3, e4, e5, e6, e7⟩ := (hz3.below hL).at_ (show j < l.length by omega)
          obtain ⟨s', es, q0, q1, _, _⟩ := hwd j (by omega)
          have hin2 := hin j (by omega)
          rw [es] at e0 e1 e2 e3 e4 e5 e6 e7 hin2
          clear es hin hwd
          obtain ⟨s0, s1, s2, s3, s4, s5, s6, s7⟩ := s'
          simp only at e0 e1 e2 e3 e4 e5 e6 e7 q0 q1 hin2
          by_cases hc : s7 = 1 ∧ s0 + 3 ≤ a2
          · obtain ⟨rfl, hs3⟩ := hc
            have hmem := hin2 rfl hs3
            clear hin2
            go_upto_region 16 with fail
            refine at_any ?_
            intro Z hZ
            obtain ⟨hB, hLZ⟩ : Blk Z wr.heap.size #[.int .u64 s0, .int .u64 s1, .int .u64 s2, .int .u64 s3, .int .u64 s4, .bool s5, .bool s6, .int .i64 1] 42 ∧ Below u3.heap.size u3 Z := by
              subst hZ
              exact ⟨Blk.new _ _ _, hL.alloc hL.size _⟩
            clear hZ e0 e1 e2 e3 e4 e5 e6 e7 hb' hL
            generalize wr.heap.size = sb at *
            clear wr
            have d0 : Z.cell? ⟨sb, 0, none⟩ = some (.int .u64 s0) := hB.cell 0
            have d7 : Z.cell? ⟨sb, 7, none⟩ = some (.int .i64 1) := hB.cell 7
            have hsb := hB.lt
            have R6 := R5.below hLZ
            go_wp2
            go_loopw [22, 24, 114] (fun v _ i wq => ∃ (t : Nat) (bv : Bool), t ≤ k ∧ i = .int .i64 t ∧ v = .bool bv ∧ (s0 ∈ xs.take t → bv = true) ∧ wq = Z) (fun _ _ i _ => k - (intOf i).toNat)
            case atStart => exact ⟨0, false, Nat.zero_le _, rfl, rfl, fun h => by simp at h, rfl⟩
            case round =>
              obtain ⟨t, bv, ht, rfl, rfl, hbv, rfl⟩ := hrel
              by_cases hlt2 : t < k
              · have htI : (t : Int) < (k : Int) := by omega
                obtain ⟨bx, ox, rfl, hbx, hcx⟩ := R6.at_ (show t < xs.length by omega)
                have hst : xs.take (t + 1) = xs.take t ++ [xs.getD t 0] := by
                  rw [List.take_add_one, show xs[t]? = some (xs.getD t 0) by simp [List.getD, show t < xs.length by omega]]
                  rfl
                generalize xs.getD t 0 = x at *
                cases bv with
                | true =>
                  clear hbv hst
                  go_wp2
                  all_goals go_roundw
                  case rel => exact ⟨t + 1, true, by omega, by go_num, rfl, fun _ => rfl, trivial⟩
                  case measure => simp [intOf]; omega
                | false =>
                  have hnb : ¬ s0 ∈ xs.take t := fun h => by cases hbv h
                  clear hbv
                  by_cases hx0 : x = s0
                  · subst hx0
                    clear hst
                    go_wp2
                    all_goals go_roundw
                    case rel => exact ⟨t + 1, true, by omega, by go_num, by simp, fun _ => rfl, trivial⟩
                    case measure => simp [intOf]; omega
                  · have hb0 : (x == s0) = false := by simpa using hx0
                    have hnb2 : ¬ s0 ∈ xs.take (t + 1) := by
                      rw [hst]
                      intro h
                      rcases List.mem_append.1 h with h | h
                      · exact hnb h
                      · exact hx0 (List.mem_singleton.1 h).symm
                    clear hst
                    go_wp2
                    all_goals go_roundw
                    case rel => exact ⟨t + 1, false, by omega, by go_num, by simp [hx0], fun h => absurd h hnb2, trivial⟩
                    case measure => simp [intOf]; omega
              · obtain rfl : t = k := by omega
                rw [List.take_of_length_le (by omega)] at hbv
                obtain rfl : bv = true := hbv hmem
                clear hbv
                go_wp2
                all_goals go_roundw
                case rel => exact ⟨j + 1, by omega, by go_num, hLZ⟩
                case measure => simp [intOf]; omega
          · have hL2 := hL.alloc hL.size (.cells #[.int .u64 s0, .int .u64 s1, .int .u64 s2, .int .u64 s3, .int .u64 s4, .bool s5, .bool s6, .int .i64 s7] 42)
            by_cases hs7 : s7 = 1
            · have hs3 : ¬ s0 + 3 ≤ a2 := fun h => hc ⟨hs7, h⟩
              subst hs7
              clear hc hin2
              go_wp2
              all_goals go_roundw
              case rel => exact ⟨j + 1, by omega, by go_num, hL2⟩
              case measure => simp [intOf]; omega
            · clear hc hin2
              go_wp2
              all_goals go_roundw
              case rel => exact ⟨j + 1, by omega, by go_num, hL2⟩
              case measure => simp [intOf]; omega
        · obtain rfl : j = nl := by omega
          go_wp2
          all_goals go_ret
          all_goals exact ⟨rfl, Base.next M5 hL⟩

set_option maxRecDepth 100000 in
theorem lifted (os : Os) (started : os.Started) (H : Type) (enc : TypeId × Value → H) :
    ReturnsInHanded {} Try.checked os 6 .any (Rows.lossFliesSpec.pre6 enc Try.prog Try.f6 Rows.lossFliesRow.domain false) (Rows.lossFliesSpec.post enc Try.prog Try.f6 false true false false) := by
  refine returnsInHanded_of_change (C := Try.checked) own started (by kernel_rfl) Try.func6
    (ChangeSpec.witness6 (enc := enc) (C := Try.checked) false ⟨#[], #[.int .u8 0, .slice none 0 0, .int .u8 0, .int .u16 0, .int .u16 0], []⟩ 8 (by kernel_rfl) (by kernel_rfl) (by kernel_rfl) (by kernel_rfl)) ?_
  intro W base args ds gs before hval0 hW hcnd _
  have hval : ∀ (j : Nat) t v, Try.f6.params[j]? = some t → args[j]? = some v → Value.okWide Try.prog W .any base t v := hval0
  have hW' := hW
  obtain ⟨p, q, hA0, hV, rfl, hfz, hnd⟩ := hW
  have hA : DataW.TrodAll enc Try.prog W 0 (fun _ => true) true Try.f6.params.toList args.toList ds p := hA0
  rw [Try.params6] at hA hval
  obtain ⟨v0, vs0, d0, ds0, p0, q0, hargs, rfl, rfl, h0, r0⟩ := trodAll_cons hA
  obtain ⟨v1, vs1, d1, ds1, p1, q1, rfl, rfl, rfl, h1, r1⟩ := trodAll_cons r0
  obtain ⟨v2, vs2, d2, ds2, p2, q2, rfl, rfl, rfl, h2, r2⟩ := trodAll_cons r1
  obtain ⟨v3, vs3, d3, ds3, p3, q3, rfl, rfl, rfl, h3, r3⟩ := trodAll_cons r2
  obtain ⟨v4, vs4, d4, ds4, p4, q4, rfl, rfl, rfl, h4, r4⟩ := trodAll_cons r3
  obtain ⟨rfl, rfl, rfl⟩ := trodAll_nil r4
  obtain rfl : args = #[v0, v1, v2, v3, v4] := by cases args; simp_all
  obtain ⟨rfl, rfl⟩ := trodVars_none hV
  obtain ⟨a0, rfl, rfl, rfl, w0⟩ := open_int Try.underlying5 (hval 0 5 v0 rfl rfl) h0
  obtain ⟨a1, len1, cap1, rfl⟩ := okWide_slice Try.underlying22 (hval 1 22 v1 rfl rfl)
  have k1 := h1
  have lt1 : ∀ x ∈ p1, x.block < W.heap.size := by obtain ⟨m, hm⟩ := k1; exact DataW.trod_lt m _ _ _ hm
  obtain ⟨z1, w1, n1, m1, o1, f1⟩ : ∃ zs, Deeds W a1 zs ∧ zs.length = len1 ∧ len1 ≤ cap1 ∧ cap1 ≤ maxLen ∧ (∀ d ∈ zs, Fit d) := by
    obtain ⟨fuel, hf⟩ := h1
    rcases open_deeds Try.underlying22 Try.underlying52 (by kernel_rfl) (by kernel_rfl) Try.underlying3 Try.underlying23 Try.underlying23 hf with ⟨hcs, hx⟩ | ⟨x, l, c, zs, E, S, hcs, hl, hm, hz, hx, hE, hS, hsp, hwz⟩
    · simp [Value.cells] at hcs
      obtain ⟨rfl, rfl, rfl⟩ := hcs
      exact ⟨[], Deeds.nil _ _, rfl, Nat.le_refl _, Nat.zero_le _, fun _ h => by cases h⟩
    · simp [Value.cells] at hcs
      obtain ⟨rfl, rfl, rfl⟩ := hcs
      exact ⟨zs, hsp, hz, hl, hm, hwz⟩
  obtain ⟨a2, rfl, rfl, rfl, w2⟩ := open_int Try.underlying5 (hval 2 5 v2 rfl rfl) h2
  obtain ⟨a3, rfl, rfl, rfl, w3⟩ := open_int Try.underlying38 (hval 3 38 v3 rfl rfl) h3
  obtain ⟨a4, rfl, rfl, rfl, w4⟩ := open_int Try.underlying38 (hval 4 38 v4 rfl rfl) h4
  clear hA0 hval0
  refine (walk a0 a1 len1 cap1 z1 a2 a3 a4 W w0 w1 n1 m1 o1 f1 w2 w3 w4).mono fun e W' ⟨he, bel⟩ => ?_
  subst he
  exact ⟨_, rfl, _, _, _, [], _, [], hW', trodAll_mk1 (shut_bool Try.underlying4 _), (trodAll_cons_mk (shut_int Try.underlying5 w0) (trodAll_cons_mk (Below.trod laidOut (by kernel_rfl) (of_decide_eq_true (by kernel_rfl)) k1 bel lt1) (trodAll_cons_mk (shut_int Try.underlying5 w2) (trodAll_cons_mk (shut_int Try.underlying38 w3) (trodAll_cons_mk (shut_int Try.underlying38 w4) trodAll_mk0))))), rfl, bel.frame _, fun h => by cases h⟩

theorem over : Rows.lossFliesRow.holds Try.pinned (OpenSpec.ofChange Rows.lossFliesSpec) :=
  OpenClaim.holds_of_wide 6 Try.f6 rfl rfl rfl rfl rfl rfl rfl ⟨rfl, rfl, rfl, rfl, rfl⟩ rfl rfl rfl rfl rfl (by kernel_rfl) Try.func6 (by kernel_rfl)
    (of_decide_eq_true (by kernel_rfl)) (by unfold Func.isWrapper; first | (rw [if_pos (by decide +kernel)]; kernel_rfl) | (rw [if_neg (by decide +kernel)]; exact ⟨rfl, rfl⟩))
    (fun os started H enc _ => lifted os started H enc)

/-- The given statement. -/
theorem proved : Rows.LossFliesSaid :=
  over
#print axioms proved
end Go.Proofs.Ytoncominjgkjoaa.lossFlies
