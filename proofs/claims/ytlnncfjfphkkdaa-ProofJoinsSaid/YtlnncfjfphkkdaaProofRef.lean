/-
  Contracts of the reference's Sum and CheckAck.
-/
import Derived.Test.YtlnncfjfphkkdaaTrigRef
import Derived.Test.YtlnncfjfphkkdaaM7
import Derived.Test.YtlnncfjfphkkdaaSpanRef
set_option linter.unusedSimpArgs false
set_option linter.unusedVariables false
namespace Go.Proofs.Ytlnncfjfphkkdaa.Led
set_option linter.unusedVariables false
set_option maxRecDepth 20000
open Go.ChangeShapes Go.WideShapes Go.ChangeAt Go.RowKit
open Go.Proofs.Ytlnncfjfphkkdaa.Base Go.Proofs.Ytlnncfjfphkkdaa.LedPlain Go.Proofs.Ytlnncfjfphkkdaa.SpanPlain Go.Proofs.Ytlnncfjfphkkdaa.SpanRef
open Go.Proofs.Ytlnncfjfphkkdaa.AckPlain (K)

theorem some_world {P : Program} {c : Code} {Q : Exit → Act → World → Prop} {a : Act} {w : World} (h : ∀ W, W = w → c.wp P Q a W) : c.wp P Q a w := h w rfl
set_option maxHeartbeats 4000000 in
theorem ref_sum {S : Nat → Prop} {w : World} {b : Nat} {g : Lg} (h : Rf S w b g) (p q : Option Addr) (n c m d : Nat) (cl mk : List Sp) (hn : cl.length = n) (hm : mk.length = m) (hn' : n ≤ 140737488355328) (hm' : m ≤ 140737488355328) (hf : Fits cl) (hg : Fits mk) (hs : Spans w p cl) (ht : Spans w q mk) :
    Calls Try.prog 11 #[.pointer (some ⟨b, 0, none⟩), .slice p n c, .slice q m d] w fun e w' => e = .returned (.tuple #[.int .u64 (sumG g cl mk).1, .bool (sumG g cl mk).2.1, .bool (sumG g cl mk).2.2]) ∧ Below w.heap.size w w' := by
  have hlow := low_le g
  have hnl : (g.l.length : Int) ≤ 4611686018427387904 := by have := h.ok.n1; have := h.ok.l1; omega
  have G1 := fun V (hV : Below w.heap.size w V) => ref_good p n c cl V hn hn' hf (Row.below hs hV)
  have G2 := fun V (hV : Below w.heap.size w V) => ref_good q m d mk V hm hm' hg (Row.below ht hV)
  have CL := fun V (hV : Below w.heap.size w V) => ref_low (h.below hV)
  have CN := fun V (hV : Below w.heap.size w V) => ref_next (h.below hV)
  have CB := fun V (hV : Below w.heap.size w V) => ref_below p n c cl (lowN g) V hn hn' (Row.below hs hV)
  have hr := Below.refl w.heap.size w
  cases hgc : good cl with
  | false =>
    have hv : sumG g cl mk = (0, false, false) := by unfold sumG; rw [if_pos hgc]
    rw [hv]
    rw [hgc] at G1
    go_enter Try.func11, Try.ntmps11
    go_wp2_with (go_at_call 40; (with_reducible refine (G1 _ hr).mono ?_); rintro e u1 ⟨rfl, L1⟩)
    go_ret3
    exact ⟨rfl, L1⟩
  | true =>
    rw [hgc] at G1
    have A1 := fun V (hV : Below w.heap.size w V) => G1 V hV
    cases hgm : good mk with
    | false =>
      have hv : sumG g cl mk = (0, false, false) := by unfold sumG; rw [if_neg (by rw [hgc]; decide), if_pos hgm]
      rw [hv]
      rw [hgm] at G2
      go_enter Try.func11, Try.ntmps11
      go_wp2_with (first
          | (go_at_call 40; (with_reducible refine (G1 _ hr).mono ?_); rintro e u1 ⟨rfl, L1⟩; clear G1)
          | (go_at_call 40; (with_reducible refine (G2 _ L1).mono ?_); rintro e u2 ⟨rfl, L2⟩; have M2 := Base.next L1 L2))
      go_ret3
      exact ⟨rfl, M2⟩
    | true =>
      rw [hgm] at G2
      generalize hlw : (lowN g : Int) = low at CL CB
      cases hbl : belowB cl low with
      | true =>
        have hv : sumG g cl mk = (0, false, false) := by unfold sumG; rw [if_neg (by rw [hgc]; decide), if_neg (by rw [hgm]; decide), hlw, if_pos hbl]
        rw [hv]
        rw [hbl] at CB
        go_enter Try.func11, Try.ntmps11
        go_wp2_with (first
          | (go_at_call 40; (with_reducible refine (G1 _ hr).mono ?_); rintro e u1 ⟨rfl, L1⟩; clear G1)
          | (go_at_call 40; (with_reducible refine (G2 _ L1).mono ?_); rintro e u2 ⟨rfl, L2⟩; have M2 := Base.next L1 L2)
          | (go_at_call 17; (with_reducible refine (CL _ M2).mono ?_); rintro e u3 ⟨rfl, L3⟩; have M3 := Base.next M2 L3)
          | (go_at_call 41; (with_reducible refine (CB _ M3).mono ?_); rintro e u4 ⟨rfl, rfl⟩))
        go_ret3
        exact ⟨rfl, M3⟩
      | false =>
        rw [hbl] at CB
        have hv : sumG g cl mk = if aboveB cl g.l.length = true then (0, false, false) else sumT cl mk (g.l.drop (lowN g)) 0 false := by unfold sumG allS; rw [if_neg (by rw [hgc]; decide), if_neg (by rw [hgm]; decide), hlw, if_neg (by rw [hbl]; decide)]
        generalize hres : sumG g cl mk = res at *
        obtain ⟨r0, r1, r2⟩ := res
        replace hres := Lib.hid hres
        replace hv := Lib.hid hv
        have hlk := Lib.hid hlw
        have hge : cl = [] ∨ 0 < cl.length := by cases cl with | nil => exact .inl rfl | cons _ _ => exact .inr (by simp)
        go_enter Try.func11, Try.ntmps11
        go_upto_region 4 with (first
          | (go_at_call 40; (with_reducible refine (G1 _ hr).mono ?_); rintro e u1 ⟨rfl, L1⟩; clear G1)
          | (go_at_call 40; (with_reducible refine (G2 _ L1).mono ?_); rintro e u2 ⟨rfl, L2⟩; have M2 := Base.next L1 L2)
          | (go_at_call 17; (with_reducible refine (CL _ M2).mono ?_); rintro e u3 ⟨rfl, L3⟩; have M3 := Base.next M2 L3)
          | (go_at_call 41; (with_reducible refine (CB _ M3).mono ?_); rintro e u4 ⟨rfl, rfl⟩))
        have R3 := h.below M3
        have CN3 := fun v : In (Lt u3) => ref_next (R3.below v.h)
        rcases hge with hnil | hgt
        · have hz0 : (n : Int) = 0 := by rw [← hn, hnil]; rfl
          have hA : aboveB cl g.l.length = false := by unfold aboveB; rw [hnil]; rfl
          rw [hA] at hv
          have hF0 : sumT cl mk (g.l.drop (lowN g)) 0 false = (r0, r1, r2) := hv.out.symm
          clear hA hnil
          refine wp_region_in (Lt u3) (Lt.drew u3) (by kernel_rfl) (by kernel_rfl) ?_
          repeat (go_big_quiet_step ((go_at_call 42; exact in_same (CN3 _))))
          refine wpQuiet_nil ?_
          rintro u5 ⟨⟨_, hw5⟩, rfl⟩
          have hw5 : Below u3.heap.size u3 u5 := hw5
          have M5 := Base.next M3 hw5
          have CW := CL u5 M5
          clear CN3 R3 CN CB A1 G2 hv hw5 L1 L2 L3 M2 M3 hgc hgm hbl hf hg
          go_wp2_with ((go_at_call 17; refine CW.mono ?_; rintro e u6 ⟨rfl, L6⟩; have M6 := Base.next M5 L6))
          clear CW CL M5 L6
          have R6 := h.below M6
          have s6 : Spans u6 _ cl := Row.below hs M6
          have t6 : Spans u6 q mk := Row.below ht M6
          go_loopw [10, 11, 12, 13] (fun x o i _ wr => ∃ (k : Nat) (X : Int) (O : Bool), k ≤ g.l.length ∧ x = .int .u64 X ∧ o = .bool O ∧ i = .int .i64 k ∧ sumT cl mk (g.l.drop k) X O = (r0, r1, r2) ∧ Below u6.heap.size u6 wr) (fun _ _ i _ _ => g.l.length - (intOf i).toNat)
          case atStart => exact ⟨lowN g, 0, false, hlow, rfl, rfl, by rw [hlk.out], hF0, Below.refl _ _⟩
          case round =>
            obtain ⟨k, X, O, hk, rfl, rfl, rfl, hF, hL⟩ := hrel
            have hMr := Base.next M6 hL
            have hRr := R6.below hL
            obtain ⟨a, cap, c0, c1, c2, h1, h2, hz⟩ := hRr.read
            have hb := hRr.lt
            unfold maxLen at h2
            have sr : Spans wr _ cl := Row.below s6 hL
            have tr : Spans wr q mk := Row.below t6 hL
            by_cases hlt : k < g.l.length
            · rw [sumT_step hlt] at hF
              have hlI : (k : Int) < (g.l.length : Int) := by omega
              obtain ⟨b', off', rfl, hb', e0, e1, e2, e3, e4, e5, e6, e7⟩ := hz.at_ hlt
              generalize g.l.getD k Z8 = s at *
              have CH1 := fun V (hV : Below wr.heap.size wr V) => ref_has _ _ c cl s.pn V hn hn' (Row.below sr hV)
              have CH2 := fun V (hV : Below wr.heap.size wr V) => ref_has q m d mk s.pn V hm hm' (Row.below tr hV)
              obtain ⟨s0, s1, s2, s3', s4, s5, s6', s7⟩ := s
              simp only at e0 e1 e2 e3 e4 e5 e6 e7 CH1 CH2 hF
              clear c0 c1
              have hA := (Below.refl wr.heap.size wr).alloc (Nat.le_refl _) (.cells #[.int .u64 s0, .int .u64 s1, .int .u64 s2, .int .u64 s3', .int .u64 s4, .bool s5, .bool s6', .int .i64 s7] 59)
              cases hh : has cl s0 with
              | false =>
                rw [hh] at CH1
                rw [if_pos hh] at hF
                go_wp2_with ((go_at_call 22; (with_reducible refine (CH1 _ hA).mono ?_); rintro e u9 ⟨rfl, rfl⟩))
                all_goals go_roundw
                case rel => exact ⟨k + 1, X, O, by omega, rfl, rfl, by go_num, hF, hL.alloc hL.size _⟩
                case measure => simp [intOf]; omega
              | true =>
                rw [hh] at CH1
                rw [if_neg (by rw [hh]; decide)] at hF
                by_cases t1 : s7 = 4
                · rw [if_pos t1] at hF
                  subst t1
                  injection hF with f1 f2
                  injection f2 with f2 f3
                  subst f1
                  subst f2
                  subst f3
                  go_wp2_with ((go_at_call 22; (with_reducible refine (CH1 _ hA).mono ?_); rintro e u9 ⟨rfl, rfl⟩))
                  go_ret3
                  exact ⟨rfl, hMr.trans (hA.mono hMr.size)⟩
                · rw [if_neg t1] at hF
                  have hx : bits .xor .u64 X s3' = xr X s3' := rfl
                  cases s5 with
                  | false =>
                    rw [Bool.false_and, if_neg (by decide)] at hF
                    generalize xr X s3' = X' at *
                    go_wp2_with ((go_at_call 22; (with_reducible refine (CH1 _ hA).mono ?_); rintro e u9 ⟨rfl, rfl⟩))
                    all_goals go_roundw
                    case rel => exact ⟨k + 1, X', O, by omega, rfl, rfl, by go_num, hF, hL.alloc hL.size _⟩
                    case measure => simp [intOf]; omega
                  | true =>
                    cases hm2 : has mk s0 with
                    | true =>
                      rw [hm2] at CH2
                      rw [Bool.true_and, hm2, if_neg (by decide)] at hF
                      generalize xr X s3' = X' at *
                      go_wp2_with (first
                        | (go_at_call 22; (with_reducible refine (CH1 _ hA).mono ?_); rintro e u9 ⟨rfl, rfl⟩)
                        | (go_at_call 22; (with_reducible refine (CH2 _ hA).mono ?_); rintro e u9 ⟨rfl, rfl⟩))
                      all_goals go_roundw
                      case rel => exact ⟨k + 1, X', O, by omega, rfl, rfl, by go_num, hF, hL.alloc hL.size _⟩
                      case measure => simp [intOf]; omega
                    | false =>
                      rw [hm2] at CH2
                      simp only [Bool.true_and, hm2, Bool.not_false, if_true] at hF
                      generalize xr X s3' = X' at *
                      go_wp2_with (first
                        | (go_at_call 22; (with_reducible refine (CH1 _ hA).mono ?_); rintro e u9 ⟨rfl, rfl⟩)
                        | (go_at_call 22; (with_reducible refine (CH2 _ hA).mono ?_); rintro e u9 ⟨rfl, rfl⟩))
                      all_goals go_roundw
                      case rel => exact ⟨k + 1, X', !O, by omega, rfl, rfl, by go_num, hF, hL.alloc hL.size _⟩
                      case measure => simp [intOf]; omega
            · obtain rfl : k = g.l.length := by omega
              rw [List.drop_eq_nil_of_le (Nat.le_refl _)] at hF
              injection hF with f1 f2
              injection f2 with f2 f3
              subst f1
              subst f2
              subst f3
              go_wp2
              go_ret3
              exact ⟨rfl, hMr⟩
        · obtain ⟨k0, rfl⟩ : ∃ k, n = k + 1 := ⟨n - 1, by omega⟩
          have hlast : (cl.getD (cl.length - 1) (0, 0)) = cl.getD k0 (0, 0) := by rw [hn, Nat.add_sub_cancel]
          have s3 : Spans u3 p cl := Row.below hs M3
          obtain ⟨b', off', rfl, hb', c0, c1⟩ := s3.at_ (i := k0) (by omega)
          have hA : aboveB cl g.l.length = decide ((g.l.length : Int) ≤ (cl.getD k0 (0, 0)).2) := by unfold aboveB; rw [hlast, decide_eq_true hgt, Bool.true_and]
          rw [hA] at hv
          clear hlast hA c0 s3
          generalize (cl.getD k0 (0, 0)).2 = hi at *
          have e1 := fun v : In (Lt u3) => inCell v c1
          by_cases hab : (g.l.length : Int) ≤ hi
          · rw [decide_eq_true hab, if_pos rfl] at hv
            injection hv.out with hv1 hv2
            injection hv2 with hv2 hv3
            refine wp_region_in (Lt u3) (Lt.drew u3) (by kernel_rfl) (by kernel_rfl) ?_
            repeat (go_big_quiet_step ((go_at_call 42; exact in_same (CN3 _))))
            refine wpQuiet_nil ?_
            rintro u5 ⟨⟨_, hw5⟩, rfl⟩
            have hw5 : Below u3.heap.size u3 u5 := hw5
            have M5 := Base.next M3 hw5
            subst hv1
            subst hv2
            subst hv3
            go_wp2
            go_ret3
            exact ⟨rfl, M5⟩
          · have hF0 : sumT cl mk (g.l.drop (lowN g)) 0 false = (r0, r1, r2) := by
              have := hv.out
              rw [decide_eq_false hab, if_neg (by decide)] at this
              exact this.symm
            refine wp_region_in (Lt u3) (Lt.drew u3) (by kernel_rfl) (by kernel_rfl) ?_
            repeat (go_big_quiet_step ((go_at_call 42; exact in_same (CN3 _))))
            refine wpQuiet_nil ?_
            rintro u5 ⟨⟨_, hw5⟩, rfl⟩
            have hw5 : Below u3.heap.size u3 u5 := hw5
            have M5 := Base.next M3 hw5
            have CW := CL u5 M5
            clear CN3 R3 CN CB A1 G2 hv hw5 L1 L2 L3 M2 M3 hgc hgm hbl hf hg
            go_wp2_with ((go_at_call 17; refine CW.mono ?_; rintro e u6 ⟨rfl, L6⟩; have M6 := Base.next M5 L6))
            clear CW CL M5 L6
            have R6 := h.below M6
            have s6 : Spans u6 _ cl := Row.below hs M6
            have t6 : Spans u6 q mk := Row.below ht M6
            go_loopw [10, 11, 12, 13] (fun x o i _ wr => ∃ (k : Nat) (X : Int) (O : Bool), k ≤ g.l.length ∧ x = .int .u64 X ∧ o = .bool O ∧ i = .int .i64 k ∧ sumT cl mk (g.l.drop k) X O = (r0, r1, r2) ∧ Below u6.heap.size u6 wr) (fun _ _ i _ _ => g.l.length - (intOf i).toNat)
            case atStart => exact ⟨lowN g, 0, false, hlow, rfl, rfl, by rw [hlk.out], hF0, Below.refl _ _⟩
            case round =>
              obtain ⟨k, X, O, hk, rfl, rfl, rfl, hF, hL⟩ := hrel
              have hMr := Base.next M6 hL
              have hRr := R6.below hL
              obtain ⟨a, cap, c0, c1, c2, h1, h2, hz⟩ := hRr.read
              have hb := hRr.lt
              unfold maxLen at h2
              have sr : Spans wr _ cl := Row.below s6 hL
              have tr : Spans wr q mk := Row.below t6 hL
              by_cases hlt : k < g.l.length
              · rw [sumT_step hlt] at hF
                have hlI : (k : Int) < (g.l.length : Int) := by omega
                obtain ⟨b', off', rfl, hb', e0, e1, e2, e3, e4, e5, e6, e7⟩ := hz.at_ hlt
                generalize g.l.getD k Z8 = s at *
                have CH1 := fun V (hV : Below wr.heap.size wr V) => ref_has _ _ c cl s.pn V hn hn' (Row.below sr hV)
                have CH2 := fun V (hV : Below wr.heap.size wr V) => ref_has q m d mk s.pn V hm hm' (Row.below tr hV)
                obtain ⟨s0, s1, s2, s3', s4, s5, s6', s7⟩ := s
                simp only at e0 e1 e2 e3 e4 e5 e6 e7 CH1 CH2 hF
                clear c0 c1
                have hA := (Below.refl wr.heap.size wr).alloc (Nat.le_refl _) (.cells #[.int .u64 s0, .int .u64 s1, .int .u64 s2, .int .u64 s3', .int .u64 s4, .bool s5, .bool s6', .int .i64 s7] 59)
                cases hh : has cl s0 with
                | false =>
                  rw [hh] at CH1
                  rw [if_pos hh] at hF
                  go_wp2_with ((go_at_call 22; (with_reducible refine (CH1 _ hA).mono ?_); rintro e u9 ⟨rfl, rfl⟩))
                  all_goals go_roundw
                  case rel => exact ⟨k + 1, X, O, by omega, rfl, rfl, by go_num, hF, hL.alloc hL.size _⟩
                  case measure => simp [intOf]; omega
                | true =>
                  rw [hh] at CH1
                  rw [if_neg (by rw [hh]; decide)] at hF
                  by_cases t1 : s7 = 4
                  · rw [if_pos t1] at hF
                    subst t1
                    injection hF with f1 f2
                    injection f2 with f2 f3
                    subst f1
                    subst f2
                    subst f3
                    go_wp2_with ((go_at_call 22; (with_reducible refine (CH1 _ hA).mono ?_); rintro e u9 ⟨rfl, rfl⟩))
                    go_ret3
                    exact ⟨rfl, hMr.trans (hA.mono hMr.size)⟩
                  · rw [if_neg t1] at hF
                    have hx : bits .xor .u64 X s3' = xr X s3' := rfl
                    cases s5 with
                    | false =>
                      rw [Bool.false_and, if_neg (by decide)] at hF
                      generalize xr X s3' = X' at *
                      go_wp2_with ((go_at_call 22; (with_reducible refine (CH1 _ hA).mono ?_); rintro e u9 ⟨rfl, rfl⟩))
                      all_goals go_roundw
                      case rel => exact ⟨k + 1, X', O, by omega, rfl, rfl, by go_num, hF, hL.alloc hL.size _⟩
                      case measure => simp [intOf]; omega
                    | true =>
                      cases hm2 : has mk s0 with
                      | true =>
                        rw [hm2] at CH2
                        rw [Bool.true_and, hm2, if_neg (by decide)] at hF
                        generalize xr X s3' = X' at *
                        go_wp2_with (first
                          | (go_at_call 22; (with_reducible refine (CH1 _ hA).mono ?_); rintro e u9 ⟨rfl, rfl⟩)
                          | (go_at_call 22; (with_reducible refine (CH2 _ hA).mono ?_); rintro e u9 ⟨rfl, rfl⟩))
                        all_goals go_roundw
                        case rel => exact ⟨k + 1, X', O, by omega, rfl, rfl, by go_num, hF, hL.alloc hL.size _⟩
                        case measure => simp [intOf]; omega
                      | false =>
                        rw [hm2] at CH2
                        simp only [Bool.true_and, hm2, Bool.not_false, if_true] at hF
                        generalize xr X s3' = X' at *
                        go_wp2_with (first
                          | (go_at_call 22; (with_reducible refine (CH1 _ hA).mono ?_); rintro e u9 ⟨rfl, rfl⟩)
                          | (go_at_call 22; (with_reducible refine (CH2 _ hA).mono ?_); rintro e u9 ⟨rfl, rfl⟩))
                        all_goals go_roundw
                        case rel => exact ⟨k + 1, X', !O, by omega, rfl, rfl, by go_num, hF, hL.alloc hL.size _⟩
                        case measure => simp [intOf]; omega
              · obtain rfl : k = g.l.length := by omega
                rw [List.drop_eq_nil_of_le (Nat.le_refl _)] at hF
                injection hF with f1 f2
                injection f2 with f2 f3
                subst f1
                subst f2
                subst f3
                go_wp2
                go_ret3
                exact ⟨rfl, hMr⟩
end Go.Proofs.Ytlnncfjfphkkdaa.Led
