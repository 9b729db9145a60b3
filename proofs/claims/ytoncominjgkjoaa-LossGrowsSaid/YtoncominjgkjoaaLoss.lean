/-
  The contract of package loss: Find, over the contracts of ledger and clock.
-/
import Derived.Test.YtoncominjgkjoaaLed
import Derived.Test.YtoncominjgkjoaaLossRef
import Derived.Test.YtoncominjgkjoaaClock
set_option linter.unusedSimpArgs false
set_option linter.unusedVariables false
namespace Go.Proofs.Ytoncominjgkjoaa.Loss
set_option linter.unusedVariables false
set_option maxRecDepth 20000
open Go.ChangeShapes Go.WideShapes Go.ChangeAt Go.RowKit
open Go.Proofs.Ytoncominjgkjoaa.Base Go.Proofs.Ytoncominjgkjoaa.LedPlain Go.Proofs.Ytoncominjgkjoaa.LossPlain Go.Proofs.Ytoncominjgkjoaa.Led

/-- The eight cells of what is kept of a number. -/
def sCells (s : Sn) : Array Value := #[.int .u64 s.pn, .int .u64 s.off, .int .u64 s.len, .int .u64 s.nonce, .int .u64 s.time, .bool s.coin, .bool s.used, .int .i64 s.state]
theorem overtaken_any (s0 s1 s2 s3 s4 : Int) (s5 s6 : Bool) (s7 n : Int) (p0 : 0 ≤ s0) (p1 : s0 < n) (n1 : n ≤ 18446744073709551615) (w : World) :
    Calls Try.prog 22 #[.agg #[.int .u64 s0, .int .u64 s1, .int .u64 s2, .int .u64 s3, .int .u64 s4, .bool s5, .bool s6, .int .i64 s7], .int .u64 n] w fun e w' => e = .returned (.bool (decide (3 ≤ n - s0))) ∧ Below w.heap.size w w' := by
  go_enter Try.func22, Try.ntmps22
  go_wp2
  all_goals go_ret
  all_goals exact ⟨rfl, (Below.refl _ _).alloc (Nat.le_refl _) _⟩
theorem overdue_any (s0 s1 s2 s3 s4 : Int) (s5 s6 : Bool) (s7 now win : Int) (p0 : 0 ≤ s4) (p1 : s4 ≤ 18446744073709551615) (t0 : 0 ≤ now) (t1 : now ≤ 18446744073709551615) (w : World) :
    Calls Try.prog 23 #[.agg #[.int .u64 s0, .int .u64 s1, .int .u64 s2, .int .u64 s3, .int .u64 s4, .bool s5, .bool s6, .int .i64 s7], .int .u64 now, .int .u64 win] w fun e w' => e = .returned (.bool (decide (win ≤ Sat.sub now s4))) ∧ Below w.heap.size w w' := by
  have CS := fun V => Clock.since_any now s4 t0 t1 p0 p1 V
  generalize Sat.sub now s4 = d at *
  go_enter Try.func23, Try.ntmps23
  go_wp2_with (go_at_call 48; refine (CS _).mono ?_; rintro e w' ⟨rfl, rfl⟩)
  all_goals go_ret
  all_goals exact ⟨rfl, (Below.refl _ _).alloc (Nat.le_refl _) _⟩
theorem own_past {w w' : World} {base size n : Nat} {e : TypeId} {v : Value} {xs : List Value} (h : w.ownsRow base e size v n xs) (hb : Below w.heap.size w w') : w'.ownsRow base e size v n xs := by
  obtain ⟨h1, h2⟩ := h
  refine ⟨h1, ?_⟩
  rcases h2 with h2 | ⟨g, cap, cur, hv, hg, hh, r⟩
  · exact Or.inl h2
  · exact Or.inr ⟨g, cap, cur, hv, hg, (hb.block g (lt_of_block hh)).trans hh, r⟩
theorem least_two (a b : Int) (hb : b ≤ 18446744073709551615) : Clock.least [a, b] = min a b := by
  unfold Clock.least
  simp only [List.foldl_cons, List.foldl_nil]
  omega
set_option maxHeartbeats 2000000 in
theorem find_any {S : Nat → Prop} {w : World} {a : Addr} {g : Lg} (h : Led S w a g) (hgl : g.l.length ≤ 1000000) (n now win : Int) (n0 : 0 ≤ n) (n1 : n ≤ 18446744073709551615) (t0 : 0 ≤ now) (t1 : now ≤ 18446744073709551615) (v0 : 0 ≤ win) (v1 : win ≤ 18446744073709551615) :
    Calls Try.prog 10 #[.pointer (some a), .int .u64 n, .int .u64 now, .int .u64 win] w (FindPost w (lostL n now win (allS g)) (nextT n now win (allS g))) := by
  obtain ⟨i0, hi0, hz0, hz1, hz2⟩ := info_parts info64
  have CW := all_any h hgl
  have hal : (allS g).length ≤ 1000000 := by unfold allS; rw [List.length_drop]; omega
  have hwd := fun k (hk : k < (allS g).length) => words_at h.ok hk
  generalize allS g = l at *
  clear h hgl
  have CA := fun y V (y0 : 0 ≤ y) (y1 : y ≤ 18446744073709551615) => Clock.after_any y win y0 y1 v0 v1 V
  go_enter Try.func10, Try.ntmps10
  go_upto_region 3 with fail
  generalize hm0 : l.length = m0 at *
  go_wp2_with (go_at_call 21; refine CW.mono ?_; rintro e u3 ⟨p3, cap3, rfl, hc1, hc2, hR3, L3⟩)
  clear CW
  have hz3 : Sents u3 p3 l := hR3.row
  clear hR3
  go_loopw [10, 11, 13, 17] (fun v t _ i wr => ∃ (k : Nat) (xs : List Int) (T : Int), k ≤ m0 ∧ i = .int .i64 k ∧ t = .int .u64 T ∧ wr.ownsRow u3.heap.size 23 1 v xs.length (xs.map (.int .u64)) ∧ xs ++ lostL n now win (l.drop k) = lostL n now win l ∧ min T (nextT n now win (l.drop k)) = nextT n now win l ∧ 0 ≤ T ∧ T ≤ 18446744073709551615 ∧ xs.length ≤ k ∧ Below u3.heap.size u3 wr) (fun _ _ _ i _ => m0 - (intOf i).toNat)
  case atStart =>
    refine ⟨0, [], 18446744073709551615, Nat.zero_le _, rfl, rfl, World.ownsRow_nil _ _ _ _, rfl, ?_, by decide, by decide, Nat.zero_le _, Below.refl _ _⟩
    have := (next_bd n now win v0 l fun s hs => by
      obtain ⟨k, hk, rfl⟩ := List.mem_iff_getElem.1 hs
      obtain ⟨s', e, _, _, h2, _⟩ := hwd k (by omega)
      rw [show l.getD k Z8 = l[k] by simp [List.getD, hk]] at e
      rw [e]
      exact h2).2
    rw [List.drop_zero]
    omega
  case round =>
    obtain ⟨k, xs, T, hk, rfl, rfl, hown, hxl, hmt, T0, T1, hxk, hL⟩ := hrel
    have hLw := L3.trans (hL.mono L3.size)
    have hz := hz3.below hL
    by_cases hlt : k < m0
    · have hlI : (k : Int) < (m0 : Int) := by omega
      rw [lost_step (by omega)] at hxl
      rw [next_step (by omega)] at hmt
      obtain ⟨b', off', rfl, hb', e0, e1, e2, e3, e4, e5, e6, e7⟩ := hz.at_ (show k < l.length by omega)
      obtain ⟨s', es, p0, p1, q0, q1⟩ := hwd k (by omega)
      rw [es] at hxl hmt e0 e1 e2 e3 e4 e5 e6 e7
      clear es hz hz3 hwd
      obtain ⟨s0, s1, s2, s3, s4, s5, s6, s7⟩ := s'
      simp only at e0 e1 e2 e3 e4 e5 e6 e7 p0 p1 q0 q1 hxl hmt
      have CAd := fun V => CA s4 V q0 q1
      clear CA
      have hadd := Sat.add_bd q0 v0
      by_cases hs : s7 = 1 ∧ s0 < n
      · obtain ⟨rfl, hs2⟩ := hs
        have hseen : seenB n ⟨s0, s1, s2, s3, s4, s5, s6, 1⟩ = true := by unfold seenB; simp [hs2]
        have CO := fun V => overtaken_any s0 s1 s2 s3 s4 s5 s6 1 n p0 hs2 n1 V
        have CD := fun V => overdue_any s0 s1 s2 s3 s4 s5 s6 1 now win q0 q1 t0 t1 V
        go_upto_region 7 with fail
        refine at_any ?_
        intro W hW
        obtain ⟨hB, hLW, hownW, hWs⟩ : Blk W wr.heap.size #[.int .u64 s0, .int .u64 s1, .int .u64 s2, .int .u64 s3, .int .u64 s4, .bool s5, .bool s6, .int .i64 1] 42 ∧ Below u3.heap.size u3 W ∧ W.ownsRow u3.heap.size 23 1 _ xs.length (xs.map (.int .u64)) ∧ wr.heap.size < W.heap.size := by
          subst hW
          exact ⟨Blk.new wr _ _, hL.alloc hL.size _, hown.alloc _, by simp⟩
        clear hW hown e0 e1 e2 e3 e4 e5 e6 e7 hL hLw
        generalize wr.heap.size = sb at *
        have k0 := hB.cell 0
        have k1 := hB.cell 1
        have k2 := hB.cell 2
        have k3 := hB.cell 3
        have k4 := hB.cell 4
        have k5 := hB.cell 5
        have k6 := hB.cell 6
        have k7 := hB.cell 7
        simp only [List.getElem?_toArray, List.getElem?_cons_zero, List.getElem?_cons_succ] at k0 k1 k2 k3 k4 k5 k6 k7
        by_cases hg : 3 ≤ n - s0 ∨ win ≤ Sat.sub now s4
        · have hgone : goneB n now win ⟨s0, s1, s2, s3, s4, s5, s6, 1⟩ = true := by unfold goneB; simpa using hg
          rw [lostB, hseen, hgone] at hxl
          rw [hgone] at hmt
          simp only [Bool.and_self, if_true, Bool.true_eq_false, and_false, if_false] at hxl hmt
          have hxl2 : (xs ++ [s0]) ++ lostL n now win (l.drop (k + 1)) = lostL n now win l := by rw [← hxl]; simp
          clear hxl hseen hgone
          by_cases hg1 : 3 ≤ n - s0
          · simp only [decide_eq_true hg1] at CO
            clear CD hg
            go_upto_region 8 with (go_at_call 22; refine (CO _).mono ?_; rintro e w7 ⟨rfl, L7⟩; have B7 := hB.below L7 hB.lt)
            refine at_any ?_
            intro V hV
            obtain ⟨hLV, hownV, B8⟩ : Below u3.heap.size u3 V ∧ V.ownsRow u3.heap.size 23 1 _ xs.length (xs.map (.int .u64)) ∧ Blk V sb _ _ := by
              subst hV
              exact ⟨hLW.trans (L7.mono hLW.size), own_past hownW L7, B7⟩
            have c0 : V.cell? ⟨sb, 0, none⟩ = some (.int .u64 s0) := B8.cell 0
            clear hV hB hownW k0 k1 k2 k3 k4 k5 k6 k7 B7 L7
            go_wp2_with (at_builtin; refine wpl_append_row _ rfl (.tmp 39) (.tmp 42) _ rfl u3.heap.size 23 i0 _ 1 8 Try.underlying32 hi0 hz0 hz1 hz2 rfl (by omega) _ xs.length (xs.map (.int .u64)) rfl (hownV.alloc _) (some ⟨V.heap.size, 0, none⟩) 1 1 [.int .u64 s0] rfl rfl (Row.lit V _ [.int .u64 s0]) (by simp [Value.oneCell']) (by unfold maxLen; omega) (by omega) (by have := hLV.size; simp; omega) ?_; intro v8 w8 hown8 hg8 hat8)
            all_goals go_roundw
            case rel =>
              have hb8 : Below u3.heap.size u3 w8 := (hLV.alloc hLV.size _).grown hg8 (by have := hLV.size; simp; omega) (fun g hg => (hownV.lt g hg).1)
              exact ⟨k + 1, xs ++ [s0], T, by omega, by go_num, rfl, by simpa using hown8, hxl2, hmt, T0, T1, by simp; omega, hb8⟩
            case measure => simp [intOf]; omega
          · have hg2 : win ≤ Sat.sub now s4 := hg.resolve_left hg1
            simp only [decide_eq_false hg1] at CO
            simp only [decide_eq_true hg2] at CD
            clear hg hg2
            go_upto_region 8 with (first
              | (go_at_call 22; refine (CO _).mono ?_; rintro e w7 ⟨rfl, L7⟩; have B7 := hB.below L7 hB.lt; have d0 := B7.cell 0; have d1 := B7.cell 1; have d2 := B7.cell 2; have d3 := B7.cell 3; have d4 := B7.cell 4; have d5 := B7.cell 5; have d6 := B7.cell 6; have d7 := B7.cell 7; simp only [List.getElem?_toArray, List.getElem?_cons_zero, List.getElem?_cons_succ] at d0 d1 d2 d3 d4 d5 d6 d7)
              | (go_at_call 23; refine (CD _).mono ?_; rintro e w8 ⟨rfl, L8⟩; have B8 := B7.below L8 B7.lt))
            refine at_any ?_
            intro V hV
            obtain ⟨hLV, hownV, B9⟩ : Below u3.heap.size u3 V ∧ V.ownsRow u3.heap.size 23 1 _ xs.length (xs.map (.int .u64)) ∧ Blk V sb _ _ := by
              subst hV
              exact ⟨(hLW.trans (L7.mono hLW.size)).trans (L8.mono (Nat.le_trans hLW.size L7.size)), own_past (own_past hownW L7) L8, B8⟩
            have c0 : V.cell? ⟨sb, 0, none⟩ = some (.int .u64 s0) := B9.cell 0
            clear hV hB hownW k0 k1 k2 k3 k4 k5 k6 k7 d0 d1 d2 d3 d4 d5 d6 d7 B7 L7 B8 L8
            go_wp2_with (at_builtin; refine wpl_append_row _ rfl (.tmp 39) (.tmp 42) _ rfl u3.heap.size 23 i0 _ 1 8 Try.underlying32 hi0 hz0 hz1 hz2 rfl (by omega) _ xs.length (xs.map (.int .u64)) rfl (hownV.alloc _) (some ⟨V.heap.size, 0, none⟩) 1 1 [.int .u64 s0] rfl rfl (Row.lit V _ [.int .u64 s0]) (by simp [Value.oneCell']) (by unfold maxLen; omega) (by omega) (by have := hLV.size; simp; omega) ?_; intro v8 w8 hown8 hg8 hat8)
            all_goals go_roundw
            case rel =>
              have hb8 : Below u3.heap.size u3 w8 := (hLV.alloc hLV.size _).grown hg8 (by have := hLV.size; simp; omega) (fun g hg => (hownV.lt g hg).1)
              exact ⟨k + 1, xs ++ [s0], T, by omega, by go_num, rfl, by simpa using hown8, hxl2, hmt, T0, T1, by simp; omega, hb8⟩
            case measure => simp [intOf]; omega
        · have hg1 : ¬ 3 ≤ n - s0 := fun h => hg (.inl h)
          have hg2 : ¬ win ≤ Sat.sub now s4 := fun h => hg (.inr h)
          have hgone : goneB n now win ⟨s0, s1, s2, s3, s4, s5, s6, 1⟩ = false := by unfold goneB; simp; omega
          rw [lostB, hseen, hgone] at hxl
          rw [hgone, hseen] at hmt
          simp only [Bool.and_false, Bool.false_eq_true, and_self, if_true, if_false] at hxl hmt
          clear hseen hgone hg
          simp only [decide_eq_false hg1] at CO
          simp only [decide_eq_false hg2] at CD
          have hmt2 : min (min T (Sat.add s4 win)) (nextT n now win (l.drop (k + 1))) = nextT n now win l := by omega
          clear hmt hg2
          go_upto_region 9 with (first
            | (go_at_call 22; refine (CO _).mono ?_; rintro e w7 ⟨rfl, L7⟩; have B7 := hB.below L7 hB.lt; have d0 := B7.cell 0; have d1 := B7.cell 1; have d2 := B7.cell 2; have d3 := B7.cell 3; have d4 := B7.cell 4; have d5 := B7.cell 5; have d6 := B7.cell 6; have d7 := B7.cell 7; simp only [List.getElem?_toArray, List.getElem?_cons_zero, List.getElem?_cons_succ] at d0 d1 d2 d3 d4 d5 d6 d7)
            | (go_at_call 23; refine (CD _).mono ?_; rintro e w8 ⟨rfl, L8⟩; have B8 := B7.below L8 B7.lt))
          refine at_any ?_
          intro V hV
          obtain ⟨hLV, hownV, B9⟩ : Below u3.heap.size u3 V ∧ V.ownsRow u3.heap.size 23 1 _ xs.length (xs.map (.int .u64)) ∧ Blk V sb _ _ := by
            subst hV
            exact ⟨(hLW.trans (L7.mono hLW.size)).trans (L8.mono (Nat.le_trans hLW.size L7.size)), own_past (own_past hownW L7) L8, B8⟩
          have c4 : V.cell? ⟨sb, 4, none⟩ = some (.int .u64 s4) := B9.cell 4
          clear hV hB hownW k0 k1 k2 k3 k4 k5 k6 k7 d0 d1 d2 d3 d4 d5 d6 d7 B7 L7 B8 L8
          generalize Sat.sub now s4 = d at *
          generalize Sat.add s4 win = r at *
          have CF := Clock.first_of (some ⟨V.heap.size, 0, none⟩) 2 2 [T, r] (V.alloc (.cells #[.int .u64 T, .int .u64 r] 23)) rfl (by decide) (.of (Row.lit V _ [.int .u64 T, .int .u64 r]))
          rw [least_two T r (by omega)] at CF
          generalize hX : min T r = X at *
          have hX := Lib.hid hX
          go_wp2_with (first
            | (go_at_call 25; refine (CAd _).mono ?_; rintro e w7 ⟨rfl, rfl⟩)
            | (go_at_call 24; refine CF.mono ?_; rintro e w7 ⟨rfl, rfl⟩))
          all_goals go_roundw
          case rel => exact ⟨k + 1, xs, X, by omega, by go_num, rfl, hownV.alloc _, hxl, hmt2, by have := hX.out; omega, by have := hX.out; omega, by omega, hLV.alloc hLV.size _⟩
          case measure => simp [intOf]; omega
      · have hseen : seenB n ⟨s0, s1, s2, s3, s4, s5, s6, s7⟩ = false := by
          unfold seenB
          rw [Bool.eq_false_iff]
          intro h
          simp only [Bool.and_eq_true, decide_eq_true_eq] at h
          exact hs h
        rw [lostB, hseen] at hxl
        rw [hseen] at hmt
        simp only [Bool.false_and, Bool.false_eq_true, false_and, if_false] at hxl hmt
        clear hseen
        by_cases hs1 : s7 = 1
        · have hs2 : ¬ s0 < n := fun h => hs ⟨hs1, h⟩
          subst hs1
          go_wp2
          all_goals go_roundw
          case rel => exact ⟨k + 1, xs, T, by omega, by go_num, rfl, hown.alloc _, hxl, hmt, T0, T1, by omega, hL.alloc hL.size _⟩
          case measure => simp [intOf]; omega
        · go_wp2
          all_goals go_roundw
          case rel => exact ⟨k + 1, xs, T, by omega, by go_num, rfl, hown.alloc _, hxl, hmt, T0, T1, by omega, hL.alloc hL.size _⟩
          case measure => simp [intOf]; omega
    · obtain rfl : k = m0 := by omega
      rw [List.drop_eq_nil_of_le (by omega)] at hxl hmt
      obtain rfl : xs = lostL n now win l := by simpa [lostL] using hxl
      have hT : T = nextT n now win l := by rw [← hmt]; unfold nextT; omega
      subst hT
      obtain ⟨p, c, rfl, h1, h2, h3, hr⟩ := rowIn_of_own (by decide) hown
      go_wp2
      go_ret2
      exact ⟨p, c, rfl, h1, h2, h3, hr.mono (fun q _ hq => Nat.le_trans L3.size hq), hLw⟩
end Go.Proofs.Ytoncominjgkjoaa.Loss
