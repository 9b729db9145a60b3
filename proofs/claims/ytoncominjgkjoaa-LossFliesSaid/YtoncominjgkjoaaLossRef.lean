/-
  Contract of the reference's Find.
-/
import Derived.Test.YtoncominjgkjoaaLedRef3
import Derived.Test.YtoncominjgkjoaaLossPlain
import Derived.Test.YtoncominjgkjoaaFoldRef
import Derived.Test.YtoncominjgkjoaaSat
import Derived.Test.YtoncominjgkjoaaHop
set_option linter.unusedSimpArgs false
set_option linter.unusedVariables false
namespace Go.Proofs.Ytoncominjgkjoaa.Loss
set_option linter.unusedVariables false
set_option maxRecDepth 20000
open Go.ChangeShapes Go.WideShapes Go.ChangeAt Go.RowKit
open Go.Proofs.Ytoncominjgkjoaa.Base Go.Proofs.Ytoncominjgkjoaa.LedPlain Go.Proofs.Ytoncominjgkjoaa.LossPlain Go.Proofs.Ytoncominjgkjoaa.Led

/-- What looking for the lost comes to. -/
def FindPost (w : World) (l : List Int) (t : Int) : Ending → World → Prop := fun e w' => ∃ a c, e = .returned (.tuple #[.slice a l.length c, .int .u64 t]) ∧ l.length ≤ c ∧ c ≤ maxLen ∧ (a = none → l.length = 0 ∧ c = 0) ∧ RowIn (fun i => w.heap.size ≤ i) w' a (l.map (.int .u64)) ∧ Below w.heap.size w w'
theorem info64 : (Try.prog.info? 23).map (fun i => (i.zero, i.size, i.bytes)) = some (some (.int .u64 0), 1, 8) := by kernel_rfl
theorem words_at {g : Lg} (h : Ok g) {k : Nat} (hk : k < (allS g).length) : ∃ s, (allS g).getD k Z8 = s ∧ 0 ≤ s.pn ∧ s.pn ≤ 4611686018427387903 ∧ 0 ≤ s.time ∧ s.time ≤ 18446744073709551615 := by
  have hk' : lowN g + k < g.l.length := by unfold allS at hk; rw [List.length_drop] at hk; omega
  have e : (allS g).getD k Z8 = atN g (lowN g + k) := by unfold allS atN; simp [List.getD]
  obtain ⟨h1, ⟨w0, w1, _, _, _, _, _, _, w2, w3, _⟩, _⟩ := h.each _ hk'
  have := h.n1
  have := h.l1
  exact ⟨_, rfl, by rw [e]; exact w0, by rw [e, h1]; omega, by rw [e]; exact w2, by rw [e]; exact w3⟩
set_option maxHeartbeats 2000000 in
theorem ref_find {S : Nat → Prop} {w : World} {b : Nat} {g : Lg} (h : Rf S w b g) (hgl : g.l.length ≤ 1000000) (n now win : Int) (n0 : 0 ≤ n) (n1 : n ≤ 18446744073709551615) (t0 : 0 ≤ now) (t1 : now ≤ 18446744073709551615) (v0 : 0 ≤ win) (v1 : win ≤ 18446744073709551615) :
    Calls Try.prog 11 #[.pointer (some ⟨b, 0, none⟩), .int .u64 n, .int .u64 now, .int .u64 win] w (FindPost w (lostL n now win (allS g)) (nextT n now win (allS g))) := by
  obtain ⟨i0, hi0, hz0, hz1, hz2⟩ := info_parts info64
  have CW := ref_all h hgl
  have hal : (allS g).length ≤ 1000000 := by unfold allS; rw [List.length_drop]; omega
  have hwd := fun k (hk : k < (allS g).length) => words_at h.ok hk
  generalize allS g = l at *
  clear h hgl
  have CS := fun y V (y0 : 0 ≤ y) (y1 : y ≤ 18446744073709551615) => Sat.ref_sub now y t0 t1 y0 y1 V
  have CA := fun y V (y0 : 0 ≤ y) (y1 : y ≤ 18446744073709551615) => Sat.ref_add y win y0 y1 v0 v1 V
  go_enter Try.func11, Try.ntmps11
  go_upto_region 3 with fail
  generalize hm0 : l.length = m0 at *
  go_wp2_with (go_at_call 16; refine CW.mono ?_; rintro e u3 ⟨v3, rfl, hOw, L3⟩; obtain ⟨p3, cap3, rfl, hc1, hc2, hz3, hnl3, hb3⟩ := hOw.read; clear hOw hnl3 hb3)
  clear CW
  go_loopw [10, 11, 13, 17] (fun v t _ i wr => ∃ (k : Nat) (xs : List Int) (T : Int), k ≤ m0 ∧ i = .int .i64 k ∧ t = .int .u64 T ∧ wr.ownsRow u3.heap.size 23 1 v xs.length (xs.map (.int .u64)) ∧ xs ++ lostL n now win (l.drop k) = lostL n now win l ∧ min T (nextT n now win (l.drop k)) = nextT n now win l ∧ 0 ≤ T ∧ T ≤ 18446744073709551615 ∧ xs.length ≤ k ∧ Below u3.heap.size u3 wr) (fun _ _ _ i _ => m0 - (intOf i).toNat)
  case atStart =>
    refine ⟨0, [], 18446744073709551615, Nat.zero_le _, rfl, rfl, World.ownsRow_nil _ _ _ _, rfl, ?_, by decide, by decide, Nat.zero_le _, Below.refl _ _⟩
    have := (next_bd n now win v0 l fun s hs => by
      obtain ⟨k, hk, rfl⟩ := List.mem_iff_getElem.1 hs
      obtain ⟨s', e, _, _, h2, _⟩ := hwd k (by omega)
      rw [show l.getD k Z8 = l[k] by simp [List.getD, hk]] at e
      rw [e]
      exact h2).2
    rw [List.drop_zero]
    omega
  case round =>
    obtain ⟨k, xs, T, hk, rfl, rfl, hown, hxl, hmt, T0, T1, hxk, hL⟩ := hrel
    have hLw := L3.trans (hL.mono L3.size)
    have hz := hz3.below hL
    by_cases hlt : k < m0
    · have hlI : (k : Int) < (m0 : Int) := by omega
      rw [lost_step (by omega)] at hxl
      rw [next_step (by omega)] at hmt
      obtain ⟨b', off', rfl, hb', e0, e1, e2, e3, e4, e5, e6, e7⟩ := hz.at_ (show k < l.length by omega)
      obtain ⟨s', es, p0, p1, q0, q1⟩ := hwd k (by omega)
      rw [es] at hxl hmt e0 e1 e2 e3 e4 e5 e6 e7
      clear es hz hz3 hwd
      obtain ⟨s0, s1, s2, s3, s4, s5, s6, s7⟩ := s'
      simp only at e0 e1 e2 e3 e4 e5 e6 e7 p0 p1 q0 q1 hxl hmt
      have hs8 := Lib.hid (show (if lostB n now win ⟨s0, s1, s2, s3, s4, s5, s6, s7⟩ = true then 1 else 0) = (if (s7 = 1 ∧ s0 < n) ∧ (3 ≤ n - s0 ∨ win ≤ Sat.sub now s4) then 1 else (0 : Nat)) by
        unfold lostB seenB goneB
        simp only [Bool.and_eq_true, Bool.or_eq_true, decide_eq_true_eq])
      have hA := fun (V : World) => (Below.refl V.heap.size V).alloc (Nat.le_refl _) (.cells #[.int .u64 s0, .int .u64 s1, .int .u64 s2, .int .u64 s3, .int .u64 s4, .bool s5, .bool s6, .int .i64 s7] 42)
      have CSu := fun V => CS s4 V q0 q1
      have CAd := fun V => CA s4 V q0 q1
      clear CS CA
      have hsub := Sat.sub_bd q0 t1
      have hadd := Sat.add_bd q0 v0
      clear hs8 hA
      by_cases hs : s7 = 1 ∧ s0 < n
      · obtain ⟨rfl, hs2⟩ := hs
        have hseen : seenB n ⟨s0, s1, s2, s3, s4, s5, s6, 1⟩ = true := by unfold seenB; simp [hs2]
        by_cases hg : 3 ≤ n - s0 ∨ win ≤ Sat.sub now s4
        · have hgone : goneB n now win ⟨s0, s1, s2, s3, s4, s5, s6, 1⟩ = true := by unfold goneB; simpa using hg
          rw [lostB, hseen, hgone] at hxl
          rw [hgone] at hmt
          simp only [Bool.and_self, if_true, Bool.true_eq_false, and_false, if_false] at hxl hmt
          have hxl2 : (xs ++ [s0]) ++ lostL n now win (l.drop (k + 1)) = lostL n now win l := by rw [← hxl]; simp
          clear hxl hseen hgone
          go_upto_region 6 with fail
          refine at_any ?_
          intro W hW
          obtain ⟨g0, g4, g7, hLW, hownW, hWs⟩ : W.cell? ⟨wr.heap.size, 0, none⟩ = some (.int .u64 s0) ∧ W.cell? ⟨wr.heap.size, 4, none⟩ = some (.int .u64 s4) ∧ W.cell? ⟨wr.heap.size, 7, none⟩ = some (.int .i64 1) ∧ Below u3.heap.size u3 W ∧ W.ownsRow u3.heap.size 23 1 _ xs.length (xs.map (.int .u64)) ∧ wr.heap.size < W.heap.size := by
            subst hW
            have hB := Blk.new wr #[.int .u64 s0, .int .u64 s1, .int .u64 s2, .int .u64 s3, .int .u64 s4, .bool s5, .bool s6, .int .i64 1] 42
            have h0 : (wr.alloc (.cells #[.int .u64 s0, .int .u64 s1, .int .u64 s2, .int .u64 s3, .int .u64 s4, .bool s5, .bool s6, .int .i64 1] 42)).cell? ⟨wr.heap.size, 0, none⟩ = some (.int .u64 s0) := hB.cell 0
            have h4 : (wr.alloc (.cells #[.int .u64 s0, .int .u64 s1, .int .u64 s2, .int .u64 s3, .int .u64 s4, .bool s5, .bool s6, .int .i64 1] 42)).cell? ⟨wr.heap.size, 4, none⟩ = some (.int .u64 s4) := hB.cell 4
            have h7 : (wr.alloc (.cells #[.int .u64 s0, .int .u64 s1, .int .u64 s2, .int .u64 s3, .int .u64 s4, .bool s5, .bool s6, .int .i64 1] 42)).cell? ⟨wr.heap.size, 7, none⟩ = some (.int .i64 1) := hB.cell 7
            exact ⟨h0, h4, h7, hL.alloc hL.size _, hown.alloc _, by simp⟩
          clear hW hown
          have hown := hownW
          clear hown
          by_cases hg1 : 3 ≤ n - s0
          · go_wp2_with (at_builtin; refine wpl_append_row _ rfl (.tmp 43) (.tmp 46) _ rfl u3.heap.size 23 i0 _ 1 8 Try.underlying32 hi0 hz0 hz1 hz2 rfl (by omega) _ xs.length (xs.map (.int .u64)) rfl (hownW.alloc _) (some ⟨W.heap.size, 0, none⟩) 1 1 [.int .u64 s0] rfl rfl (Row.lit W _ [.int .u64 s0]) (by simp [Value.oneCell']) (by unfold maxLen; omega) (by omega) (by have := hLW.size; simp; omega) ?_; intro v8 w8 hown8 hg8 hat8)
            all_goals go_roundw
            case rel =>
              have hb8 : Below u3.heap.size u3 w8 := (hLW.alloc hLW.size _).grown hg8 (by have := hLW.size; simp; omega) (fun g hg => (hownW.lt g hg).1)
              exact ⟨k + 1, xs ++ [s0], T, by omega, by go_num, rfl, by simpa using hown8, hxl2, hmt, T0, T1, by simp; omega, hb8⟩
            case measure => simp [intOf]; omega
          · have hg2 : win ≤ Sat.sub now s4 := hg.resolve_left hg1
            generalize Sat.sub now s4 = d at *
            go_wp2_with (first
              | (go_at_call 15; refine (CSu _).mono ?_; rintro e w7 ⟨rfl, rfl⟩)
              | (at_builtin; refine wpl_append_row _ rfl (.tmp 43) (.tmp 46) _ rfl u3.heap.size 23 i0 _ 1 8 Try.underlying32 hi0 hz0 hz1 hz2 rfl (by omega) _ xs.length (xs.map (.int .u64)) rfl (hownW.alloc _) (some ⟨W.heap.size, 0, none⟩) 1 1 [.int .u64 s0] rfl rfl (Row.lit W _ [.int .u64 s0]) (by simp [Value.oneCell']) (by unfold maxLen; omega) (by omega) (by have := hLW.size; simp; omega) ?_; intro v8 w8 hown8 hg8 hat8))
            all_goals go_roundw
            case rel =>
              have hb8 : Below u3.heap.size u3 w8 := (hLW.alloc hLW.size _).grown hg8 (by have := hLW.size; simp; omega) (fun g hg => (hownW.lt g hg).1)
              exact ⟨k + 1, xs ++ [s0], T, by omega, by go_num, rfl, by simpa using hown8, hxl2, hmt, T0, T1, by simp; omega, hb8⟩
            case measure => simp [intOf]; omega
        · have hg1 : ¬ 3 ≤ n - s0 := fun h => hg (.inl h)
          have hg2 : ¬ win ≤ Sat.sub now s4 := fun h => hg (.inr h)
          have hgone : goneB n now win ⟨s0, s1, s2, s3, s4, s5, s6, 1⟩ = false := by unfold goneB; simp; omega
          rw [lostB, hseen, hgone] at hxl
          rw [hgone, hseen] at hmt
          simp only [Bool.and_false, Bool.false_eq_true, and_self, if_true, if_false] at hxl hmt
          clear hseen hgone hg
          have hmt2 : min (min T (Sat.add s4 win)) (nextT n now win (l.drop (k + 1))) = nextT n now win l := by omega
          clear hmt
          go_upto_region 6 with fail
          refine at_any ?_
          intro W hW
          obtain ⟨g0, g4, g7, hLW, hownW, hWs⟩ : W.cell? ⟨wr.heap.size, 0, none⟩ = some (.int .u64 s0) ∧ W.cell? ⟨wr.heap.size, 4, none⟩ = some (.int .u64 s4) ∧ W.cell? ⟨wr.heap.size, 7, none⟩ = some (.int .i64 1) ∧ Below u3.heap.size u3 W ∧ W.ownsRow u3.heap.size 23 1 _ xs.length (xs.map (.int .u64)) ∧ wr.heap.size < W.heap.size := by
            subst hW
            have hB := Blk.new wr #[.int .u64 s0, .int .u64 s1, .int .u64 s2, .int .u64 s3, .int .u64 s4, .bool s5, .bool s6, .int .i64 1] 42
            have h0 : (wr.alloc (.cells #[.int .u64 s0, .int .u64 s1, .int .u64 s2, .int .u64 s3, .int .u64 s4, .bool s5, .bool s6, .int .i64 1] 42)).cell? ⟨wr.heap.size, 0, none⟩ = some (.int .u64 s0) := hB.cell 0
            have h4 : (wr.alloc (.cells #[.int .u64 s0, .int .u64 s1, .int .u64 s2, .int .u64 s3, .int .u64 s4, .bool s5, .bool s6, .int .i64 1] 42)).cell? ⟨wr.heap.size, 4, none⟩ = some (.int .u64 s4) := hB.cell 4
            have h7 : (wr.alloc (.cells #[.int .u64 s0, .int .u64 s1, .int .u64 s2, .int .u64 s3, .int .u64 s4, .bool s5, .bool s6, .int .i64 1] 42)).cell? ⟨wr.heap.size, 7, none⟩ = some (.int .i64 1) := hB.cell 7
            exact ⟨h0, h4, h7, hL.alloc hL.size _, hown.alloc _, by simp⟩
          clear hW hown
          have hown := hownW
          clear hownW
          generalize Sat.sub now s4 = d at *
          generalize Sat.add s4 win = r at *
          go_wp2_with (first
            | (go_at_call 15; refine (CSu _).mono ?_; rintro e w7 ⟨rfl, rfl⟩)
            | (go_at_call 26; refine (CAd _).mono ?_; rintro e w7 ⟨rfl, rfl⟩)
            | (refine wpl_value (v := .int .u64 (min T r)) rfl (mn_u64 (.tmp 48) (.tmp 52) _ rfl rfl rfl) ?_))
          all_goals go_roundw
          case rel => exact ⟨k + 1, xs, min T r, by omega, by go_num, rfl, hown, hxl, hmt2, by omega, by omega, by omega, hLW⟩
          case measure => simp [intOf]; omega
      · have hseen : seenB n ⟨s0, s1, s2, s3, s4, s5, s6, s7⟩ = false := by
          unfold seenB
          rw [Bool.eq_false_iff]
          intro h
          simp only [Bool.and_eq_true, decide_eq_true_eq] at h
          exact hs h
        rw [lostB, hseen] at hxl
        rw [hseen] at hmt
        simp only [Bool.false_and, Bool.false_eq_true, false_and, if_false] at hxl hmt
        clear hseen
        by_cases hs1 : s7 = 1
        · have hs2 : ¬ s0 < n := fun h => hs ⟨hs1, h⟩
          subst hs1
          go_wp2
          all_goals go_roundw
          case rel => exact ⟨k + 1, xs, T, by omega, by go_num, rfl, hown.alloc _, hxl, hmt, T0, T1, by omega, hL.alloc hL.size _⟩
          case measure => simp [intOf]; omega
        · go_wp2
          all_goals go_roundw
          case rel => exact ⟨k + 1, xs, T, by omega, by go_num, rfl, hown.alloc _, hxl, hmt, T0, T1, by omega, hL.alloc hL.size _⟩
          case measure => simp [intOf]; omega
    · obtain rfl : k = m0 := by omega
      rw [List.drop_eq_nil_of_le (by omega)] at hxl hmt
      obtain rfl : xs = lostL n now win l := by simpa [lostL] using hxl
      have hT : T = nextT n now win l := by rw [← hmt]; unfold nextT; omega
      subst hT
      obtain ⟨p, c, rfl, h1, h2, h3, hr⟩ := rowIn_of_own (by decide) hown
      go_wp2
      go_ret2
      exact ⟨p, c, rfl, h1, h2, h3, hr.mono (fun q _ hq => Nat.le_trans L3.size hq), hLw⟩
end Go.Proofs.Ytoncominjgkjoaa.Loss
