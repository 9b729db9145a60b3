/-
  What the laws' rows are made of: rows of small numbers, the part of a row that is in another one.
-/
import Derived.Test.YtangljeceohdpaaDoorSpanRef3
import Derived.Test.YtangljeceohdpaaDoorSpanRef4
import Derived.Deep.RegionHeld3
namespace Go.Proofs.YtangljeceohdpaaDoor.Law0
set_option linter.unusedVariables false
set_option maxRecDepth 20000
open Go.ChangeShapes Go.WideShapes Go.ChangeAt Go.RowKit
open Go.Proofs.YtangljeceohdpaaDoor.Base Go.Proofs.YtangljeceohdpaaDoor.SpanPlain Go.Proofs.YtangljeceohdpaaDoor.SpanRef

theorem last_len (l : List Sp) (n : Nat) : (lastS l n).length ≤ n := by
  unfold lastS
  split
  · exact Nat.zero_le _
  · split
    · omega
    · rw [List.length_drop]
      omega
theorem last_has {l : List Sp} {m n : Int} (h : has (lastS l m) n = true) : has l n = true := by
  unfold lastS at h
  split at h
  · cases h
  · split at h
    · exact h
    · rw [← List.take_append_drop (l.length - m.toNat) l, has_append, h, Bool.or_true]
theorem last_top {l : List Sp} {m N : Int} (h : ∀ s ∈ l, s.2 ≤ N) : ∀ s ∈ lastS l m, s.2 ≤ N := fun s hs => by
  unfold lastS at hs
  split at hs
  · cases hs
  · split at hs
    · exact h s hs
    · exact h s (List.mem_of_mem_drop hs)
set_option maxHeartbeats 2000000 in
theorem row_any (a : Option Addr) (n cap : Nat) (zs : List Int) (w : World) (hn : zs.length = n) (hm : n ≤ 140737488355328) (hw : ∀ z ∈ zs, (Lit.int .u16 z).wf = true) (hz : Ints .u16 w a zs) :
    Calls Tryd.prog 35 #[.slice a n cap] w fun e w' => ∃ v l, e = .returned v ∧ good l = true ∧ l.length ≤ 32 ∧ (∀ s, has l s = true → s ≤ 204) ∧ Own w.heap.size w' v l ∧ Below w.heap.size w w' := by
  subst hn
  go_enter Tryd.func35, Tryd.ntmps35
  go_wp2
  go_loopw [3, 4] (fun o i wr => ∃ j : Nat, j ≤ 120 ∧ j ≤ zs.length ∧ j % 2 = 0 ∧ i = .int .i64 j ∧ ∃ l : List Sp, good l = true ∧ 2 * l.length ≤ j ∧ (∀ s, has l s = true → s ≤ 204) ∧ Own w.heap.size wr o l ∧ Below w.heap.size w wr) (fun _ i _ => zs.length - (intOf i).toNat)
  case atStart => exact ⟨0, by omega, by omega, rfl, rfl, [], rfl, Nat.zero_le _, (fun s h => by cases h), Own.nil _ _, Below.refl _ _⟩
  case round =>
    obtain ⟨j, ht, htl, hev, rfl, l, hg, hll, htop, hown, hL⟩ := hrel
    obtain ⟨a3, cap3, rfl, hc3, hm3, hn3, R3⟩ := hown.read
    have HT := Lib.hid htop
    have HG := Lib.hid hg
    have HE := Lib.hid hev
    clear htop hg hev
    have hb3 := hL.size
    have hrow : Spans wr a3 l := R3.row
    have endc := fun W hz => ref_last a3 l.length cap3 l 32 W rfl hc3 (by omega) hz
    by_cases hlt : j + 1 < zs.length
    · obtain ⟨b, off, rfl, hb, c0⟩ := (hz.below hL).at_ (i := j) (by omega)
      obtain ⟨b', off', e, _, c1⟩ := (hz.below hL).at_ (i := j + 1) (by omega)
      cases e
      have w0 := u16_of (hw (zs.getD j 0) (by simp [List.getD, show j < zs.length by omega]))
      have w1 := u16_of (hw (zs.getD (j + 1) 0) (by simp [List.getD, hlt]))
      generalize zs.getD j 0 = x at *
      generalize zs.getD (j + 1) 0 = y at *
      obtain ⟨x0, x1⟩ := w0
      obtain ⟨y0, y1⟩ := w1
      by_cases h60 : j < 120
      · have c2 := fun W hz => ref_add a3 l.length cap3 l (x % 200, x % 200 + y % 6) W rfl hc3 (by omega) hn3 HG.out (by simp only; omega) (by simp only; omega) (by simp only; omega) hz
        simp only at c2
        have HA := Lib.hid (add_good (s := (x % 200, x % 200 + y % 6)) HG.out (by simp only; omega) (by simp only; omega) (by unfold M; simp only; omega))
        have HN := add_len l (x % 200, x % 200 + y % 6)
        generalize addS l (x % 200, x % 200 + y % 6) = l2 at *
        clear endc
        have hI : (j : Int) + 1 < (zs.length : Int) := by omega
        have hI2 : (j : Int) < 120 := by omega
        have HLT := Lib.hid hlt
        have H60 := Lib.hid h60
        clear hlt h60
        go_wp2_with (go_at_call 50; (with_reducible refine (c2 _ hrow).mono ?_); rintro e w3 ⟨v3, rfl, o3, L3⟩)
        go_roundw
        case rel => exact ⟨j + 2, by have := HE.out; have := H60.out; omega, by have := HLT.out; omega, by have := HE.out; omega, by go_num, l2, HA.out.1, by omega, (fun s hs => by
          rw [HA.out.2, Bool.or_eq_true] at hs
          rcases hs with hs | hs
          · exact HT.out s hs
          · simp at hs
            omega), o3.mono hb3, Base.next hL L3⟩
        case measure => simp [intOf]; omega
      · have hI : (j : Int) + 1 < (zs.length : Int) := by omega
        have hI2 : ¬ (j : Int) < 120 := by omega
        clear hlt c0 c1 htl hll h60
        have hlg := HG.out
        have HGL := Lib.hid (last_good HG.out 32)
        have HLL := Lib.hid (last_len l 32)
        have HLH := Lib.hid (fun n => last_has (l := l) (m := 32) (n := n))
        go_wp2_with (go_at_call 51; (with_reducible refine (endc _ hrow).mono ?_); rintro e w3 ⟨v3, rfl, o3, L3⟩)
        go_ret
        exact ⟨_, _, rfl, HGL.out, HLL.out, fun s hs => HT.out s (HLH.out s hs), o3.mono hb3, Base.next hL L3⟩
    · have hlg := HG.out
      have HGL := Lib.hid (last_good HG.out 32)
      have HLL := Lib.hid (last_len l 32)
      have HLH := Lib.hid (fun n => last_has (l := l) (m := 32) (n := n))
      go_wp2_with (go_at_call 51; (with_reducible refine (endc _ hrow).mono ?_); rintro e w3 ⟨v3, rfl, o3, L3⟩)
      go_ret
      exact ⟨_, _, rfl, HGL.out, HLL.out, fun s hs => HT.out s (HLH.out s hs), o3.mono hb3, Base.next hL L3⟩
theorem has_get {l : List Sp} {k : Nat} (h : k < l.length) {n : Int} (h1 : (l.getD k (0, 0)).1 ≤ n) (h2 : n ≤ (l.getD k (0, 0)).2) : has l n = true := by
  unfold has
  rw [List.any_eq_true]
  exact ⟨l.getD k (0, 0), by simp [List.getD, h], by simp only [Bool.and_eq_true, decide_eq_true_eq]; exact ⟨h1, h2⟩⟩
set_option maxHeartbeats 4000000 in
theorem part_any (a b : Option Addr) (n m capa capb : Nat) (l r : List Sp) (w : World) (hn : l.length = n) (hm : r.length = m) (hnb : n ≤ 32) (hmb : m ≤ 32) (hgl : good l = true) (hgr : good r = true) (hz : Spans w a l) (hy : Spans w b r) :
    Calls Tryd.prog 36 #[.slice a n capa, .slice b m capb] w fun e w' => ∃ v q, e = .returned v ∧ good q = true ∧ q.length ≤ 32 ∧ (∀ s, has q s = true → has l s = true ∧ has r s = true) ∧ Own w.heap.size w' v q ∧ Below w.heap.size w w' := by
  subst hn
  subst hm
  go_enter Tryd.func36, Tryd.ntmps36
  go_wp2
  go_loopw [5, 6] (fun o i wr => ∃ j : Nat, j ≤ l.length ∧ i = .int .i64 j ∧ ∃ q : List Sp, good q = true ∧ q.length ≤ 32 * j ∧ (∀ s, has q s = true → has l s = true ∧ has r s = true) ∧ Own w.heap.size wr o q ∧ Below w.heap.size w wr) (fun _ i _ => l.length - (intOf i).toNat)
  case atStart => exact ⟨0, Nat.zero_le _, rfl, [], rfl, Nat.zero_le _, (fun s h => by cases h), Own.nil _ _, Below.refl _ _⟩
  case round =>
    obtain ⟨j, hj, rfl, q, hg, hql, hqh, hown, hL⟩ := hrel
    have HG := Lib.hid hg
    have HQ := Lib.hid hqh
    clear hg hqh
    by_cases hjl : j < l.length
    · go_wp2
      go_loopw [5, 7] (fun o i wr => ∃ k : Nat, k ≤ r.length ∧ i = .int .i64 k ∧ ∃ q : List Sp, good q = true ∧ q.length ≤ 32 * j + k ∧ (∀ s, has q s = true → has l s = true ∧ has r s = true) ∧ Own w.heap.size wr o q ∧ Below w.heap.size w wr) (fun _ i _ => r.length - (intOf i).toNat)
      case atStart => exact ⟨0, Nat.zero_le _, rfl, q, HG.out, hql, HQ.out, hown, hL⟩
      case round =>
        clear hown hL HG HQ hql
        obtain ⟨k, hk, rfl, q, hg, hql, hqh, hown, hL⟩ := hrel
        have HG := Lib.hid hg
        have HQ := Lib.hid hqh
        clear hg hqh
        obtain ⟨a3, cap3, rfl, hc3, hm3, hn3, R3⟩ := hown.read
        have hb3 := hL.size
        by_cases hkl : k < r.length
        · obtain ⟨b1, off1, rfl, hb1, c0, c1⟩ := (hz.below hL).at_ hjl
          obtain ⟨b2, off2, rfl, hb2, d0, d1⟩ := (hy.below hL).at_ hkl
          have H1 := Lib.hid (fun n => has_get (l := l) hjl (n := n))
          have H2 := Lib.hid (fun n => has_get (l := r) hkl (n := n))
          have g1 := good_get hgl hjl
          have g2 := good_get hgr hkl
          generalize l.getD j (0, 0) = c at *
          generalize r.getD k (0, 0) = d at *
          obtain ⟨x, y⟩ := c
          obtain ⟨u, v⟩ := d
          simp only at c0 c1 d0 d1 g1 g2
          obtain ⟨x0, xy, y1⟩ := g1
          obtain ⟨u0, uv, v1⟩ := g2
          have emax : (if x < u then u else x) = max x u := by split <;> omega
          have emin : (if v < y then v else y) = min y v := by split <;> omega
          have hj0 : (0 : Int) ≤ (j : Int) := by omega
          have hk0 : (0 : Int) ≤ (k : Int) := by omega
          have hj1 : (j : Int) < (l.length : Int) := by omega
          have hk1 : (k : Int) < (r.length : Int) := by omega
          have BX : Below w.heap.size w ((wr.alloc (.cells #[.int .u64 (max x u), .int .u64 (min y v)] 55)).drew) := Base.drew1 (hL.alloc hL.size _)
          have OX := (hown.alloc (.cells #[.int .u64 (max x u), .int .u64 (min y v)] 55)).drew
          have hrow : Spans ((wr.alloc (.cells #[.int .u64 (max x u), .int .u64 (min y v)] 55)).drew) a3 q := Row.alloc R3.row _
          by_cases hle : max x u ≤ min y v
          · have c2 := fun W hz => ref_add a3 q.length cap3 q (max x u, min y v) W rfl hc3 (by omega) hn3 HG.out (by simp only; omega) hle (by simp only; omega) hz
            simp only at c2
            have HA := Lib.hid (add_good (s := (max x u, min y v)) HG.out (by simp only; omega) hle (by unfold M; simp only; omega))
            have HN := add_len q (max x u, min y v)
            have HH := Lib.hid (show ∀ n, has (addS q (max x u, min y v)) n = true → has l n = true ∧ has r n = true by
              intro n hn
              rw [HA.out.2, Bool.or_eq_true] at hn
              rcases hn with hn | hn
              · exact HQ.out n hn
              · simp only [Bool.and_eq_true, decide_eq_true_eq] at hn
                exact ⟨H1.out n (by simp only; omega) (by simp only; omega), H2.out n (by simp only; omega) (by simp only; omega)⟩)
            have HA2 := Lib.hid HA.out.1
            clear HA
            generalize addS q (max x u, min y v) = q2 at *
            go_wp2
            go_region_held3 (fun w' => w'.cell? ⟨b1, off1 + j * 2, none⟩ = some (.int .u64 x) ∧ w'.cell? ⟨b1, off1 + j * 2 + 1, none⟩ = some (.int .u64 y) ∧ w'.cell? ⟨b2, off2 + k * 2, none⟩ = some (.int .u64 u) ∧ w'.cell? ⟨b2, off2 + k * 2 + 1, none⟩ = some (.int .u64 v)) (go_keep) (fail)
            all_goals go_wp2_with (go_at_call 50; (with_reducible refine (c2 _ hrow).mono ?_); rintro e w3 ⟨v3, rfl, o3, L3⟩)
            all_goals go_roundw
            all_goals first
              | (simp [intOf]; omega)
              | exact ⟨k + 1, by omega, by go_num, q2, HA2.out, by omega, HH.out, o3.mono (by have := BX.size; omega), Base.next BX L3⟩
          · go_wp2
            go_region_held3 (fun w' => w'.cell? ⟨b1, off1 + j * 2, none⟩ = some (.int .u64 x) ∧ w'.cell? ⟨b1, off1 + j * 2 + 1, none⟩ = some (.int .u64 y) ∧ w'.cell? ⟨b2, off2 + k * 2, none⟩ = some (.int .u64 u) ∧ w'.cell? ⟨b2, off2 + k * 2 + 1, none⟩ = some (.int .u64 v)) (go_keep) (fail)
            all_goals go_wp2
            all_goals go_roundw
            all_goals first
              | (simp [intOf]; omega)
              | exact ⟨k + 1, by omega, by go_num, q, HG.out, by omega, HQ.out, OX, BX⟩
        · obtain rfl : k = r.length := by omega
          go_wp2
          go_roundw
          case rel => exact ⟨j + 1, by omega, by go_num, q, HG.out, by omega, HQ.out, hown, hL⟩
          case measure => simp [intOf]; omega
    · obtain rfl : j = l.length := by omega
      obtain ⟨a3, cap3, rfl, hc3, hm3, hn3, R3⟩ := hown.read
      have endc := fun W hz => ref_last a3 q.length cap3 q 32 W rfl hc3 (by omega) hz
      have hrow : Spans wr a3 q := R3.row
      have hb3 := hL.size
      have HGL := Lib.hid (last_good HG.out 32)
      have HLL := Lib.hid (last_len q 32)
      have HLH := Lib.hid (fun n => last_has (l := q) (m := 32) (n := n))
      go_wp2_with (go_at_call 51; (with_reducible refine (endc _ hrow).mono ?_); rintro e w3 ⟨v3, rfl, o3, L3⟩)
      go_ret
      exact ⟨_, _, rfl, HGL.out, HLL.out, fun s hs => HQ.out s (HLH.out s hs), o3.mono hb3, Base.next hL L3⟩
end Go.Proofs.YtangljeceohdpaaDoor.Law0
