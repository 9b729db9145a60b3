/-
  Several texts in one: JoinPlain, ProofMore.
-/
import Derived.Test.YtkiloaebokkjbaaGreatM6
import Derived.Test.YtkiloaebokkjbaaGreatFoldPlain
/-
  The sums of two rows that have nothing in common: plain facts.
-/
set_option linter.unusedSimpArgs false
set_option linter.unusedVariables false
namespace Go.Proofs.YtkiloaebokkjbaaGreat.LedPlain
set_option linter.unusedVariables false
open Go.Proofs.YtkiloaebokkjbaaGreat.SpanPlain
open Go.Proofs.YtkiloaebokkjbaaGreat.AckPlain (K)

theorem xr_is (x y : Int) : xr x y = FoldPlain.xr x y := rfl
def W64' (x : Int) : Prop := 0 ≤ x ∧ x ≤ 18446744073709551615
theorem xr_w {x y : Int} (hx : W64' x) (hy : W64' y) : W64' (xr x y) := FoldPlain.xr_bd hx.1 hx.2 hy.1 hy.2
theorem xr_lo {x y n : Int} (hx : W64' x) (hy : W64' y) (hn : W64' n) : xr (xr x y) n = xr (xr x n) y := by
  simp only [xr_is]
  rw [FoldPlain.xr_assoc hx.1 hx.2 hy.1 hy.2 hn.1 hn.2, FoldPlain.xr_comm hy.1 hy.2 hn.1 hn.2, ← FoldPlain.xr_assoc hx.1 hx.2 hn.1 hn.2 hy.1 hy.2]
theorem xr_hi {x y n : Int} (hx : W64' x) (hy : W64' y) (hn : W64' n) : xr (xr x y) n = xr x (xr y n) := by
  simp only [xr_is]
  rw [FoldPlain.xr_assoc hx.1 hx.2 hy.1 hy.2 hn.1 hn.2]
theorem sumT_in {c m : List Sp} {s : Sn} {t : List Sn} (h : has c s.pn = true) (h4 : s.state ≠ 4) (x : Int) (o : Bool) : sumT c m (s :: t) x o = sumT c m t (xr x s.nonce) (if (s.coin && !has m s.pn) = true then !o else o) := by
  rw [sumT, if_neg (by rw [h]; decide), if_neg h4]
theorem sumT_out {c m : List Sp} {s : Sn} {t : List Sn} (h : has c s.pn = false) (x : Int) (o : Bool) : sumT c m (s :: t) x o = sumT c m t x o := by
  rw [sumT, if_pos h]
theorem sumT_join {c l h m : List Sp} {at0 : Int} (hl : ∀ n, has l n = (has c n && decide (n < at0))) (hh : ∀ n, has h n = (has c n && decide (at0 ≤ n))) : ∀ (t : List Sn) (x1 x2 : Int) (o1 o2 : Bool), W64' x1 → W64' x2 → (∀ s ∈ t, W64' s.nonce) → (∀ s ∈ t, has c s.pn = true → s.state ≠ 4) →
    (sumT c m t (xr x1 x2) (o1 != o2)).1 = xr (sumT l m t x1 o1).1 (sumT h m t x2 o2).1 ∧ (sumT c m t (xr x1 x2) (o1 != o2)).2.1 = ((sumT l m t x1 o1).2.1 != (sumT h m t x2 o2).2.1)
  | [], x1, x2, o1, o2, _, _, _, _ => ⟨rfl, rfl⟩
  | s :: t, x1, x2, o1, o2, h1, h2, hn, hs => by
    have hn' : ∀ y ∈ t, W64' y.nonce := fun y hy => hn y (by simp [hy])
    have hs' : ∀ y ∈ t, has c y.pn = true → y.state ≠ 4 := fun y hy => hs y (by simp [hy])
    have w := hn s (by simp)
    by_cases hc : has c s.pn = true
    · have h4 := hs s (by simp) hc
      rw [sumT_in hc h4]
      by_cases ha : s.pn < at0
      · have e1 : has l s.pn = true := by rw [hl, hc, decide_eq_true ha]; rfl
        have e2 : has h s.pn = false := by rw [hh, decide_eq_false (by omega), Bool.and_false]
        rw [sumT_in e1 h4, sumT_out e2, xr_lo h1 h2 w]
        have eo : (if (s.coin && !has m s.pn) = true then !(o1 != o2) else (o1 != o2)) = ((if (s.coin && !has m s.pn) = true then !o1 else o1) != o2) := by
          cases (s.coin && !has m s.pn) <;> cases o1 <;> cases o2 <;> rfl
        rw [eo]
        exact sumT_join hl hh t _ _ _ _ (xr_w h1 w) h2 hn' hs'
      · have e1 : has l s.pn = false := by rw [hl, decide_eq_false ha, Bool.and_false]
        have e2 : has h s.pn = true := by rw [hh, hc, decide_eq_true (by omega)]; rfl
        rw [sumT_out e1, sumT_in e2 h4, xr_hi h1 h2 w]
        have eo : (if (s.coin && !has m s.pn) = true then !(o1 != o2) else (o1 != o2)) = (o1 != (if (s.coin && !has m s.pn) = true then !o2 else o2)) := by
          cases (s.coin && !has m s.pn) <;> cases o1 <;> cases o2 <;> rfl
        rw [eo]
        exact sumT_join hl hh t _ _ _ _ h1 (xr_w h2 w) hn' hs'
    · have hc' : has c s.pn = false := by simpa using hc
      rw [sumT_out hc', sumT_out (by rw [hl, hc', Bool.false_and]), sumT_out (by rw [hh, hc', Bool.false_and])]
      exact sumT_join hl hh t _ _ _ _ h1 h2 hn' hs'
/-- Of claims of kept numbers each part is one. -/
theorem Fine.sub {g : Lg} {c m l : List Sp} (h : Fine g c m) (hl : good l = true) (hi : ∀ n, has l n = true → has c n = true) : Fine g l m :=
  ⟨hl, h.gm, fun x hx => h.lin x (hi x hx), fun s hs hx => h.live s hs (hi _ hx)⟩
theorem Fine.join {g : Lg} (hok : Ok g) {c m l h : List Sp} {at0 : Int} (hf : Fine g c m) (hgl : good l = true) (hgh : good h = true) (hl : ∀ n, has l n = (has c n && decide (n < at0))) (hh : ∀ n, has h n = (has c n && decide (at0 ≤ n))) :
    (sumG g c m).1 = xr (sumG g l m).1 (sumG g h m).1 ∧ (sumG g c m).2.1 = ((sumG g l m).2.1 != (sumG g h m).2.1) ∧ (sumG g c m).2.2 = true ∧ (sumG g l m).2.2 = true ∧ (sumG g h m).2.2 = true := by
  have f1 := hf.sub hgl fun n hn => by rw [hl] at hn; exact (Bool.and_eq_true_iff.1 hn).1
  have f2 := hf.sub hgh fun n hn => by rw [hh] at hn; exact (Bool.and_eq_true_iff.1 hn).1
  have hw : ∀ s ∈ allS g, W64' s.nonce := fun s hs => by
    obtain ⟨i, i1, i2, _, e2, hw⟩ := all_get hok hs
    unfold Words at hw
    unfold W64'
    omega
  have hj := sumT_join (m := m) hl hh (allS g) 0 0 false false ⟨by decide, by decide⟩ ⟨by decide, by decide⟩ hw hf.live
  have e0 : xr 0 0 = 0 := by decide
  rw [e0] at hj
  refine ⟨?_, ?_, hf.is, f1.is, f2.is⟩
  · rw [hf.sum, f1.sum, f2.sum]
    exact hj.1
  · rw [hf.sum, f1.sum, f2.sum]
    exact hj.2
end Go.Proofs.YtkiloaebokkjbaaGreat.LedPlain

/-
  What the landed Sum and Check go by: the kept row, sums of beginnings, what is ahead. Plain.
-/
set_option linter.unusedSimpArgs false
set_option linter.unusedVariables false
namespace Go.Proofs.YtkiloaebokkjbaaGreat.LedPlain
set_option linter.unusedVariables false
open Go.Proofs.YtkiloaebokkjbaaGreat.SpanPlain
open Go.Proofs.YtkiloaebokkjbaaGreat.AckPlain (K)

/-- The row of the numbers that are kept. -/
def keptL (g : Lg) : List Sp := if lowN g = g.l.length then [] else [((lowN g : Int), (g.l.length : Int) - 1)]
theorem kept_good {g : Lg} (h : Ok g) : good (keptL g) = true := by
  unfold keptL
  split
  · rfl
  · have h1 := low_le g
    have h2 := h.n1
    have h3 := h.l1
    exact goodFrom_cons.2 ⟨by simp only; omega, by simp only; omega, by unfold M; simp only; omega, rfl⟩
theorem kept_inside {g : Lg} {cl : List Sp} (hg : good cl = true) : inside cl (keptL g) = (!belowB cl (lowN g) && !aboveB cl g.l.length) := by
  rcases Nat.eq_zero_or_pos cl.length with h0 | h0
  · obtain rfl := List.eq_nil_of_length_eq_zero h0
    rfl
  · have hb := below_first h0 (lowN g)
    have ha : aboveB cl g.l.length = decide ((g.l.length : Int) ≤ (cl.getD (cl.length - 1) (0, 0)).2) := by unfold aboveB; rw [decide_eq_true h0, Bool.true_and]
    have hlast : cl.getD (cl.length - 1) (0, 0) ∈ cl := by
      rw [List.getD_eq_getElem?_getD, List.getElem?_eq_getElem (by omega), Option.getD_some]
      exact List.getElem_mem _
    have hfirst : cl.getD 0 (0, 0) ∈ cl := by
      rw [List.getD_eq_getElem?_getD, List.getElem?_eq_getElem h0, Option.getD_some]
      exact List.getElem_mem _
    have hf : ∀ s ∈ cl, (cl.getD 0 (0, 0)).1 ≤ s.1 ∧ s.1 ≤ s.2 := fun s hs => by
      cases cl with
      | nil => cases hs
      | cons y t =>
        obtain ⟨g1, g2, g3, g4⟩ := goodFrom_cons.1 hg
        rw [List.getD_cons_zero]
        rcases List.mem_cons.1 hs with rfl | hs
        · exact ⟨Int.le_refl _, g2⟩
        · have := good_last g4 s hs
          omega
    have hl := fun s hs => last_far hg (s := s) hs
    rw [hb, ha, Bool.eq_iff_iff]
    unfold inside keptL
    rw [List.all_eq_true]
    by_cases e : lowN g = g.l.length
    · rw [if_pos e]
      have h1 := hf _ hfirst
      have h2 := hl _ hfirst
      simp only [List.any_nil, Bool.and_eq_true, Bool.not_eq_true', decide_eq_false_iff_not]
      constructor
      · intro h
        have := h _ hfirst
        cases this
      · rintro ⟨a1, a2⟩
        omega
    · rw [if_neg e]
      simp only [List.any_cons, List.any_nil, Bool.or_false, Bool.and_eq_true, Bool.not_eq_true', decide_eq_false_iff_not, decide_eq_true_eq]
      constructor
      · intro h
        have h1 := h _ hfirst
        have h2 := h _ hlast
        omega
      · rintro ⟨a1, a2⟩ s hs
        have h1 := hf s hs
        have h2 := hl s hs
        omega
/-- What lies in the kept row, and what doesn't. -/
theorem sum_out {g : Lg} {cl mk : List Sp} (hok : Ok g) (h : (good cl && good (keptL g) && inside cl (keptL g)) = false) : sumG g cl mk = (0, false, false) := by
  rw [kept_good hok, Bool.and_true] at h
  unfold sumG
  cases hg : good cl with
  | false => rfl
  | true =>
    rw [hg, kept_inside hg, Bool.true_and] at h
    rw [if_neg (by decide)]
    split
    · rfl
    · split
      · rfl
      · rename_i h1
        split
        · rfl
        · rename_i h2
          have h1' : belowB cl (lowN g) = false := by simpa using h1
          have h2' : aboveB cl g.l.length = false := by simpa using h2
          rw [h1', h2'] at h
          cases h
theorem sum_in {g : Lg} {cl mk : List Sp} (hok : Ok g) (h : (good cl && good (keptL g) && inside cl (keptL g)) = true) (hm : good mk = true) :
    good cl = true ∧ (∀ x, has cl x = true → (lowN g : Int) ≤ x ∧ x < g.l.length) ∧ sumG g cl mk = sumT cl mk (allS g) 0 false := by
  simp only [Bool.and_eq_true] at h
  obtain ⟨⟨h1, h2⟩, h3⟩ := h
  have h4 := h3
  rw [kept_inside h1] at h4
  simp only [Bool.and_eq_true, Bool.not_eq_true'] at h4
  refine ⟨h1, fun x hx => ?_, ?_⟩
  · unfold has at hx
    rw [List.any_eq_true] at hx
    obtain ⟨s, hs, hx⟩ := hx
    unfold inside at h3
    have h5 := List.all_eq_true.1 h3 s hs
    rw [List.any_eq_true] at h5
    obtain ⟨t, ht, h6⟩ := h5
    simp only [Bool.and_eq_true, decide_eq_true_eq] at hx h6
    unfold keptL at ht
    split at ht
    · cases ht
    · obtain rfl := List.mem_singleton.1 ht
      simp only at h6
      omega
  · unfold sumG
    rw [if_neg (by rw [h1]; decide), if_neg (by rw [hm]; decide), if_neg (by rw [h4.1]; decide), if_neg (by rw [h4.2]; decide)]
theorem kept_len1 (g : Lg) : (keptL g).length ≤ 1 := by
  unfold keptL
  split
  · exact Nat.zero_le _
  · exact Nat.le_refl _
/-- The nonces of what is kept, and its coins but for those that are marked. -/
def nonces (l : List Sn) : List Int := l.map (·.nonce)
def coins (mk : List Sp) (l : List Sn) : List Bool := l.map fun s => s.coin && !has mk s.pn
theorem skip_sum {c m : List Sp} {n : Int} : ∀ (t : List Sn) (x : Int) (o : Bool), skipT c t = some n → sumT c m t x o = (0, false, false)
  | [], x, o, h => by cases h
  | s :: t, x, o, h => by
    rw [skipT] at h
    rw [sumT]
    by_cases h1 : s.state = 4 ∧ has c s.pn = true
    · rw [if_neg (by rw [h1.2]; decide), if_pos h1.1]
    · rw [if_neg h1] at h
      split
      · exact skip_sum t _ _ h
      · rename_i h2
        rw [if_neg (fun e => h1 ⟨e, by simpa using h2⟩)]
        exact skip_sum t _ _ h
theorem skip_live {c : List Sp} : ∀ (t : List Sn), skipT c t = none → ∀ s ∈ t, has c s.pn = true → s.state ≠ 4
  | [], _, s, hs, _ => by cases hs
  | y :: t, h, s, hs, hc => by
    rw [skipT] at h
    by_cases h1 : y.state = 4 ∧ has c y.pn = true
    · rw [if_pos h1] at h
      cases h
    · rw [if_neg h1] at h
      rcases List.mem_cons.1 hs with rfl | hs
      · exact fun e => h1 ⟨e, hc⟩
      · exact skip_live t h s hs hc
theorem sumT_live {c m : List Sp} : ∀ (t : List Sn) (x : Int) (o : Bool), (∀ s ∈ t, has c s.pn = true → s.state ≠ 4) →
    sumT c m t x o = (t.foldl (fun a s => if has c s.pn = true then xr a s.nonce else a) x, t.foldl (fun a s => if (has c s.pn && (s.coin && !has m s.pn)) = true then !a else a) o, true)
  | [], x, o, _ => rfl
  | s :: t, x, o, h => by
    have h' : ∀ y ∈ t, has c y.pn = true → y.state ≠ 4 := fun y hy => h y (by simp [hy])
    rw [List.foldl_cons, List.foldl_cons]
    cases hc : has c s.pn with
    | false =>
      rw [sumT_out hc, sumT_live t x o h']
      simp
    | true =>
      rw [sumT_in hc (h s (by simp) hc), sumT_live t _ _ h']
      simp
theorem all_at {g : Lg} (h : Ok g) {k : Nat} (hk : k < (allS g).length) : ((allS g).getD k Z8).pn = (lowN g : Int) + k ∧ Words ((allS g).getD k Z8) := by
  have e : (allS g).getD k Z8 = atN g (lowN g + k) := by unfold allS atN; simp [List.getD]
  have hk' : lowN g + k < g.l.length := by unfold allS at hk; rw [List.length_drop] at hk; omega
  obtain ⟨e1, e2, _⟩ := h.each _ hk'
  rw [e]
  exact ⟨by rw [e1]; omega, e2⟩
theorem nonces_w {g : Lg} (h : Ok g) : FoldPlain.W64 (nonces (allS g)) := fun x hx => by
  obtain ⟨s, hs, rfl⟩ := List.mem_map.1 hx
  obtain ⟨i, i1, i2, _, e2, hw⟩ := all_get h hs
  unfold Words at hw
  omega
/-- One span's numbers: what they come to. -/
theorem one_upto {g : Lg} (h : Ok g) (mk : List Sp) {s : Sp} {f e : Nat} (hs : s.1 = (lowN g : Int) + f) (he : s.2 + 1 = (lowN g : Int) + e) (hfe : f ≤ e) : ∀ k, k ≤ (allS g).length →
    ((allS g).take k).foldl (fun a y => if has [s] y.pn = true then xr a y.nonce else a) 0 = xr (FoldPlain.xs (nonces (allS g)) (min k f)) (FoldPlain.xs (nonces (allS g)) (min k e)) ∧
    ((allS g).take k).foldl (fun a y => if (has [s] y.pn && (y.coin && !has mk y.pn)) = true then !a else a) false = (FoldPlain.os (coins mk (allS g)) (min k f) != FoldPlain.os (coins mk (allS g)) (min k e))
  | 0, _ => by
    rw [Nat.zero_min, Nat.zero_min]
    exact ⟨show (0 : Int) = xr 0 0 by decide, rfl⟩
  | k + 1, hk => by
    obtain ⟨i1, i2⟩ := one_upto h mk hs he hfe k (by omega)
    obtain ⟨p1, p2⟩ := all_at h (k := k) (by omega)
    have hw := nonces_w h
    have hn : (nonces (allS g)).getD k 0 = ((allS g).getD k Z8).nonce := by
      unfold nonces
      simp only [List.getD_eq_getElem?_getD, List.getElem?_map, List.getElem?_eq_getElem (show k < (allS g).length by omega), Option.map_some, Option.getD_some]
    have hc : (coins mk (allS g)).getD k false = (((allS g).getD k Z8).coin && !has mk ((allS g).getD k Z8).pn) := by
      unfold coins
      simp only [List.getD_eq_getElem?_getD, List.getElem?_map, List.getElem?_eq_getElem (show k < (allS g).length by omega), Option.map_some, Option.getD_some]
    have nl : k < (nonces (allS g)).length := by unfold nonces; rw [List.length_map]; omega
    have cl : k < (coins mk (allS g)).length := by unfold coins; rw [List.length_map]; omega
    have e1 := FoldPlain.xs_succ nl
    have e2 := FoldPlain.os_succ cl
    have b0 := FoldPlain.xs_bd hw k
    have bf := FoldPlain.xs_bd hw f
    have bn := hw.get k
    rw [hn] at e1 bn
    rw [hc] at e2
    rw [FoldPlain.take_step (show k < (allS g).length by omega) Z8, List.foldl_append, List.foldl_append, i1, i2]
    simp only [List.foldl_cons, List.foldl_nil]
    have hh : has [s] ((allS g).getD k Z8).pn = (decide (f ≤ k) && decide (k < e)) := by
      rw [has_cons, has_nil, Bool.or_false, p1, Bool.eq_iff_iff]
      simp only [Bool.and_eq_true, decide_eq_true_eq]
      omega
    rw [hh]
    generalize (allS g).getD k Z8 = y at *
    simp only [xr_is]
    by_cases h1 : k < f
    · rw [decide_eq_false (by omega : ¬ f ≤ k), Bool.false_and, Bool.false_and, show min k f = k by omega, show min k e = k by omega, show min (k + 1) f = k + 1 by omega, show min (k + 1) e = k + 1 by omega]
      have b1 := FoldPlain.xs_bd hw (k + 1)
      rw [FoldPlain.xr_self b0.1 b0.2, FoldPlain.xr_self b1.1 b1.2]
      refine ⟨by simp, ?_⟩
      cases FoldPlain.os (coins mk (allS g)) k <;> cases FoldPlain.os (coins mk (allS g)) (k + 1) <;> rfl
    · by_cases h2 : k < e
      · rw [decide_eq_true (by omega : f ≤ k), decide_eq_true h2, show min k f = f by omega, show min k e = k by omega, show min (k + 1) f = f by omega, show min (k + 1) e = k + 1 by omega, e1, e2]
        refine ⟨?_, ?_⟩
        · rw [if_pos (show (true && true) = true from rfl)]
          exact FoldPlain.xr_assoc bf.1 bf.2 b0.1 b0.2 bn.1 bn.2
        · rw [Bool.true_and, Bool.true_and]
          generalize (y.coin && !has mk y.pn) = z
          cases FoldPlain.os (coins mk (allS g)) f <;> cases FoldPlain.os (coins mk (allS g)) k <;> cases z <;> rfl
      · rw [decide_eq_false h2, Bool.and_false, Bool.false_and, show min k f = f by omega, show min k e = e by omega, show min (k + 1) f = f by omega, show min (k + 1) e = e by omega]
        exact ⟨by simp, by simp⟩
/-- What one span is proved by: the sums of beginnings. -/
theorem one_sum {g : Lg} (h : Ok g) {mk : List Sp} {s : Sp} (hf : Fine g [s] mk) :
    (sumG g [s] mk).1 = FoldPlain.overV (FoldPlain.sums (nonces (allS g))) (s.1 - lowN g) (s.2 - lowN g + 1) ∧ (sumG g [s] mk).2.1 = FoldPlain.oddV (FoldPlain.odds (coins mk (allS g))) (s.1 - lowN g) (s.2 - lowN g + 1) := by
  have hle : s.1 ≤ s.2 := by have := (goodFrom_cons.1 hf.gl).2.1; exact this
  have h1 := hf.lin s.1 (has_iff.2 (.inl ⟨Int.le_refl _, hle⟩))
  have h2 := hf.lin s.2 (has_iff.2 (.inl ⟨hle, Int.le_refl _⟩))
  have hal : (allS g).length = g.l.length - lowN g := by unfold allS; rw [List.length_drop]
  obtain ⟨f, hf0⟩ : ∃ f : Nat, s.1 - lowN g = f := ⟨(s.1 - lowN g).toNat, by omega⟩
  obtain ⟨e, he0⟩ : ∃ e : Nat, s.2 - lowN g + 1 = e := ⟨(s.2 - lowN g + 1).toNat, by omega⟩
  have hu := one_upto h mk (s := s) (f := f) (e := e) (by omega) (by omega) (by omega) (allS g).length (Nat.le_refl _)
  rw [List.take_of_length_le (Nat.le_refl _), show min (allS g).length f = f by omega, show min (allS g).length e = e by omega] at hu
  have nl : (nonces (allS g)).length = (allS g).length := by unfold nonces; rw [List.length_map]
  have cl : (coins mk (allS g)).length = (allS g).length := by unfold coins; rw [List.length_map]
  rw [hf.sum, sumT_live _ _ _ hf.live, hf0, he0]
  refine ⟨hu.1.trans ?_, hu.2.trans ?_⟩
  · unfold FoldPlain.sums
    rw [FoldPlain.overV_at (by omega) (by rw [FoldPlain.pre_len]; omega), FoldPlain.pre_get (by omega), FoldPlain.pre_get (by omega)]
    rfl
  · unfold FoldPlain.odds
    rw [FoldPlain.oddV_at (by omega) (by rw [FoldPlain.opre_len]; omega), FoldPlain.opre_get (by omega), FoldPlain.opre_get (by omega)]
/-- .. one span more. -/
theorem more_sum {g : Lg} (h : Ok g) {cl mk : List Sp} (hf : Fine g cl mk) {k : Nat} (hk : k < cl.length) :
    (sumG g (cl.take (k + 1)) mk).1 = xr (sumG g (cl.take k) mk).1 (FoldPlain.overV (FoldPlain.sums (nonces (allS g))) ((cl.getD k (0, 0)).1 - lowN g) ((cl.getD k (0, 0)).2 - lowN g + 1)) ∧
    (sumG g (cl.take (k + 1)) mk).2.1 = ((sumG g (cl.take k) mk).2.1 != FoldPlain.oddV (FoldPlain.odds (coins mk (allS g))) ((cl.getD k (0, 0)).1 - lowN g) ((cl.getD k (0, 0)).2 - lowN g + 1)) := by
  have f1 : Fine g (cl.take (k + 1)) mk := hf.sub (goodFrom_of_take _ hf.gl) fun n hn => has_more _ n hn
  have hg := good_get hf.gl hk
  have hin : has cl (cl.getD k (0, 0)).1 = true := has_more (k + 1) _ (by rw [has_take hk, decide_eq_true (Int.le_refl _), decide_eq_true hg.2.1, Bool.true_and, Bool.or_true])
  have g1 : good [cl.getD k (0, 0)] = true := goodFrom_cons.2 ⟨hg.1, hg.2.1, by unfold M; exact hg.2.2, rfl⟩
  have hsub : ∀ n, has [cl.getD k (0, 0)] n = true → has cl n = true := fun n hn => has_more (k + 1) _ (by
    rw [has_take hk]
    rw [has_cons, has_nil, Bool.or_false] at hn
    rw [hn, Bool.or_true])
  have f2 : Fine g [cl.getD k (0, 0)] mk := hf.sub g1 hsub
  have hbefore : ∀ n, has (cl.take k) n = true → n < (cl.getD k (0, 0)).1 := fun n hn => by
    unfold has at hn
    rw [List.any_eq_true] at hn
    obtain ⟨t, ht, h2⟩ := hn
    obtain ⟨i, hi, rfl⟩ := List.mem_iff_getElem.1 ht
    rw [List.length_take] at hi
    have := good_rise hf.gl (i := i) (m := k) (by omega) hk
    rw [List.getD_eq_getElem?_getD, List.getElem?_eq_getElem (show i < cl.length by omega), Option.getD_some] at this
    rw [List.getElem_take] at h2
    simp only [Bool.and_eq_true, decide_eq_true_eq] at h2
    omega
  obtain ⟨j1, j2, _, _, _⟩ := Fine.join h (c := cl.take (k + 1)) (m := mk) (l := cl.take k) (h := [cl.getD k (0, 0)]) (at0 := (cl.getD k (0, 0)).1) f1 (goodFrom_of_take _ hf.gl) g1 (fun n => by
      rw [has_take hk]
      cases hn : has (cl.take k) n with
      | true => rw [decide_eq_true (hbefore n hn)]; rfl
      | false =>
        rw [Bool.false_or, Bool.eq_iff_iff]
        simp only [Bool.and_eq_true, decide_eq_true_eq, Bool.false_eq_true, false_iff]
        omega) (fun n => by
      rw [has_take hk, has_cons, has_nil, Bool.or_false, Bool.eq_iff_iff]
      simp only [Bool.and_eq_true, Bool.or_eq_true, decide_eq_true_eq]
      constructor
      · rintro ⟨a1, a2⟩
        exact ⟨.inr ⟨a1, a2⟩, a1⟩
      · rintro ⟨a1 | a1, a2⟩
        · have := hbefore n a1
          omega
        · exact a1)
  obtain ⟨o1, o2⟩ := one_sum h f2
  rw [o1] at j1
  rw [o2] at j2
  exact ⟨j1, j2⟩
theorem none_sum {g : Lg} {mk : List Sp} (hm : good mk = true) : sumG g [] mk = (0, false, true) := by
  have f : Fine g [] mk := ⟨rfl, hm, (fun x hx => by cases hx), (fun s hs hx => by cases hx)⟩
  have hd : ∀ (t : List Sn) (x : Int) (o : Bool), sumT [] mk t x o = (x, o, true) := fun t => by
    induction t with
    | nil => intro x o; rfl
    | cons s t ih => intro x o; rw [sumT_out rfl]; exact ih x o
  rw [f.sum, hd]
theorem from_cons (s : Sp) (t : List Sp) (lo : Int) : fromS (s :: t) lo = from1 lo s ++ fromS t lo := rfl
theorem ahead_is {nx : Int} : ∀ l : List Sp, aheadT nx l = (fromS l nx).head?.map (·.1)
  | [] => rfl
  | s :: t => by
    rw [aheadT, from_cons]
    unfold from1
    split
    · rfl
    · rw [List.nil_append]
      exact ahead_is t
theorem ahead_first {nx : Int} {l : List Sp} (h : 0 < (fromS l nx).length) : aheadT nx l = some ((fromS l nx).getD 0 (0, 0)).1 := by
  rw [ahead_is]
  cases e : fromS l nx with
  | nil => rw [e] at h; cases h
  | cons s t => rfl
theorem ahead_not {nx : Int} {l : List Sp} (h : (fromS l nx).length = 0) : aheadT nx l = none := by
  rw [ahead_is, List.eq_nil_of_length_eq_zero h]
  rfl
end Go.Proofs.YtkiloaebokkjbaaGreat.LedPlain
