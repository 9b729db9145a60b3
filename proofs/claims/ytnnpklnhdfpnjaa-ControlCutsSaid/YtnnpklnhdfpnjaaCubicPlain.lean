/-
  Windows as CUBIC grows and cuts them, as the document defines it. Plain.
-/
import Derived.Test.YtnnpklnhdfpnjaaRenoPlain
import Derived.Test.YtnnpklnhdfpnjaaRootPlain
set_option linter.unusedSimpArgs false
set_option linter.unusedVariables false
namespace Go.Proofs.Ytnnpklnhdfpnjaa.CubicPlain
set_option linter.unusedVariables false
open Go.Proofs.Ytnnpklnhdfpnjaa.RenoPlain Go.Proofs.Ytnnpklnhdfpnjaa.Root

/-- The integer cube root, by its bits. -/
def rootFrom : Nat → Int → Int → Int
  | 0, r, n => r
  | k + 1, r, n => if cub (r + 2 ^ k) ≤ n then rootFrom k (r + 2 ^ k) n else rootFrom k r n
def cbrt (n : Int) : Int := rootFrom 44 0 n
theorem rootFrom_is {n : Int} (n1 : n < 340282366920938463463374607431768211456) : ∀ (k : Nat) (r : Int), RootAt n r ((k : Int) - 1) → IsRoot n (rootFrom k r n)
  | 0, r, h => root_end (by omega) (by omega) n1 h
  | k + 1, r, h => by
    rw [show ((k + 1 : Nat) : Int) - 1 = (k : Int) by omega] at h
    rw [rootFrom]
    split
    · rename_i ht
      exact rootFrom_is n1 k _ (root_take (k := (k : Int)) (by omega) h (by rw [Int.toNat_natCast]; exact ht))
    · rename_i ht
      exact rootFrom_is n1 k _ (root_leave (k := (k : Int)) (by omega) h (by rw [Int.toNat_natCast]; exact ht))
theorem cbrt_is {n : Int} (n0 : 0 ≤ n) (n1 : n < 340282366920938463463374607431768211456) : IsRoot n (cbrt n) := rootFrom_is n1 44 0 (root_start44 n0 n1)
def longC (peak cw mss : Int) : Int := if peak ≤ cw ∨ mss = 0 then 0 else cbrt ((peak - cw) * 2500000000000000000 / mss)
def atZ (d mss : Int) : Int := Wide.down (Wide.down (Wide.down d d 1000000) d 1000000) (Sat.mul 2 mss) 5000000
def atC (peak k t mss : Int) : Int := if k ≤ t then Sat.add peak (atZ (Sat.diff t k) mss) else Sat.sub peak (atZ (Sat.diff t k) mss)
def beginC (w : Wn) (mss now : Int) : Wn := if w.ep = 18446744073709551615 then { w with ep := now, fr := w.cw, k := longC w.pk w.cw mss, pk := max w.pk w.cw } else w
def aimC (w : Wn) (mss now smooth : Int) : Int := max w.cw (min (atC w.pk w.k (Sat.add (Sat.sub now w.ep) smooth) mss) (Wide.down w.cw 3 2))
def moreC (w : Wn) (acked mss : Int) : Int := if w.fr < w.pk then Wide.down (Wide.down mss acked w.cw) 9 17 else Wide.down mss acked w.cw
def fairC (w : Wn) (acked mss : Int) : Int := Sat.add w.fr (moreC w acked mss)
def riseC (w : Wn) (acked mss now smooth : Int) : Int := Sat.add w.cw (Wide.down (aimC w mss now smooth - w.cw) acked w.cw)
def goC (w : Wn) (acked mss now smooth : Int) : Wn := { w with cw := max (riseC w acked mss now smooth) (fairC w acked mss), fr := fairC w acked mss }
def growC (w : Wn) (acked mss now smooth : Int) : Wn :=
  if w.cw < w.th then slowW w acked mss
  else if (beginC w mss now).cw = 0 then beginC w mss now else goC (beginC w mss now) acked mss now smooth
def cutC (w : Wn) (num den : Int) : Wn := ⟨Wide.down w.cw num den, Wide.down w.cw num den, 0, if w.pk ≤ w.cw then w.cw else Wide.down w.cw 17 20, 18446744073709551615, 0, 0⟩

theorem down_mul {a b d : Int} (a0 : 0 ≤ a) (b0 : 0 ≤ b) (d0 : 0 < d) : Wide.down a b d * d ≤ a * b := by
  have m0 := Int.mul_nonneg a0 b0
  unfold Wide.down
  split
  · rename_i h
    have h1 : 18446744073709551615 * (a * b / 18446744073709551616) ≤ a * b := by omega
    have h2 : 18446744073709551615 * d ≤ 18446744073709551615 * (a * b / 18446744073709551616) := by omega
    omega
  · exact Int.ediv_mul_le _ (by omega)
theorem down_mono {a b c e d : Int} (a0 : 0 ≤ a) (b0 : 0 ≤ b) (h1 : a ≤ c) (h2 : b ≤ e) (d0 : 0 < d) : Wide.down a b d ≤ Wide.down c e d := by
  have m0 := Int.mul_nonneg a0 b0
  have m1 : a * b ≤ c * e := Int.mul_le_mul h1 h2 b0 (by omega)
  have h3 : a * b / d ≤ c * e / d := Int.ediv_le_ediv d0 m1
  unfold Wide.down
  split
  · rw [if_pos (by omega)]
    exact Int.le_refl _
  · rename_i h
    split
    · have := down_bd (a := a) (b := b) (d := d) a0 b0 (by omega)
      unfold Wide.down at this
      rw [if_neg h] at this
      exact this.2
    · exact h3
theorem down_le {a b d q : Int} (a0 : 0 ≤ a) (b0 : 0 ≤ b) (d0 : 0 < d) (h : a * b ≤ q * d) : Wide.down a b d ≤ q := by
  have h1 := down_mul a0 b0 d0
  exact Int.le_of_mul_le_mul_right (Int.le_trans h1 h) d0
theorem down_zero {b d : Int} (d0 : 0 < d) : Wide.down 0 b d = 0 := by
  unfold Wide.down
  rw [Int.zero_mul, Int.zero_ediv, Int.zero_ediv, if_neg (by omega)]
theorem longC_bd {peak cw mss : Int} (hp : U peak) (hc : U cw) (hm : U mss) : U (longC peak cw mss) := by
  unfold longC
  split
  · exact ⟨by decide, by decide⟩
  · rename_i h
    unfold U at *
    have h0 : 0 < mss := by omega
    have h1 : 0 ≤ (peak - cw) * 2500000000000000000 := by omega
    have h2 := Int.ediv_nonneg h1 hm.1
    have h3 : (peak - cw) * 2500000000000000000 / mss ≤ (peak - cw) * 2500000000000000000 := Int.ediv_le_self _ h1
    have h4 := cbrt_is (n := (peak - cw) * 2500000000000000000 / mss) h2 (by omega)
    unfold IsRoot at h4
    omega
theorem atZ_bd {d mss : Int} (hd : U d) (hm : U mss) : U (atZ d mss) := by
  have h1 := down_bd hd.1 hd.1 (d := 1000000) (by decide)
  have h2 := down_bd h1.1 hd.1 (d := 1000000) (by decide)
  exact down_bd h2.1 (mul_bd (by decide) hm.1).1 (by decide)
theorem atC_bd {peak k t mss : Int} (hp : U peak) (hk : U k) (ht : U t) (hm : U mss) : U (atC peak k t mss) := by
  have h1 := Sat.diff_bd ht.1 hk.1 ht.2 hk.2
  have h2 := atZ_bd (d := Sat.diff t k) h1 hm
  unfold atC
  split
  · exact Sat.add_bd hp.1 h2.1
  · exact Sat.sub_bd h2.1 hp.2
theorem fit_begin {w : Wn} (h : WFit w) {mss now : Int} (m : U mss) (n : U now) : WFit (beginC w mss now) := by
  unfold beginC
  split
  · have h1 := h.pk
    have h2 := h.cw
    exact { h with ep := n, fr := h.cw, k := longC_bd h.pk h.cw m, pk := (show U (max w.pk w.cw) by unfold U at *; omega) }
  · exact h
theorem aimC_bd {w : Wn} (h : WFit w) {mss now smooth : Int} (m : U mss) (n : U now) (s : U smooth) : w.cw ≤ aimC w mss now smooth ∧ U (aimC w mss now smooth) := by
  have h1 := Sat.sub_bd (a := now) (b := w.ep) h.ep.1 n.2
  have h2 := Sat.add_bd h1.1 s.1
  have h3 := atC_bd (t := Sat.add (Sat.sub now w.ep) smooth) h.pk h.k h2 m
  have h4 := down_bd (a := w.cw) (b := 3) (d := 2) h.cw.1 (by decide) (by decide)
  have h5 := h.cw
  unfold aimC
  generalize atC w.pk w.k (Sat.add (Sat.sub now w.ep) smooth) mss = x at *
  generalize Wide.down w.cw 3 2 = y at *
  unfold U at *
  omega
theorem moreC_bd {w : Wn} (h : WFit w) {acked mss : Int} (a : U acked) (m : U mss) : U (moreC w acked mss) := by
  have h1 := down_bd (a := mss) (b := acked) (d := w.cw) m.1 a.1 h.cw.1
  unfold moreC
  split
  · exact down_bd h1.1 (by decide) (by decide)
  · exact h1
theorem fairC_bd {w : Wn} (h : WFit w) {acked mss : Int} (a : U acked) (m : U mss) : U (fairC w acked mss) := Sat.add_bd h.fr.1 (moreC_bd h a m).1
theorem riseC_bd {w : Wn} (h : WFit w) {acked mss now smooth : Int} (a : U acked) (m : U mss) (n : U now) (s : U smooth) : U (riseC w acked mss now smooth) := by
  have h1 := aimC_bd h m n s
  exact Sat.add_bd h.cw.1 (down_bd (by omega) a.1 h.cw.1).1
theorem fit_go {w : Wn} (h : WFit w) {acked mss now smooth : Int} (a : U acked) (m : U mss) (n : U now) (s : U smooth) : WFit (goC w acked mss now smooth) := by
  have h1 := fairC_bd h a m
  have h2 := riseC_bd h a m n s
  exact { h with cw := (show U (max (riseC w acked mss now smooth) (fairC w acked mss)) by unfold U at *; omega), fr := h1 }
theorem fit_growC {w : Wn} (h : WFit w) {acked mss now smooth : Int} (a : U acked) (m : U mss) (n : U now) (s : U smooth) : WFit (growC w acked mss now smooth) := by
  unfold growC
  split
  · exact fit_slow h a m
  · split
    · exact fit_begin h m n
    · exact fit_go (fit_begin h m n) a m n s
theorem fit_cutC {w : Wn} (h : WFit w) {num den : Int} (a : U num) (m : U den) : WFit (cutC w num den) := by
  have h1 := down_bd h.cw.1 a.1 m.1
  have h2 := down_bd (a := w.cw) (b := 17) (d := 20) h.cw.1 (by decide) (by decide)
  have z : U 0 := ⟨by decide, by decide⟩
  refine ⟨h1, h1, z, ?_, (show U 18446744073709551615 from ⟨by decide, by decide⟩), z, z⟩
  unfold cutC
  simp only
  split
  · exact h.cw
  · exact h2

/-! What stage 22's laws ask of At. -/
theorem atZ_zero (mss : Int) : atZ 0 mss = 0 := by
  unfold atZ
  rw [down_zero (by decide), down_zero (by decide), down_zero (by decide)]
theorem atZ_mono {d e mss : Int} (d0 : 0 ≤ d) (h : d ≤ e) (m0 : 0 ≤ mss) : atZ d mss ≤ atZ e mss := by
  have h1 := down_mono d0 d0 h h (d := 1000000) (by decide)
  have h2 := (down_bd d0 d0 (d := 1000000) (by decide)).1
  have h3 := down_mono h2 d0 h1 h (d := 1000000) (by decide)
  have h4 := (down_bd h2 d0 (d := 1000000) (by decide)).1
  exact down_mono h4 (mul_bd (by decide) m0).1 h3 (Int.le_refl _) (by decide)
theorem at_peak {peak k mss : Int} (hp : U peak) : atC peak k k mss = peak := by
  unfold atC Sat.diff
  rw [if_pos (Int.le_refl _), if_neg (by omega), Int.sub_self, atZ_zero]
  unfold Sat.add U at *
  rw [if_pos (by omega)]
  omega
theorem at_hi {peak k t mss : Int} (hp : U peak) (h : k ≤ t) (hk : U k) (ht : U t) (hm : U mss) : peak ≤ atC peak k t mss := by
  have h1 := Sat.diff_bd ht.1 hk.1 ht.2 hk.2
  have h2 := atZ_bd (d := Sat.diff t k) h1 hm
  unfold atC
  rw [if_pos h]
  unfold Sat.add U at *
  split <;> omega
theorem at_lo {peak k t mss : Int} (hp : U peak) (h : t ≤ k) (hk : U k) (ht : U t) (hm : U mss) : atC peak k t mss ≤ peak := by
  by_cases e : t = k
  · rw [e, at_peak hp]
    exact Int.le_refl _
  · have h1 := Sat.diff_bd ht.1 hk.1 ht.2 hk.2
    have h2 := atZ_bd (d := Sat.diff t k) h1 hm
    unfold atC
    rw [if_neg (by omega)]
    unfold Sat.sub U at *
    split <;> omega
theorem at_rises {peak k t u mss : Int} (hp : U peak) (hk : U k) (ht : U t) (hu : U u) (hm : U mss) (h : t ≤ u) : atC peak k t mss ≤ atC peak k u mss := by
  by_cases h1 : k ≤ t
  · have d1 := Sat.diff_bd ht.1 hk.1 ht.2 hk.2
    have hz := atZ_mono (d := Sat.diff t k) (e := Sat.diff u k) d1.1 (by unfold Sat.diff; rw [if_neg (by omega), if_neg (by omega)]; omega) hm.1
    unfold atC
    rw [if_pos h1, if_pos (by omega)]
    unfold Sat.add
    split <;> split <;> omega
  · by_cases h2 : k ≤ u
    · exact Int.le_trans (at_lo hp (by omega) hk ht hm) (at_hi hp h2 hk hu hm)
    · have d1 := Sat.diff_bd hu.1 hk.1 hu.2 hk.2
      have hz := atZ_mono (d := Sat.diff u k) (e := Sat.diff t k) d1.1 (by unfold Sat.diff; rw [if_pos (by omega), if_pos (by omega)]; omega) hm.1
      unfold atC
      rw [if_neg h1, if_neg h2]
      unfold Sat.sub
      split <;> split <;> omega
/-- The distance to the peak at the time of Long is no more than what was cut. -/
theorem back_z {p c m : Int} (c0 : 0 ≤ c) (h : c < p) (p1 : p ≤ 18446744073709551615) (m0 : 1 ≤ m) (m1 : m ≤ 1000000) : atZ (longC p c m) m ≤ p - c := by
  have hm : longC p c m = cbrt ((p - c) * 2500000000000000000 / m) := by unfold longC; rw [if_neg (by omega)]
  have hX : 0 ≤ (p - c) * 2500000000000000000 := by omega
  have hq := Int.ediv_nonneg hX (show 0 ≤ m by omega)
  have hq1 : (p - c) * 2500000000000000000 / m ≤ (p - c) * 2500000000000000000 := Int.ediv_le_self _ hX
  have hr := cbrt_is (n := (p - c) * 2500000000000000000 / m) hq (by omega)
  have hqm : (p - c) * 2500000000000000000 / m * m ≤ (p - c) * 2500000000000000000 := Int.ediv_mul_le _ (by omega)
  rw [← hm] at hr
  generalize longC p c m = k at *
  generalize (p - c) * 2500000000000000000 / m = n at *
  obtain ⟨k0, k1, k2, -⟩ := hr
  unfold cub at k2
  have x1 := down_mul k0 k0 (d := 1000000) (by decide)
  have x0 := (down_bd k0 k0 (d := 1000000) (by decide)).1
  have y1 := down_mul x0 k0 (d := 1000000) (by decide)
  have y0 := (down_bd x0 k0 (d := 1000000) (by decide)).1
  unfold atZ
  generalize Wide.down k k 1000000 = x at *
  generalize Wide.down x k 1000000 = y at *
  have e2 : Sat.mul 2 m = 2 * m := Sat.mul_fits (by omega)
  rw [e2]
  refine down_le y0 (by omega) (by decide) ?_
  -- y * 10^12 <= k * k * k <= n, n * m <= (p - c) * 25 * 10^17
  have s1 : x * 1000000 * k ≤ k * k * k := Int.mul_le_mul_of_nonneg_right x1 k0
  have s2 : y * 1000000000000 ≤ k * k * k := by
    have : x * 1000000 * k = x * k * 1000000 := by rw [Int.mul_assoc, Int.mul_comm 1000000 k, ← Int.mul_assoc]
    omega
  have s3 : y * 1000000000000 * m ≤ n * m := Int.mul_le_mul_of_nonneg_right (by omega) (by omega)
  have s4 : y * 1000000000000 * m = y * m * 1000000000000 := by rw [Int.mul_assoc, Int.mul_comm 1000000000000 m, ← Int.mul_assoc]
  have s5 : y * (2 * m) = y * m * 2 := by rw [Int.mul_comm 2 m, ← Int.mul_assoc]
  rw [s5]
  omega
theorem back_is {p c m : Int} (c0 : 0 ≤ c) (h : c ≤ p) (p1 : p ≤ 18446744073709551615) (m0 : 1 ≤ m) (m1 : m ≤ 1000000) :
    c ≤ atC p (longC p c m) 0 m ∧ atC p (longC p c m) 0 m ≤ p ∧ (p ≤ c → longC p c m = 0) := by
  have hp : U p := ⟨by omega, p1⟩
  have hc : U c := ⟨c0, by omega⟩
  have hm : U m := ⟨by omega, by omega⟩
  have hk := longC_bd hp hc hm
  have z : U 0 := ⟨by decide, by decide⟩
  refine ⟨?_, at_lo hp hk.1 hk z hm, fun e => by unfold longC; rw [if_pos (.inl e)]⟩
  by_cases hlt : c < p
  · have hz := back_z c0 hlt p1 m0 m1
    have hz0 := (atZ_bd (d := longC p c m) hk hm).1
    by_cases h0 : longC p c m ≤ 0
    · have e0 : longC p c m = 0 := by unfold U at hk; omega
      rw [e0, at_peak hp]
      exact h
    · unfold atC Sat.diff
      rw [if_neg h0, if_pos (by omega), Int.sub_zero]
      unfold Sat.sub
      rw [if_neg (by omega)]
      omega
  · have e : longC p c m = 0 := by unfold longC; rw [if_pos (.inl (by omega))]
    rw [e, at_peak hp]
    exact h
/-! What a step comes to. -/
theorem aim_up {w : Wn} (h : WFit w) {mss now smooth : Int} (m : U mss) (n : U now) (s : U smooth) : 0 ≤ aimC w mss now smooth - w.cw ∧ (aimC w mss now smooth - w.cw) * 2 ≤ w.cw := by
  have h1 := aimC_bd h m n s
  have h2 := down_mul (a := w.cw) (b := 3) (d := 2) h.cw.1 (by decide) (by decide)
  have h3 := h.cw.1
  refine ⟨by omega, ?_⟩
  unfold aimC
  omega
theorem rise_le {w : Wn} (h : WFit w) (hc : 0 < w.cw) {acked mss now smooth : Int} (a : U acked) (m : U mss) (n : U now) (s : U smooth) : Wide.down (aimC w mss now smooth - w.cw) acked w.cw ≤ acked / 2 := by
  obtain ⟨h1, h2⟩ := aim_up h m n s
  have h3 := down_mul (a := aimC w mss now smooth - w.cw) (b := acked) (d := w.cw) h1 a.1 hc
  generalize aimC w mss now smooth - w.cw = x at *
  generalize Wide.down x acked w.cw = y at *
  have h4 : x * 2 * acked ≤ w.cw * acked := Int.mul_le_mul_of_nonneg_right h2 a.1
  have h5 : x * 2 * acked = x * acked * 2 := by rw [Int.mul_assoc, Int.mul_comm 2 acked, ← Int.mul_assoc]
  have h6 : y * 2 * w.cw ≤ acked * w.cw := by
    have e1 : y * 2 * w.cw = y * w.cw * 2 := by rw [Int.mul_assoc, Int.mul_comm 2 w.cw, ← Int.mul_assoc]
    have e2 : w.cw * acked = acked * w.cw := Int.mul_comm _ _
    omega
  have h7 := Int.le_of_mul_le_mul_right h6 hc
  omega
theorem more_le {w : Wn} (h : WFit w) (hc : 0 < w.cw) {acked mss : Int} (a : U acked) (m : U mss) (q : Int) (q0 : 0 ≤ q) (hq : mss * acked ≤ q * w.cw) : moreC w acked mss ≤ q := by
  have h1 := down_le m.1 a.1 hc hq
  have h0 := (down_bd (a := mss) (b := acked) (d := w.cw) m.1 a.1 h.cw.1).1
  unfold moreC
  split
  · refine down_le h0 (by decide) (by decide) ?_
    omega
  · exact h1
theorem begin_same (w : Wn) (mss now : Int) : (beginC w mss now).cw = w.cw ∧ (beginC w mss now).th = w.th ∧ (beginC w mss now).ac = w.ac ∧ ((beginC w mss now).fr = w.fr ∨ (beginC w mss now).fr = w.cw) := by
  unfold beginC
  split
  · exact ⟨rfl, rfl, rfl, .inr rfl⟩
  · exact ⟨rfl, rfl, rfl, .inl rfl⟩
theorem holds {w : Wn} (h : WFit w) (c1 : 1 ≤ w.cw) (c2 : w.cw ≤ 1073741824) (f2 : w.fr < 1073741824) (ht : ¬ w.cw < w.th) {acked mss now smooth : Int} (a0 : 0 ≤ acked) (a1 : acked ≤ 4294967295) (m0 : 0 ≤ mss) (m1 : mss ≤ 65535) (n : U now) (s : U smooth) :
    w.cw ≤ (growC w acked mss now smooth).cw ∧ ((growC w acked mss now smooth).cw ≤ w.cw + acked / 2 ∨ (growC w acked mss now smooth).cw = (growC w acked mss now smooth).fr) ∧ (growC w acked mss now smooth).fr ≤ max w.fr w.cw + Sat.mul mss acked ∧ (growC w acked mss now smooth).th = w.th ∧ (growC w acked mss now smooth).ac = w.ac := by
  have a : U acked := ⟨a0, by omega⟩
  have m : U mss := ⟨m0, by omega⟩
  have hb := fit_begin h m n
  obtain ⟨b1, b2, b3, b4⟩ := begin_same w mss now
  have e : growC w acked mss now smooth = goC (beginC w mss now) acked mss now smooth := by unfold growC; rw [if_neg ht, if_neg (by omega)]
  rw [e]
  generalize beginC w mss now = v at *
  have hr := rise_le hb (by omega) a m n s
  have hr0 := (down_bd (a := aimC v mss now smooth - v.cw) (b := acked) (d := v.cw) (aim_up hb m n s).1 a0 hb.cw.1).1
  have hma : 0 ≤ mss * acked := Int.mul_nonneg m0 a0
  have hma2 : mss * acked ≤ 65535 * 4294967295 := Int.mul_le_mul m1 a1 a0 (by decide)
  have hmm : Sat.mul mss acked = mss * acked := Sat.mul_fits (by omega)
  have hcw : mss * acked * 1 ≤ mss * acked * v.cw := Int.mul_le_mul_of_nonneg_left (by omega) hma
  have hmo := more_le hb (by omega) a m (mss * acked) hma (by omega)
  have hmo0 := (moreC_bd hb a m).1
  rw [hmm]
  unfold goC riseC fairC
  simp only
  generalize Wide.down (aimC v mss now smooth - v.cw) acked v.cw = r at *
  generalize moreC v acked mss = q at *
  have hf0 := hb.fr.1
  generalize mss * acked = ma at *
  have e1 : Sat.add v.cw r = v.cw + r := by unfold Sat.add; rw [if_pos (by omega)]
  have e2 : Sat.add v.fr q = v.fr + q := by unfold Sat.add; rw [if_pos (by omega)]
  rw [e1, e2]
  omega
/-- What a play keeps: at least a packet, no more than what it began with and all that was acknowledged. -/
structure Plays (w : Wn) (m most : Int) : Prop where
  fit : WFit w
  least : m ≤ w.cw
  cw : w.cw ≤ most
  fr : w.fr ≤ most
theorem Plays.grow {w : Wn} {m most acked now smooth : Int} (h : Plays w m most) (m0 : 1 ≤ m) (m1 : m ≤ 65535) (hm : most ≤ 1000000000) (a0 : 0 ≤ acked) (a1 : acked ≤ 65535) (n : U now) (s : U smooth) : Plays (growC w acked m now smooth) m (most + acked) ∧ w.cw ≤ (growC w acked m now smooth).cw := by
  obtain ⟨fit, hl, hc, hf⟩ := h
  have a : U acked := ⟨a0, by omega⟩
  have mm : U m := ⟨by omega, by omega⟩
  have hfit := fit_growC fit a mm n s
  by_cases ht : w.cw < w.th
  · have e : growC w acked m now smooth = slowW w acked m := by unfold growC; rw [if_pos ht]
    rw [e] at hfit ⊢
    have h2 := (mul_bd (show (0 : Int) ≤ 2 by decide) mm.1).1
    have ec : (slowW w acked m).cw = w.cw + min acked (Sat.mul 2 m) := by
      unfold slowW Sat.add
      simp only
      rw [if_pos (by omega)]
    have ef : (slowW w acked m).fr = w.fr := rfl
    exact ⟨⟨hfit, by omega, by omega, by omega⟩, by omega⟩
  · have hb := fit_begin fit mm n
    obtain ⟨b1, b2, b3, b4⟩ := begin_same w m now
    have e : growC w acked m now smooth = goC (beginC w m now) acked m now smooth := by unfold growC; rw [if_neg ht, if_neg (by omega)]
    rw [e] at hfit ⊢
    generalize beginC w m now = v at *
    have hr := rise_le hb (by omega) a mm n s
    have hr0 := (down_bd (a := aimC v m now smooth - v.cw) (b := acked) (d := v.cw) (aim_up hb mm n s).1 a0 hb.cw.1).1
    have hle : m * acked ≤ v.cw * acked := Int.mul_le_mul_of_nonneg_right (by omega) a0
    have hmo := more_le hb (by omega) a mm acked a0 (by rw [Int.mul_comm acked]; exact hle)
    have hmo0 := (moreC_bd hb a mm).1
    have hf0 := hb.fr.1
    have ec : (goC v acked m now smooth).cw = max (Sat.add v.cw (Wide.down (aimC v m now smooth - v.cw) acked v.cw)) (Sat.add v.fr (moreC v acked m)) := rfl
    have ef : (goC v acked m now smooth).fr = Sat.add v.fr (moreC v acked m) := rfl
    generalize Wide.down (aimC v m now smooth - v.cw) acked v.cw = r at *
    generalize moreC v acked m = q at *
    have e1 : Sat.add v.cw r = v.cw + r := by unfold Sat.add; rw [if_pos (by omega)]
    have e2 : Sat.add v.fr q = v.fr + q := by unfold Sat.add; rw [if_pos (by omega)]
    rw [e1, e2] at ec
    rw [e2] at ef
    exact ⟨⟨hfit, by omega, by omega, by omega⟩, by omega⟩
theorem Plays.cut {w : Wn} {m most : Int} (h : Plays w m most) (m0 : 1 ≤ m) (h2 : 2 * m ≤ w.cw) : Plays (cutC w 7 10) m most := by
  obtain ⟨fit, hl, hc, hf⟩ := h
  have u7 : U 7 := ⟨by decide, by decide⟩
  have u10 : U 10 := ⟨by decide, by decide⟩
  have hu := fit.cw
  have h3 := down_mul (a := w.cw) (b := 7) (d := 10) fit.cw.1 (by decide) (by decide)
  have h4 : m ≤ Wide.down w.cw 7 10 := by
    unfold Wide.down
    unfold U at hu
    rw [if_neg (by omega)]
    omega
  have ec : (cutC w 7 10).cw = Wide.down w.cw 7 10 := rfl
  have ef : (cutC w 7 10).fr = 0 := rfl
  exact ⟨fit_cutC fit u7 u10, by omega, by omega, by omega⟩
end Go.Proofs.Ytnnpklnhdfpnjaa.CubicPlain
