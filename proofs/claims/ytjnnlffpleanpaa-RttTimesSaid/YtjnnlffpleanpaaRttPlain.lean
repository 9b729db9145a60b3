/-
  Measures of round trips as the document defines them. Plain.
-/
import Derived.Test.YtjnnlffpleanpaaWideRnd
set_option linter.unusedSimpArgs false
set_option linter.unusedVariables false
namespace Go.Proofs.Ytjnnlffpleanpaa.RttPlain
set_option linter.unusedVariables false

/-- What is known of the round trips. -/
structure Rt where
  has : Bool
  latest : Int
  smooth : Int
  dev : Int
  least : Int
/-- The numbers are words. -/
structure RFit (r : Rt) : Prop where
  a0 : 0 ≤ r.latest
  a1 : r.latest ≤ 18446744073709551615
  b0 : 0 ≤ r.smooth
  b1 : r.smooth ≤ 18446744073709551615
  c0 : 0 ≤ r.dev
  c1 : r.dev ≤ 18446744073709551615
  d0 : 0 ≤ r.least
  d1 : r.least ≤ 18446744073709551615

def sampleR (r : Rt) (x : Int) : Rt := if r.has = true then ⟨true, x, (7 * r.smooth + x) / 8, (3 * r.dev + Sat.diff r.smooth x) / 4, min r.least x⟩ else ⟨true, x, x, x / 2, x⟩
/-- How long it is until a probe, and until a packet is lost. -/
def timeoutR (r : Rt) (first grain : Int) : Int := if r.has = true then Sat.add r.smooth (max (Sat.mul 4 r.dev) grain) else Sat.add first (max (Sat.mul 2 first) grain)
def windowR (r : Rt) (first grain : Int) : Int := max grain (Wide.down (if r.has = true then max r.smooth r.latest else first) 9 8)
def rt0 : Rt := ⟨false, 0, 0, 0, 0⟩
theorem fit0 : RFit rt0 := by constructor <;> decide
theorem part8 {a b : Int} (a0 : 0 ≤ a) (a1 : a ≤ 18446744073709551615) (b0 : 0 ≤ b) (b1 : b ≤ 18446744073709551615) : 7 * (a / 8) + b / 8 + (7 * (a % 8) + b % 8) / 8 = (7 * a + b) / 8 ∧ 0 ≤ (7 * a + b) / 8 ∧ (7 * a + b) / 8 ≤ 18446744073709551615 := by omega
theorem part4 {a b : Int} (a0 : 0 ≤ a) (a1 : a ≤ 18446744073709551615) (b0 : 0 ≤ b) (b1 : b ≤ 18446744073709551615) : 3 * (a / 4) + b / 4 + (3 * (a % 4) + b % 4) / 4 = (3 * a + b) / 4 ∧ 0 ≤ (3 * a + b) / 4 ∧ (3 * a + b) / 4 ≤ 18446744073709551615 := by omega
theorem fit_sample {r : Rt} (h : RFit r) {x : Int} (x0 : 0 ≤ x) (x1 : x ≤ 18446744073709551615) : RFit (sampleR r x) := by
  obtain ⟨a0, a1, b0, b1, c0, c1, d0, d1⟩ := h
  unfold sampleR Sat.diff
  split
  · constructor <;> simp only <;> (try split) <;> omega
  · constructor <;> simp only <;> omega
/-- What lies between the least and the greatest measure. -/
structure Among (r : Rt) (lo hi : Int) : Prop where
  has : r.has = true
  s0 : lo ≤ r.smooth
  s1 : r.smooth ≤ hi
  v : r.dev ≤ hi
  least : r.least = lo
theorem among_next {r : Rt} {lo hi x : Int} (h : Among r lo hi) (hv : 0 ≤ r.dev) (l0 : 0 ≤ lo) (x0 : 0 ≤ x) : Among (sampleR r x) (min lo x) (max hi x) := by
  obtain ⟨h1, h2, h3, h4, h5⟩ := h
  unfold sampleR Sat.diff
  rw [if_pos h1]
  constructor <;> simp only <;> (try split) <;> omega
theorem among_first {r : Rt} {x : Int} (h : r.has = false) (x0 : 0 ≤ x) : Among (sampleR r x) x x := by
  unfold sampleR
  rw [if_neg (by rw [h]; decide)]
  constructor <;> simp only <;> omega
/-- The same measure again and again. -/
def steady (x v : Int) : Rt := ⟨true, x, x, v, x⟩
theorem steady_first (x : Int) : sampleR rt0 x = steady x (x / 2) := rfl
theorem steady_next {x v : Int} : sampleR (steady x v) x = steady x (3 * v / 4) := by
  have h : (7 * x + x) / 8 = x := by omega
  unfold sampleR steady Sat.diff
  simp [h]
/-- What is left of the variance: it falls by a quarter at least, to nothing in the end. -/
def fallN : Nat → Int → Int
  | 0, v => v
  | n + 1, v => 3 * fallN n v / 4
theorem fall_mono : ∀ (n : Nat) {v u : Int}, v ≤ u → fallN n v ≤ fallN n u
  | 0, _, _, h => h
  | n + 1, v, u, h => by
    have := fall_mono n h
    unfold fallN
    omega
theorem fall_nonneg : ∀ (n : Nat) {v : Int}, 0 ≤ v → 0 ≤ fallN n v
  | 0, _, h => h
  | n + 1, v, h => by
    have := fall_nonneg n h
    unfold fallN
    omega
theorem fall_le : ∀ (n : Nat) {v : Int}, 0 ≤ v → fallN n v ≤ v
  | 0, v, h => Int.le_refl _
  | n + 1, v, h => by
    have := fall_le n h
    have := fall_nonneg n h
    unfold fallN
    omega
theorem fall_done {v : Int} (h0 : 0 ≤ v) (h1 : v ≤ 2147483648) : ∀ m : Nat, fallN (120 + m) v = 0
  | 0 => by
    have h2 := fall_mono 120 h1
    have h3 : fallN 120 2147483648 = 0 := by decide +kernel
    have h4 := fall_nonneg 120 h0
    show fallN 120 v = 0
    omega
  | m + 1 => by
    have := fall_done h0 h1 m
    show 3 * fallN (120 + m) v / 4 = 0
    omega
/-- Where nothing overflows: a longer grain is no shorter timeout, and none is below what it runs from. -/
theorem over_t {h : Bool} {l s d f g m : Int} (s0 : 0 ≤ s) (s1 : s ≤ 4294967295) (d0 : 0 ≤ d) (d1 : d ≤ 4294967295) (f0 : 0 ≤ f) (f1 : f ≤ 4294967295) (g0 : 0 ≤ g) (g1 : g ≤ 4294967295) (m0 : 0 ≤ m) (m1 : m ≤ 4294967295) :
    (if h = true then s else f) + g ≤ timeoutR ⟨h, l, s, d, 0⟩ f g ∧ timeoutR ⟨h, l, s, d, 0⟩ f g ≤ timeoutR ⟨h, l, s, d, 0⟩ f (g + m) ∧ timeoutR ⟨h, l, s, d, 0⟩ f (g + m) ≤ timeoutR ⟨h, l, s, d, 0⟩ f g + m ∧ timeoutR ⟨h, l, s, d, 0⟩ f g ≤ 1000000000000 := by
  unfold timeoutR Sat.add Sat.mul
  simp only
  cases h
  · have e1 : (if 2 * f ≤ 18446744073709551615 then 2 * f else 18446744073709551615) = 2 * f := if_pos (by omega)
    simp only [Bool.false_eq_true, if_false, e1]
    rw [if_pos (show f + max (2 * f) g ≤ 18446744073709551615 by omega), if_pos (show f + max (2 * f) (g + m) ≤ 18446744073709551615 by omega)]
    omega
  · have e1 : (if 4 * d ≤ 18446744073709551615 then 4 * d else 18446744073709551615) = 4 * d := if_pos (by omega)
    simp only [if_true, e1]
    rw [if_pos (show s + max (4 * d) g ≤ 18446744073709551615 by omega), if_pos (show s + max (4 * d) (g + m) ≤ 18446744073709551615 by omega)]
    omega
theorem over_w {h : Bool} {l s d f g m : Int} (l0 : 0 ≤ l) (l1 : l ≤ 4294967295) (s0 : 0 ≤ s) (s1 : s ≤ 4294967295) (f0 : 0 ≤ f) (f1 : f ≤ 4294967295) (g0 : 0 ≤ g) (g1 : g ≤ 4294967295) (m0 : 0 ≤ m) (m1 : m ≤ 4294967295) :
    g ≤ windowR ⟨h, l, s, d, 0⟩ f g ∧ windowR ⟨h, l, s, d, 0⟩ f g ≤ windowR ⟨h, l, s, d, 0⟩ f (g + m) ∧ (if h = true then s else f) ≤ windowR ⟨h, l, s, d, 0⟩ f g ∧ windowR ⟨h, l, s, d, 0⟩ f (g + m) ≤ windowR ⟨h, l, s, d, 0⟩ f g + m ∧ windowR ⟨h, l, s, d, 0⟩ f g ≤ 1000000000000 := by
  unfold windowR Wide.down
  simp only
  cases h
  · simp only [Bool.false_eq_true, if_false]
    rw [if_neg (show ¬ 8 ≤ f * 9 / 18446744073709551616 by omega)]
    omega
  · simp only [if_true]
    rw [if_neg (show ¬ 8 ≤ max s l * 9 / 18446744073709551616 by omega)]
    omega
end Go.Proofs.Ytjnnlffpleanpaa.RttPlain
