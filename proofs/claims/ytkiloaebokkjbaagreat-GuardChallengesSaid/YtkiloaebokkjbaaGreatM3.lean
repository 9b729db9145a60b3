/-
  Several texts in one: OctPlain, HeadPlain, AckPlain, HeadStep, AckStep.
-/
import Derived.Laws.BytesArg
import Derived.Laws.Strings
import Derived.IntWalk
import Derived.Laws.Bits64b
import Derived.Test.YtkiloaebokkjbaaGreatSpanPlain
/-
  Numbers as bytes, the highest byte first: plain facts. Nothing here names a program.
-/
set_option linter.unusedSimpArgs false
set_option linter.unusedVariables false
namespace Go.Proofs.YtkiloaebokkjbaaGreat.OctPlain
set_option linter.unusedVariables false

def Bytes (l : List Int) : Prop := ∀ x ∈ l, 0 ≤ x ∧ x ≤ 255
theorem Bytes.nil : Bytes [] := fun _ h => by cases h
theorem Bytes.cons {x : Int} {l : List Int} (h : 0 ≤ x ∧ x ≤ 255) (hl : Bytes l) : Bytes (x :: l) := fun y hy => by
  rcases List.mem_cons.1 hy with rfl | hy
  · exact h
  · exact hl y hy
theorem Bytes.head {x : Int} {l : List Int} (h : Bytes (x :: l)) : 0 ≤ x ∧ x ≤ 255 := h x (by simp)
theorem Bytes.tail {x : Int} {l : List Int} (h : Bytes (x :: l)) : Bytes l := fun y hy => h y (by simp [hy])
theorem Bytes.take {l : List Int} (h : Bytes l) (k : Nat) : Bytes (l.take k) := fun y hy => h y (List.mem_of_mem_take hy)
theorem Bytes.drop {l : List Int} (h : Bytes l) (k : Nat) : Bytes (l.drop k) := fun y hy => h y (List.mem_of_mem_drop hy)
theorem Bytes.append {l m : List Int} (h : Bytes l) (k : Bytes m) : Bytes (l ++ m) := fun y hy => by
  rcases List.mem_append.1 hy with hy | hy
  · exact h y hy
  · exact k y hy
theorem Bytes.at {l : List Int} (h : Bytes l) (i : Nat) : 0 ≤ l.getD i 0 ∧ l.getD i 0 ≤ 255 := by
  rw [List.getD_eq_getElem?_getD]
  cases hx : l[i]? with
  | none => simp
  | some x => exact h x (List.mem_of_getElem? hx)

theorem pow_pos (k : Nat) : (0 : Int) < 256 ^ k := Int.pow_pos (by decide)

/-- The k lowest bytes of n, the highest of them first. -/
def be : Nat → Int → List Int
  | 0, _ => []
  | k + 1, n => n / 256 ^ k % 256 :: be k n
theorem be_len : ∀ (k : Nat) (n : Int), (be k n).length = k
  | 0, _ => rfl
  | k + 1, n => by rw [be, List.length_cons, be_len k n]
theorem be_bytes : ∀ (k : Nat) (n : Int), Bytes (be k n)
  | 0, _ => Bytes.nil
  | k + 1, n => Bytes.cons (by omega) (be_bytes k n)
theorem be_get : ∀ (k : Nat) (n : Int) (j : Nat), j < k → (be k n)[j]? = some (n / 256 ^ (k - 1 - j) % 256)
  | k + 1, n, 0, _ => by simp [be]
  | k + 1, n, j + 1, h => by
    rw [be, List.getElem?_cons_succ, be_get k n j (by omega)]
    rw [show k - 1 - j = k + 1 - 1 - (j + 1) by omega]
/-- The first i of the k bytes of n, then zeros. -/
def row (k : Nat) (n : Int) (i : Nat) : List Int := (be k n).take i ++ List.replicate (k - i) 0
theorem row_len {k i : Nat} (n : Int) (h : i ≤ k) : (row k n i).length = k := by simp [row, be_len]; omega
/-- The number of these bytes. -/
def val (l : List Int) : Int := l.foldl (fun a x => a * 256 + x) 0
theorem fold_val : ∀ (l : List Int) (a : Int), l.foldl (fun a x => a * 256 + x) a = a * 256 ^ l.length + val l
  | [], a => by simp [val]
  | x :: l, a => by
    have e : val (x :: l) = l.foldl (fun a x => a * 256 + x) (0 * 256 + x) := rfl
    rw [e, List.foldl_cons, fold_val l, fold_val l (0 * 256 + x), List.length_cons, Int.pow_succ]
    rw [Int.add_mul, Int.zero_mul, Int.zero_add, Int.mul_assoc, Int.mul_comm 256, Int.add_assoc]
theorem val_cons (x : Int) (l : List Int) : val (x :: l) = x * 256 ^ l.length + val l := by
  have e : val (x :: l) = l.foldl (fun a x => a * 256 + x) (0 * 256 + x) := rfl
  rw [e, fold_val]
  simp
theorem val_append (l m : List Int) : val (l ++ m) = val l * 256 ^ m.length + val m := by
  show (l ++ m).foldl _ 0 = _
  rw [List.foldl_append, fold_val]
  rfl
theorem val_snoc (l : List Int) (x : Int) : val (l ++ [x]) = val l * 256 + x := by
  rw [val_append]
  simp [val]
theorem val_bd : ∀ {l : List Int}, Bytes l → 0 ≤ val l ∧ val l < 256 ^ l.length
  | [], _ => by simp [val]
  | x :: l, h => by
    obtain ⟨h0, h1⟩ := h.head
    obtain ⟨v0, v1⟩ := val_bd h.tail
    have hp := pow_pos l.length
    rw [val_cons, List.length_cons, Int.pow_succ]
    have a1 : 0 ≤ x * 256 ^ l.length := Int.mul_nonneg h0 (by omega)
    have a2 : x * 256 ^ l.length ≤ 255 * 256 ^ l.length := Int.mul_le_mul_of_nonneg_right h1 (by omega)
    omega
theorem val_be : ∀ (k : Nat) (n : Int), val (be k n) = n % 256 ^ k
  | 0, n => by simp [be, val, Int.emod_one]
  | k + 1, n => by
    rw [be, val_cons, be_len, val_be k n, Int.pow_succ]
    have hp := pow_pos k
    have e1 := Int.emod_add_mul_ediv n (256 ^ k)
    have e2 := Int.emod_add_mul_ediv (n / 256 ^ k) 256
    have b1 := Int.emod_nonneg n (by omega : (256 : Int) ^ k ≠ 0)
    have b2 := Int.emod_lt_of_pos n hp
    generalize (256 : Int) ^ k = p at *
    generalize n / p = q at *
    have h : n = (q % 256 * p + n % p) + p * 256 * (q / 256) := by
      have e3 : p * q = p * (q % 256) + p * 256 * (q / 256) := by rw [Int.mul_assoc, ← Int.mul_add, e2]
      rw [Int.mul_comm (q % 256) p]
      omega
    have c1 : 0 ≤ q % 256 * p := Int.mul_nonneg (by omega) (by omega)
    have c2 : q % 256 * p ≤ 255 * p := Int.mul_le_mul_of_nonneg_right (by omega) (by omega)
    symm
    conv => lhs; rw [h]
    rw [Int.add_mul_emod_self_left]
    exact Int.emod_eq_of_lt (by omega) (by omega)
theorem be_mod : ∀ (k : Nat) (a b : Int), a % 256 ^ k = b % 256 ^ k → be k a = be k b
  | 0, _, _, _ => rfl
  | k + 1, a, b, h => by
    have hd : ∀ n : Int, n % 256 ^ (k + 1) / 256 ^ k % 256 = n / 256 ^ k % 256 := fun n => by
      have e := Int.emod_add_mul_ediv n (256 ^ (k + 1))
      have : n = n % 256 ^ (k + 1) + 256 ^ k * (256 * (n / 256 ^ (k + 1))) := by
        rw [← Int.mul_assoc, ← Int.pow_succ]; exact e.symm
      conv => rhs; rw [this]
      rw [Int.add_mul_ediv_left _ _ (by have := pow_pos k; omega), Int.add_mul_emod_self_left]
    have hm : ∀ n : Int, n % 256 ^ (k + 1) % 256 ^ k = n % 256 ^ k := fun n => Int.emod_emod_of_dvd n ⟨256, Int.pow_succ _ _⟩
    rw [be, be, ← hd a, ← hd b, h, be_mod k a b (by rw [← hm a, ← hm b, h])]
theorem be_val : ∀ {l : List Int}, Bytes l → be l.length (val l) = l
  | [], _ => rfl
  | x :: l, h => by
    obtain ⟨h0, h1⟩ := h.head
    obtain ⟨v0, v1⟩ := val_bd h.tail
    have hp := pow_pos l.length
    rw [List.length_cons, be, val_cons]
    have e1 : (x * 256 ^ l.length + val l) / 256 ^ l.length = x := by
      rw [Int.add_comm, Int.mul_comm, Int.add_mul_ediv_left _ _ (by omega), Int.ediv_eq_zero_of_lt v0 v1]
      omega
    have e2 : be l.length (x * 256 ^ l.length + val l) = be l.length (val l) := be_mod _ _ _ (by
      rw [Int.add_comm, Int.mul_comm, Int.add_mul_emod_self_left])
    rw [e1, e2, be_val h.tail, Int.emod_eq_of_lt h0 (by omega)]

theorem val_take {l : List Int} {k : Nat} (hk : k < l.length) : val (l.take (k + 1)) = val (l.take k) * 256 + l.getD k 0 := by
  have e : l.take (k + 1) = l.take k ++ [l.getD k 0] := by
    rw [List.take_add_one]
    simp [List.getD, hk]
  rw [e, val_snoc]
theorem pow_le8 {k : Nat} (h : k ≤ 8) : (256 : Int) ^ k ≤ 18446744073709551616 := by
  have : (256 : Nat) ^ k ≤ 256 ^ 8 := Nat.pow_le_pow_right (by decide) h
  have e : ((256 ^ k : Nat) : Int) = (256 : Int) ^ k := by simp
  rw [← e]
  omega
theorem pow_le7 {k : Nat} (h : k ≤ 7) : (256 : Int) ^ k ≤ 72057594037927936 := by
  have : (256 : Nat) ^ k ≤ 256 ^ 7 := Nat.pow_le_pow_right (by decide) h
  have e : ((256 ^ k : Nat) : Int) = (256 : Int) ^ k := by simp
  rw [← e]
  omega
theorem val_bd8 {l : List Int} (h : Bytes l) (h8 : l.length ≤ 8) : 0 ≤ val l ∧ val l ≤ 18446744073709551615 := by
  have := val_bd h
  have := pow_le8 h8
  omega
theorem val_bd7 {l : List Int} (h : Bytes l) (h7 : l.length ≤ 7) : 0 ≤ val l ∧ val l ≤ 72057594037927935 := by
  have := val_bd h
  have := pow_le7 h7
  omega
theorem or_byte {v x : Int} (v0 : 0 ≤ v) (v1 : v ≤ 72057594037927935) (x0 : 0 ≤ x) (x1 : x ≤ 255) : bits .or .u64 (v * 256) x = v * 256 + x := by
  obtain ⟨V, rfl⟩ := Int.eq_ofNat_of_zero_le v0
  obtain ⟨X, rfl⟩ := Int.eq_ofNat_of_zero_le x0
  rw [show ((V : Int) * 256) = ((2 ^ 8 * V : Nat) : Int) by omega, bits_or_u64_nat (2 ^ 8 * V) X (by omega) (by omega), ← Nat.two_pow_add_eq_or_of_lt (by omega)]
  rfl
theorem bits_or_u8_nat (a b : Nat) (ha : a < 256) (hb : b < 256) : bits .or .u8 (a : Int) (b : Int) = ((a ||| b : Nat) : Int) := by
  have hx : a ||| b < 2 ^ 8 := Nat.or_lt_two_pow (by omega) (by omega)
  have h1 : (BitVec.ofInt 8 (a : Int)).toNat = a := by
    rw [BitVec.ofInt_natCast, BitVec.toNat_ofNat]; exact Nat.mod_eq_of_lt (by omega)
  have h2 : (BitVec.ofInt 8 (b : Int)).toNat = b := by
    rw [BitVec.ofInt_natCast, BitVec.toNat_ofNat]; exact Nat.mod_eq_of_lt (by omega)
  show IntKind.u8.wrap ((BitVec.ofInt 8 (a : Int) ||| BitVec.ofInt 8 (b : Int)).toNat : Int) = _
  rw [BitVec.toNat_or, h1, h2, IntKind.wrap_u8]
  omega
theorem or_tag {c x : Int} (c0 : 0 ≤ c) (c1 : c ≤ 3) (x0 : 0 ≤ x) (x1 : x < 64) : bits .or .u8 x (c * 64) = x + c * 64 := by
  obtain ⟨C, rfl⟩ := Int.eq_ofNat_of_zero_le c0
  obtain ⟨X, rfl⟩ := Int.eq_ofNat_of_zero_le x0
  rw [show ((C : Int) * 64) = ((2 ^ 6 * C : Nat) : Int) by omega, bits_or_u8_nat X (2 ^ 6 * C) (by omega) (by omega), Nat.or_comm, ← Nat.two_pow_add_eq_or_of_lt (by omega)]
  omega
/-- How many bytes a number takes. -/
def size (n : Int) : Int := if n < 64 then 1 else if n < 16384 then 2 else if n < 1073741824 then 4 else if n ≤ 4611686018427387903 then 8 else 0
def put (n : Int) : List Int := if n < 64 then be 1 n else if n < 16384 then be 2 (n + 16384) else if n < 1073741824 then be 4 (n + 2147483648) else if n ≤ 4611686018427387903 then be 8 (n + 13835058055282163712) else []
theorem put_bytes (n : Int) : Bytes (put n) := by
  unfold put
  repeat' split
  all_goals first | exact be_bytes _ _ | exact Bytes.nil
theorem put_len (n : Int) : ((put n).length : Int) = size n := by
  unfold put size
  repeat' split
  all_goals simp [be_len]
theorem size_bd (n : Int) : 0 ≤ size n ∧ size n ≤ 8 := by unfold size; repeat' split; all_goals omega
theorem be_tag {j : Nat} {n c : Int} (hn : n < 64 * 256 ^ j) (n0 : 0 ≤ n) (c0 : 0 ≤ c) (c1 : c ≤ 3) : be (j + 1) (n + c * (64 * 256 ^ j)) = (n / 256 ^ j % 256 + c * 64) :: be j n ∧ n / 256 ^ j % 256 < 64 := by
  have hp := pow_pos j
  have e0 : c * (64 * (256 : Int) ^ j) = 256 ^ j * (c * 64) := by rw [← Int.mul_assoc, Int.mul_comm]
  have q0 : 0 ≤ n / 256 ^ j := Int.ediv_nonneg n0 (by omega)
  have q1 : n / 256 ^ j < 64 := Int.ediv_lt_of_lt_mul hp hn
  have e1 : (n + c * (64 * 256 ^ j)) / 256 ^ j = n / 256 ^ j + c * 64 := by rw [e0, Int.add_mul_ediv_left _ _ (by omega)]
  have e2 : be j (n + c * (64 * 256 ^ j)) = be j n := be_mod _ _ _ (by rw [e0, Int.add_mul_emod_self_left])
  rw [be, e1, e2]
  generalize n / 256 ^ j = q at *
  constructor
  · congr 1
    omega
  · omega
/-- A number that may be: how many bytes (one and j), and the bits of the first that tell it. -/
theorem put_form {n : Int} (n0 : 0 ≤ n) (n1 : n ≤ 4611686018427387903) : ∃ (j : Nat) (c : Nat), ((j = 0 ∧ c = 0) ∨ (j = 1 ∧ c = 1) ∨ (j = 3 ∧ c = 2) ∨ (j = 7 ∧ c = 3)) ∧ size n = (j : Int) + 1 ∧ n / 256 ^ j % 256 < 64 ∧ put n = (n / 256 ^ j % 256 + (c : Int) * 64) :: be j n := by
  by_cases a : n < 64
  · obtain ⟨h1, h2⟩ := be_tag (j := 0) (c := 0) (by omega) n0 (by omega) (by omega)
    refine ⟨0, 0, .inl ⟨rfl, rfl⟩, by unfold size; rw [if_pos a]; rfl, h2, ?_⟩
    unfold put; rw [if_pos a]
    exact (show be 1 n = be (0 + 1) (n + 0 * (64 * 256 ^ 0)) by rw [Int.zero_mul, Int.add_zero]).trans h1
  by_cases b : n < 16384
  · obtain ⟨h1, h2⟩ := be_tag (j := 1) (c := 1) (by omega) n0 (by omega) (by omega)
    refine ⟨1, 1, .inr (.inl ⟨rfl, rfl⟩), by unfold size; rw [if_neg a, if_pos b]; rfl, h2, ?_⟩
    unfold put; rw [if_neg a, if_pos b]
    exact h1
  by_cases c : n < 1073741824
  · obtain ⟨h1, h2⟩ := be_tag (j := 3) (c := 2) (by omega) n0 (by omega) (by omega)
    refine ⟨3, 2, .inr (.inr (.inl ⟨rfl, rfl⟩)), by unfold size; rw [if_neg a, if_neg b, if_pos c]; rfl, h2, ?_⟩
    unfold put; rw [if_neg a, if_neg b, if_pos c]
    exact h1
  · obtain ⟨h1, h2⟩ := be_tag (j := 7) (c := 3) (by omega) n0 (by omega) (by omega)
    refine ⟨7, 3, .inr (.inr (.inr ⟨rfl, rfl⟩)), by unfold size; rw [if_neg a, if_neg b, if_neg c, if_pos n1]; rfl, h2, ?_⟩
    unfold put; rw [if_neg a, if_neg b, if_neg c, if_pos n1]
    exact h1
theorem put_none {n : Int} (h : 4611686018427387903 < n) : put n = [] ∧ size n = 0 := by
  unfold put size
  rw [if_neg (by omega), if_neg (by omega), if_neg (by omega), if_neg (by omega), if_neg (by omega), if_neg (by omega), if_neg (by omega), if_neg (by omega)]
  exact ⟨rfl, rfl⟩
/-- How many bytes the first one asks for. -/
def need (x : Int) : Nat := if x < 64 then 1 else if x < 128 then 2 else if x < 192 then 4 else 8
theorem need_bd (x : Int) : 1 ≤ need x ∧ need x ≤ 8 := by
  unfold need
  split
  · decide
  split
  · decide
  split <;> decide
theorem need_div {x : Int} (h : 0 ≤ x ∧ x ≤ 255) : (need x = 1 → x / 64 = 0) ∧ (need x = 2 → x / 64 = 1) ∧ (need x = 4 → x / 64 = 2) ∧ (need x = 8 → x / 64 = 3) := by
  unfold need
  by_cases a : x < 64
  · simp [a]; omega
  by_cases b : x < 128
  · simp [a, b]; omega
  by_cases c : x < 192
  · simp [a, b, c]; omega
  · simp [a, b, c]; omega
theorem need_pow {x : Int} (h : 0 ≤ x ∧ x ≤ 255) : IntKind.i64.wrap (2 ^ (x / 64).toNat) = (need x : Int) := by
  unfold need
  by_cases a : x < 64
  · rw [if_pos a, show x / 64 = 0 by omega]; rfl
  by_cases b : x < 128
  · rw [if_neg a, if_pos b, show x / 64 = 1 by omega]; rfl
  by_cases c : x < 192
  · rw [if_neg a, if_neg b, if_pos c, show x / 64 = 2 by omega]; rfl
  · rw [if_neg a, if_neg b, if_neg c, show x / 64 = 3 by omega]; rfl
theorem and_mask {v : Int} {k : Nat} (v0 : 0 ≤ v) (v1 : v ≤ 18446744073709551615) (k1 : 1 ≤ k) (k2 : k ≤ 8) : bits .and .u64 v (IntKind.u64.wrap (IntKind.u64.wrap (2 ^ (8 * k - 2)) - 1)) = v % (64 * 256 ^ (k - 1)) := by
  obtain ⟨X, rfl⟩ := Int.eq_ofNat_of_zero_le v0
  have hp : (2 : Nat) ^ (8 * k - 2) ≤ 2 ^ 62 := Nat.pow_le_pow_right (by decide +kernel) (by omega)
  have h1 : 1 ≤ (2 : Nat) ^ (8 * k - 2) := Nat.one_le_two_pow
  have e : IntKind.u64.wrap (IntKind.u64.wrap (2 ^ (8 * k - 2)) - 1) = ((2 ^ (8 * k - 2) - 1 : Nat) : Int) := by
    have : (2 : Int) ^ (8 * k - 2) = ((2 ^ (8 * k - 2) : Nat) : Int) := by simp
    rw [IntKind.wrap_u64, IntKind.wrap_u64, this]
    omega
  have e2 : (64 * 256 ^ (k - 1) : Int) = ((2 ^ (8 * k - 2) : Nat) : Int) := by
    rw [show (8 * k - 2) = 6 + 8 * (k - 1) by omega, Nat.pow_add, Nat.pow_mul]
    simp
  rw [e, bits_and_u64_nat _ _ (by omega) (by omega), Nat.and_two_pow_sub_one_eq_mod, e2]
  rfl
/-- The lengths. -/
def pw : Nat → Int | 0 => 1 | 1 => 2 | 2 => 4 | _ => 8
theorem pw_bd (t : Nat) : 1 ≤ pw t ∧ pw t ≤ 8 := by
  match t with
  | 0 => decide
  | 1 => decide
  | 2 => decide
  | t + 3 => exact (by decide : (1 : Int) ≤ 8 ∧ (8 : Int) ≤ 8)
theorem pw_half {t : Nat} (h : 0 < t) (h3 : t ≤ 3) : 1 < pw t ∧ pw t / 2 = pw (t - 1) := by
  match t, h with
  | 1, _ => decide
  | 2, _ => decide
  | 3, _ => decide
theorem pw_zero : pw 0 = 1 := rfl
theorem and_255 {x : Int} (x0 : 0 ≤ x) (x1 : x ≤ 18446744073709551615) : bits .and .u64 x 255 = x % 256 := by
  obtain ⟨X, rfl⟩ := Int.eq_ofNat_of_zero_le x0
  have h := bits_and_u64_nat X 255 (by omega) (by omega)
  rw [show X &&& 255 = X % 256 from Nat.and_two_pow_sub_one_eq_mod X 8] at h
  exact h
theorem bits_and_u8_nat (a b : Nat) (ha : a < 256) (hb : b < 256) : bits .and .u8 (a : Int) (b : Int) = ((a &&& b : Nat) : Int) := by
  have hx : a &&& b < 2 ^ 8 := Nat.and_lt_two_pow _ (by omega)
  have h1 : (BitVec.ofInt 8 (a : Int)).toNat = a := by
    rw [BitVec.ofInt_natCast, BitVec.toNat_ofNat]; exact Nat.mod_eq_of_lt (by omega)
  have h2 : (BitVec.ofInt 8 (b : Int)).toNat = b := by
    rw [BitVec.ofInt_natCast, BitVec.toNat_ofNat]; exact Nat.mod_eq_of_lt (by omega)
  show IntKind.u8.wrap ((BitVec.ofInt 8 (a : Int) &&& BitVec.ofInt 8 (b : Int)).toNat : Int) = _
  rw [BitVec.toNat_and, h1, h2, IntKind.wrap_u8]
  omega
theorem and_63 {x : Int} (x0 : 0 ≤ x) (x1 : x ≤ 255) : bits .and .u8 x 63 = x % 64 := by
  obtain ⟨X, rfl⟩ := Int.eq_ofNat_of_zero_le x0
  have h := bits_and_u8_nat X 63 (by omega) (by omega)
  rw [show X &&& 63 = X % 64 from Nat.and_two_pow_sub_one_eq_mod X 6] at h
  exact h
theorem pow_eight (m : Nat) : (2 : Int) ^ (8 * m) = 256 ^ m := by rw [Int.pow_mul]; rfl
/-- What a reader finds: the number, how many bytes it took, the error. -/
def num : List Int → Int × Nat × Int
  | [] => (0, 0, 2)
  | x :: r => if (x :: r).length < need x then (0, 0, 2)
    else if size (val (x % 64 :: r.take (need x - 1))) = need x then (val (x % 64 :: r.take (need x - 1)), need x, 0) else (0, 0, 5)
theorem num_cons (x : Int) (r : List Int) : num (x :: r) = if (x :: r).length < need x then (0, 0, 2)
    else if size (val (x % 64 :: r.take (need x - 1))) = need x then (val (x % 64 :: r.take (need x - 1)), need x, 0) else (0, 0, 5) := rfl
theorem num_len (l : List Int) : (num l).2.1 ≤ l.length := by
  cases l with
  | nil => simp [num]
  | cons x r =>
    rw [num_cons]
    have := need_bd x
    split
    · simp
    rename_i h
    split
    · simpa using h
    · simp
/-- The bytes behind the first one, its two highest bits cut off: as the rest of the number with them in. -/
theorem val_cut {x : Int} {r : List Int} (hx : 0 ≤ x ∧ x ≤ 255) (hr : Bytes r) : val (x % 64 :: r) = val (x :: r) % (64 * 256 ^ r.length) := by
  obtain ⟨v0, v1⟩ := val_bd hr
  have hp := pow_pos r.length
  rw [val_cons, val_cons]
  generalize (256 : Int) ^ r.length = p at *
  have e : x * p + val r = (x % 64 * p + val r) + 64 * p * (x / 64) := by
    have : x * p = (x % 64) * p + 64 * p * (x / 64) := by
      rw [Int.mul_right_comm, ← Int.add_mul]
      congr 1
      omega
    omega
  have c1 : 0 ≤ x % 64 * p := Int.mul_nonneg (by omega) (by omega)
  have c2 : x % 64 * p ≤ 63 * p := Int.mul_le_mul_of_nonneg_right (by omega) (by omega)
  rw [e, Int.add_mul_emod_self_left]
  exact (Int.emod_eq_of_lt (by omega) (by omega)).symm
theorem num_bd {l : List Int} (h : Bytes l) : 0 ≤ (num l).1 ∧ (num l).1 ≤ 4611686018427387903 := by
  cases l with
  | nil => simp [num]
  | cons x r =>
    rw [num_cons]
    split
    · simp
    · split
      · rename_i h1 h2
        have hb := val_bd (Bytes.cons (x := x % 64) (by omega) (h.tail.take (need x - 1)))
        refine ⟨hb.1, ?_⟩
        show val _ ≤ _
        have h3 := need_bd x
        generalize val (x % 64 :: r.take (need x - 1)) = n at h2 hb
        unfold size at h2
        revert h2
        repeat' split
        all_goals omega
      · simp
/-- The encoding at a number's length k: c the two bits of the first byte. -/
theorem num_form {k : Nat} {c n : Int} (more : List Int) (h0 : 0 ≤ n) (hc : 0 ≤ c ∧ c ≤ 3) (hn : n < 64 * 256 ^ k) (hs : size n = (k + 1 : Nat)) (hk : ∀ y, c * 64 ≤ y → y < c * 64 + 64 → need y = k + 1) :
    num (be (k + 1) (n + c * (64 * 256 ^ k)) ++ more) = (n, k + 1, 0) := by
  have hp := pow_pos k
  have e1 : (n + c * (64 * 256 ^ k)) / 256 ^ k = n / 256 ^ k + c * 64 := by
    rw [show c * (64 * (256 : Int) ^ k) = 256 ^ k * (c * 64) by rw [← Int.mul_assoc, Int.mul_comm], Int.add_mul_ediv_left _ _ (by omega)]
  have q0 : 0 ≤ n / 256 ^ k := Int.ediv_nonneg h0 (by omega)
  have q1 : n / 256 ^ k < 64 := Int.ediv_lt_of_lt_mul hp hn
  have e2 : (n / 256 ^ k + c * 64) % 256 = n / 256 ^ k + c * 64 := Int.emod_eq_of_lt (by omega) (by omega)
  have e3 : be k (n + c * (64 * 256 ^ k)) = be k n := be_mod _ _ _ (by
    rw [show c * (64 * (256 : Int) ^ k) = 256 ^ k * (c * 64) by rw [← Int.mul_assoc, Int.mul_comm], Int.add_mul_emod_self_left])
  rw [be, e1, e2, e3, List.cons_append]
  generalize hq : n / 256 ^ k = q at *
  have hk' := hk (q + c * 64) (by omega) (by omega)
  have hv : val ((q + c * 64) % 64 :: (be k n ++ more).take (need (q + c * 64) - 1)) = n := by
    rw [hk', Nat.add_sub_cancel, List.take_append_of_le_length (by rw [be_len]; omega), List.take_of_length_le (by rw [be_len]; omega), val_cons, be_len, val_be,
      show (q + c * 64) % 64 = q by omega, ← hq, Int.mul_comm, Int.add_comm]
    exact Int.emod_add_mul_ediv n _
  rw [num_cons, hv, hk', if_neg (by simp only [List.length_cons, List.length_append, be_len]; omega), if_pos hs]
theorem num_put {n : Int} (more : List Int) (h0 : 0 ≤ n) (h1 : n ≤ 4611686018427387903) : num (put n ++ more) = (n, (put n).length, 0) := by
  by_cases a : n < 64
  · have hp : put n = be 1 n := by unfold put; rw [if_pos a]
    have := num_form (k := 0) (c := 0) more h0 (by omega) (by omega) (by unfold size; rw [if_pos a]; rfl) (fun y _ h => by unfold need; rw [if_pos (by omega)])
    rw [hp, be_len]
    simpa using this
  by_cases b : n < 16384
  · have hp : put n = be 2 (n + 16384) := by unfold put; rw [if_neg a, if_pos b]
    have := num_form (k := 1) (c := 1) more h0 (by omega) (by omega) (by unfold size; rw [if_neg a, if_pos b]; rfl) (fun y _ h => by unfold need; rw [if_neg (by omega), if_pos (by omega)])
    rw [hp, be_len]
    simpa using this
  by_cases c : n < 1073741824
  · have hp : put n = be 4 (n + 2147483648) := by unfold put; rw [if_neg a, if_neg b, if_pos c]
    have := num_form (k := 3) (c := 2) more h0 (by omega) (by omega) (by unfold size; rw [if_neg a, if_neg b, if_pos c]; rfl) (fun y _ h => by unfold need; rw [if_neg (by omega), if_neg (by omega), if_pos (by omega)])
    rw [hp, be_len]
    simpa using this
  · have hp : put n = be 8 (n + 13835058055282163712) := by unfold put; rw [if_neg a, if_neg b, if_neg c, if_pos h1]
    have := num_form (k := 7) (c := 3) more h0 (by omega) (by omega) (by unfold size; rw [if_neg a, if_neg b, if_neg c, if_pos h1]; rfl) (fun y h _ => by unfold need; rw [if_neg (by omega), if_neg (by omega), if_neg (by omega)])
    rw [hp, be_len]
    simpa using this
theorem num_head {x : Int} {r : List Int} {n : Int} {k : Nat} (h : num (x :: r) = (n, k, 0)) : need x = k ∧ k ≤ r.length + 1 := by
  rw [num_cons] at h
  split at h
  · cases h
  · split at h
    · rename_i h1 _
      cases h
      exact ⟨rfl, by simpa using h1⟩
    · cases h
/-- What is read as a number is its encoding. -/
theorem num_one {l : List Int} {n : Int} {k : Nat} (hb : Bytes l) (h : num l = (n, k, 0)) : put n = l.take k ∧ k ≤ l.length ∧ 0 ≤ n ∧ n ≤ 4611686018427387903 := by
  have hbd := num_bd hb
  rw [h] at hbd
  cases l with
  | nil => simp [num] at h
  | cons x r =>
    obtain ⟨hk, hl⟩ := num_head h
    refine ⟨?_, by simpa using hl, hbd⟩
    have nb := need_bd x
    have hx := hb.head
    have hv : val (x % 64 :: r.take (k - 1)) = n ∧ size n = k := by
      rw [num_cons] at h
      rw [if_neg (by rw [hk]; simp only [List.length_cons]; omega), hk] at h
      split at h
      · rename_i h2
        cases h
        exact ⟨rfl, h2⟩
      · cases h
    obtain ⟨hv, hs⟩ := hv
    have hrl : (r.take (k - 1)).length = k - 1 := by rw [List.length_take]; omega
    have hT : (x :: r).take k = x :: r.take (k - 1) := by
      obtain ⟨j, rfl⟩ : ∃ j, k = j + 1 := ⟨k - 1, by omega⟩
      rfl
    have hB : Bytes (x :: r.take (k - 1)) := Bytes.cons hx (hb.tail.take _)
    have hV := be_val hB
    rw [List.length_cons, hrl, show k - 1 + 1 = k by omega] at hV
    have hE : val (x :: r.take (k - 1)) = n + x / 64 * (64 * 256 ^ (k - 1)) := by
      rw [← hv, val_cons, val_cons, hrl]
      generalize (256 : Int) ^ (k - 1) = p
      have : x * p = x % 64 * p + x / 64 * (64 * p) := by
        rw [← Int.mul_assoc, ← Int.add_mul]
        congr 1
        omega
      omega
    rw [hT, ← hV, hE]
    unfold size at hs
    unfold put
    by_cases a : n < 64
    · rw [if_pos a] at hs ⊢
      obtain rfl : k = 1 := by omega
      rw [(need_div hx).1 hk]
      simp
    rw [if_neg a] at hs ⊢
    by_cases b : n < 16384
    · rw [if_pos b] at hs ⊢
      obtain rfl : k = 2 := by omega
      rw [(need_div hx).2.1 hk]
      rfl
    rw [if_neg b] at hs ⊢
    by_cases c : n < 1073741824
    · rw [if_pos c] at hs ⊢
      obtain rfl : k = 4 := by omega
      rw [(need_div hx).2.2.1 hk]
      rfl
    rw [if_neg c] at hs ⊢
    rw [if_pos hbd.2] at hs ⊢
    obtain rfl : k = 8 := by omega
    rw [(need_div hx).2.2.2 hk]
    rfl

/-- The order of bytes. -/
def less : List Int → List Int → Bool
  | _, [] => false
  | [], _ :: _ => true
  | a :: x, b :: y => decide (a < b) || (decide (a = b) && less x y)
end Go.Proofs.YtkiloaebokkjbaaGreat.OctPlain

/-
  Packets as bytes: plain facts. Nothing here names a program.
-/
set_option linter.unusedSimpArgs false
set_option linter.unusedVariables false
namespace Go.Proofs.YtkiloaebokkjbaaGreat.HeadPlain
set_option linter.unusedVariables false
open Go.Proofs.YtkiloaebokkjbaaGreat.OctPlain

/-- A packet. -/
structure D where
  pn : Int
  least : Int
  off : Int
  nonce : Int
  ecn : Int
  body : List Int
def zero : D := ⟨0, 0, 0, 0, 0, []⟩
def M : Int := 4611686018427387903
def p6 (body : List Int) : List Int := put body.length ++ body
def p5 (nonce : Int) (body : List Int) : List Int := be 8 nonce ++ p6 body
def p4 (off nonce : Int) (body : List Int) : List Int := put off ++ p5 nonce body
def p3 (least off nonce : Int) (body : List Int) : List Int := put least ++ p4 off nonce body
def p2 (pn least off nonce : Int) (body : List Int) : List Int := put pn ++ p3 least off nonce body
/-- A packet's bytes. -/
def putData (d : D) : List Int := 1 :: d.ecn :: p2 d.pn d.least d.off d.nonce d.body
def g6 (ecn pn least off nonce : Int) (q : List Int) : D × Int :=
  if (num q).2.2 ≠ 0 then (zero, (num q).2.2) else if (num q).1 < 1 ∨ 1500 < (num q).1 ∨ M - (num q).1 < off then (zero, 5)
  else if ((q.drop (num q).2.1).length : Int) < (num q).1 then (zero, 2) else if (num q).1 < ((q.drop (num q).2.1).length : Int) then (zero, 3) else (⟨pn, least, off, nonce, ecn, q.drop (num q).2.1⟩, 0)
def g5 (ecn pn least off : Int) (q : List Int) : D × Int := if q.length < 8 then (zero, 2) else g6 ecn pn least off (val (q.take 8)) (q.drop 8)
def g4 (ecn pn least : Int) (q : List Int) : D × Int := if (num q).2.2 ≠ 0 then (zero, (num q).2.2) else g5 ecn pn least (num q).1 (q.drop (num q).2.1)
def g3 (ecn pn : Int) (q : List Int) : D × Int := if (num q).2.2 ≠ 0 then (zero, (num q).2.2) else if pn < (num q).1 then (zero, 5) else g4 ecn pn (num q).1 (q.drop (num q).2.1)
def g2 (ecn : Int) (q : List Int) : D × Int := if (num q).2.2 ≠ 0 then (zero, (num q).2.2) else g3 ecn (num q).1 (q.drop (num q).2.1)
/-- What bytes are as a packet, or the error. -/
def getData : List Int → D × Int
  | [] => (zero, 2)
  | [x] => if x ≠ 1 then (zero, 4) else (zero, 2)
  | x :: y :: q => if x ≠ 1 then (zero, 4) else if y < 1 ∨ 3 < y then (zero, 5) else g2 y q
/-- A packet that may be. -/
def may (d : D) : Bool := decide (d.pn ≤ M) && decide (d.least ≤ d.pn) && decide (1 ≤ d.ecn) && decide (d.ecn ≤ 3) && decide (1 ≤ (d.body.length : Int)) && decide ((d.body.length : Int) ≤ 1500) && decide (d.off ≤ M - d.body.length)
theorem may_iff {d : D} : may d = true ↔ d.pn ≤ M ∧ d.least ≤ d.pn ∧ 1 ≤ d.ecn ∧ d.ecn ≤ 3 ∧ 1 ≤ (d.body.length : Int) ∧ (d.body.length : Int) ≤ 1500 ∧ d.off ≤ M - d.body.length := by
  unfold may
  simp only [Bool.and_eq_true, decide_eq_true_eq, and_assoc]

theorem g6_put {ecn pn least off nonce : Int} {body : List Int} (more : List Int) (h1 : 1 ≤ (body.length : Int)) (h2 : (body.length : Int) ≤ 1500) (h3 : off ≤ M - body.length) :
    g6 ecn pn least off nonce (p6 body ++ more) = if more = [] then (⟨pn, least, off, nonce, ecn, body⟩, 0) else (zero, 3) := by
  unfold g6 p6
  rw [List.append_assoc, num_put (body ++ more) (by omega) (by omega), if_neg (by simp), if_neg (by simp only; omega)]
  simp only [List.drop_left, List.length_append]
  rw [if_neg (by omega)]
  cases more with
  | nil => rw [if_neg (by simp), if_pos rfl, List.append_nil]
  | cons x r => rw [if_pos (by simp only [List.length_cons]; omega), if_neg (by simp)]
theorem take_app {A B : List Int} {c : Nat} : (A ++ B).take c = if c < A.length then A.take c else A ++ B.take (c - A.length) := by
  rw [List.take_append]
  split
  · rw [show c - A.length = 0 by omega, List.take_zero, List.append_nil]
  · rw [List.take_of_length_le (by omega)]
theorem g6_one {ecn pn least off nonce : Int} {q : List Int} (hb : Bytes q) {d : D} (h : g6 ecn pn least off nonce q = (d, 0)) :
    d.pn = pn ∧ d.least = least ∧ d.off = off ∧ d.nonce = nonce ∧ d.ecn = ecn ∧ q = p6 d.body ∧ 1 ≤ (d.body.length : Int) ∧ (d.body.length : Int) ≤ 1500 ∧ off ≤ M - d.body.length ∧ Bytes d.body := by
  unfold g6 at h
  split at h
  · rename_i h0
    exact absurd (congrArg Prod.snd h) h0
  · rename_i h0
    split at h
    · cases congrArg Prod.snd h
    · rename_i h1
      split at h
      · cases congrArg Prod.snd h
      · split at h
        · cases congrArg Prod.snd h
        · rename_i h2 h3
          obtain ⟨e1, e2, e3, e4⟩ := num_one (n := (num q).1) (k := (num q).2.1) hb (by rw [← show (num q).2.2 = 0 by omega])
          have hd := congrArg Prod.fst h
          simp only at hd
          subst hd
          have hl : ((q.drop (num q).2.1).length : Int) = (num q).1 := by omega
          refine ⟨rfl, rfl, rfl, rfl, rfl, ?_, by simp only; omega, by simp only; omega, by simp only; omega, hb.drop _⟩
          simp only [p6]
          rw [hl, e1, List.take_append_drop]
theorem g5_put {ecn pn least off nonce : Int} {body : List Int} (more : List Int) (n0 : 0 ≤ nonce) (n1 : nonce ≤ 18446744073709551615) (h1 : 1 ≤ (body.length : Int)) (h2 : (body.length : Int) ≤ 1500) (h3 : off ≤ M - body.length) :
    g5 ecn pn least off (p5 nonce body ++ more) = if more = [] then (⟨pn, least, off, nonce, ecn, body⟩, 0) else (zero, 3) := by
  unfold g5 p5
  have hl := be_len 8 nonce
  rw [List.append_assoc, if_neg (by rw [List.length_append, hl]; omega), List.take_append_of_le_length (by omega), List.take_of_length_le (by omega), val_be, List.drop_append_of_le_length (by omega), List.drop_eq_nil_of_le (by omega), List.nil_append,
    show nonce % 256 ^ 8 = nonce from Int.emod_eq_of_lt n0 (by omega), g6_put more h1 h2 h3]
theorem g5_one {ecn pn least off : Int} {q : List Int} (hb : Bytes q) {d : D} (h : g5 ecn pn least off q = (d, 0)) :
    d.pn = pn ∧ d.least = least ∧ d.off = off ∧ d.ecn = ecn ∧ q = p5 d.nonce d.body ∧ 0 ≤ d.nonce ∧ d.nonce ≤ 18446744073709551615 ∧ 1 ≤ (d.body.length : Int) ∧ (d.body.length : Int) ≤ 1500 ∧ off ≤ M - d.body.length ∧ Bytes d.body := by
  unfold g5 at h
  split at h
  · cases congrArg Prod.snd h
  · rename_i h8
    obtain ⟨e1, e2, e3, e4, e5, e6, e7⟩ := g6_one (hb.drop 8) h
    have hv := val_bd8 (hb.take 8) (by rw [List.length_take]; omega)
    refine ⟨e1, e2, e3, e5, ?_, by rw [e4]; exact hv.1, by rw [e4]; exact hv.2, e7⟩
    unfold p5
    have hbe := be_val (hb.take 8)
    rw [show (q.take 8).length = 8 by rw [List.length_take]; omega] at hbe
    rw [e4, hbe, ← e6, List.take_append_drop]
theorem g4_put {ecn pn least off nonce : Int} {body : List Int} (more : List Int) (o0 : 0 ≤ off) (n0 : 0 ≤ nonce) (n1 : nonce ≤ 18446744073709551615) (h1 : 1 ≤ (body.length : Int)) (h2 : (body.length : Int) ≤ 1500) (h3 : off ≤ M - body.length) :
    g4 ecn pn least (p4 off nonce body ++ more) = if more = [] then (⟨pn, least, off, nonce, ecn, body⟩, 0) else (zero, 3) := by
  unfold g4 p4
  unfold M at h3
  rw [List.append_assoc, num_put _ o0 (by omega), if_neg (by simp)]
  simp only [List.drop_left]
  exact g5_put more n0 n1 h1 h2 (by unfold M; omega)
theorem g4_one {ecn pn least : Int} {q : List Int} (hb : Bytes q) {d : D} (h : g4 ecn pn least q = (d, 0)) :
    d.pn = pn ∧ d.least = least ∧ d.ecn = ecn ∧ q = p4 d.off d.nonce d.body ∧ 0 ≤ d.off ∧ 0 ≤ d.nonce ∧ d.nonce ≤ 18446744073709551615 ∧ 1 ≤ (d.body.length : Int) ∧ (d.body.length : Int) ≤ 1500 ∧ d.off ≤ M - d.body.length ∧ Bytes d.body := by
  unfold g4 at h
  split at h
  · rename_i h0
    exact absurd (congrArg Prod.snd h) h0
  · rename_i h0
    obtain ⟨e1, e2, e3, e4, e5, e6⟩ := g5_one (hb.drop _) h
    obtain ⟨f1, f2, f3, f4⟩ := num_one (n := (num q).1) (k := (num q).2.1) hb (by rw [← show (num q).2.2 = 0 by omega])
    refine ⟨e1, e2, e4, ?_, by rw [e3]; exact f3, e6.1, e6.2.1, e6.2.2.1, e6.2.2.2.1, by rw [e3]; exact e6.2.2.2.2.1, e6.2.2.2.2.2⟩
    unfold p4
    rw [e3, f1, ← e5, List.take_append_drop]
theorem g3_put {ecn pn least off nonce : Int} {body : List Int} (more : List Int) (l0 : 0 ≤ least) (l1 : least ≤ pn) (p1 : pn ≤ M) (o0 : 0 ≤ off) (n0 : 0 ≤ nonce) (n1 : nonce ≤ 18446744073709551615) (h1 : 1 ≤ (body.length : Int)) (h2 : (body.length : Int) ≤ 1500) (h3 : off ≤ M - body.length) :
    g3 ecn pn (p3 least off nonce body ++ more) = if more = [] then (⟨pn, least, off, nonce, ecn, body⟩, 0) else (zero, 3) := by
  unfold g3 p3
  unfold M at p1
  rw [List.append_assoc, num_put _ l0 (by omega), if_neg (by simp), if_neg (by simp only; omega)]
  simp only [List.drop_left]
  exact g4_put more o0 n0 n1 h1 h2 h3
theorem g3_one {ecn pn : Int} {q : List Int} (hb : Bytes q) {d : D} (h : g3 ecn pn q = (d, 0)) :
    d.pn = pn ∧ d.ecn = ecn ∧ q = p3 d.least d.off d.nonce d.body ∧ 0 ≤ d.least ∧ d.least ≤ pn ∧ 0 ≤ d.off ∧ 0 ≤ d.nonce ∧ d.nonce ≤ 18446744073709551615 ∧ 1 ≤ (d.body.length : Int) ∧ (d.body.length : Int) ≤ 1500 ∧ d.off ≤ M - d.body.length ∧ Bytes d.body := by
  unfold g3 at h
  split at h
  · rename_i h0
    exact absurd (congrArg Prod.snd h) h0
  · rename_i h0
    split at h
    · cases congrArg Prod.snd h
    · rename_i hl
      obtain ⟨e1, e2, e3, e4, e5⟩ := g4_one (hb.drop _) h
      obtain ⟨f1, f2, f3, f4⟩ := num_one (n := (num q).1) (k := (num q).2.1) hb (by rw [← show (num q).2.2 = 0 by omega])
      refine ⟨e1, e3, ?_, by rw [e2]; exact f3, by rw [e2]; omega, e5⟩
      unfold p3
      rw [e2, f1, ← e4, List.take_append_drop]
theorem g2_put {ecn pn least off nonce : Int} {body : List Int} (more : List Int) (l0 : 0 ≤ least) (l1 : least ≤ pn) (p1 : pn ≤ M) (o0 : 0 ≤ off) (n0 : 0 ≤ nonce) (n1 : nonce ≤ 18446744073709551615) (h1 : 1 ≤ (body.length : Int)) (h2 : (body.length : Int) ≤ 1500) (h3 : off ≤ M - body.length) :
    g2 ecn (p2 pn least off nonce body ++ more) = if more = [] then (⟨pn, least, off, nonce, ecn, body⟩, 0) else (zero, 3) := by
  unfold g2 p2
  have p1' := p1
  unfold M at p1'
  rw [List.append_assoc, num_put _ (by omega) (by omega), if_neg (by simp)]
  simp only [List.drop_left]
  exact g3_put more l0 l1 p1 o0 n0 n1 h1 h2 h3
theorem g2_one {ecn : Int} {q : List Int} (hb : Bytes q) {d : D} (h : g2 ecn q = (d, 0)) :
    d.ecn = ecn ∧ q = p2 d.pn d.least d.off d.nonce d.body ∧ d.pn ≤ M ∧ 0 ≤ d.least ∧ d.least ≤ d.pn ∧ 0 ≤ d.off ∧ 0 ≤ d.nonce ∧ d.nonce ≤ 18446744073709551615 ∧ 1 ≤ (d.body.length : Int) ∧ (d.body.length : Int) ≤ 1500 ∧ d.off ≤ M - d.body.length ∧ Bytes d.body := by
  unfold g2 at h
  split at h
  · rename_i h0
    exact absurd (congrArg Prod.snd h) h0
  · rename_i h0
    obtain ⟨e1, e2, e3, e4, e5, e6⟩ := g3_one (hb.drop _) h
    obtain ⟨f1, f2, f3, f4⟩ := num_one (n := (num q).1) (k := (num q).2.1) hb (by rw [← show (num q).2.2 = 0 by omega])
    refine ⟨e2, ?_, by rw [e1]; exact f4, e4, by rw [e1]; exact e5, e6⟩
    unfold p2
    rw [e1, f1, ← e3, List.take_append_drop]
/-- The numbers of a packet, as they lie in a word. -/
def Fit (d : D) : Prop := 0 ≤ d.pn ∧ 0 ≤ d.least ∧ 0 ≤ d.off ∧ 0 ≤ d.nonce ∧ d.nonce ≤ 18446744073709551615 ∧ Bytes d.body
theorem get_put {d : D} (hm : may d = true) (hf : Fit d) (more : List Int) : getData (putData d ++ more) = if more = [] then (d, 0) else (zero, 3) := by
  obtain ⟨m1, m2, m3, m4, m5, m6, m7⟩ := may_iff.1 hm
  obtain ⟨f1, f2, f3, f4, f5, f6⟩ := hf
  unfold putData getData
  simp only [List.cons_append]
  rw [if_neg (by simp), if_neg (by omega), g2_put more f2 m2 m1 f3 f4 f5 m5 m6 m7]
theorem get_one {l : List Int} (hb : Bytes l) {d : D} (h : getData l = (d, 0)) : l = putData d ∧ may d = true ∧ Fit d := by
  match l, hb, h with
  | [], _, h => cases congrArg Prod.snd h
  | [x], _, h =>
    rw [getData] at h
    split at h <;> cases congrArg Prod.snd h
  | x :: y :: q, hb, h =>
    rw [getData] at h
    split at h
    · cases congrArg Prod.snd h
    · rename_i hx
      split at h
      · cases congrArg Prod.snd h
      · rename_i hy
        obtain ⟨e1, e2, e3, e4, e5, e6, e7, e8, e9, e10, e11, e12⟩ := g2_one hb.tail.tail h
        refine ⟨?_, may_iff.2 ⟨e3, e5, by omega, by omega, e9, e10, e11⟩, by omega, e4, e6, e7, e8, e12⟩
        unfold putData
        rw [← e2, e1, show x = 1 by omega]
end Go.Proofs.YtkiloaebokkjbaaGreat.HeadPlain

/-
  Acknowledgments as bytes: plain facts. Nothing here names a program.
-/
set_option linter.unusedSimpArgs false
set_option linter.unusedVariables false
namespace Go.Proofs.YtkiloaebokkjbaaGreat.AckPlain
set_option linter.unusedVariables false
open Go.Proofs.YtkiloaebokkjbaaGreat.OctPlain Go.Proofs.YtkiloaebokkjbaaGreat.SpanPlain
open Go.Proofs.YtkiloaebokkjbaaGreat.HeadPlain (take_app)

/-- An acknowledgment. -/
structure K where
  spans : List Sp
  marked : List Sp
  trigger : Int
  xor : Int
  parity : Bool
def zero : K := ⟨[], [], 0, 0, false⟩
/-- A row's numbers as bytes, from the least value on that its first one may have. -/
def putSp : Int → List Sp → List Int
  | _, [] => []
  | low, s :: r => put (s.1 - low) ++ (put (s.2 - s.1) ++ putSp (s.2 + 2) r)
def putRow (l : List Sp) : List Int := (l.length : Int) :: putSp 0 l
/-- So many spans out of bytes: the spans, how many bytes they took, the error. -/
def getSp : Nat → Int → List Int → List Sp × Nat × Int
  | 0, _, _ => ([], 0, 0)
  | n + 1, low, q =>
    if (num q).2.2 ≠ 0 then ([], 0, (num q).2.2)
    else if SpanPlain.M < low ∨ SpanPlain.M - low < (num q).1 then ([], 0, 5)
    else if (num (q.drop (num q).2.1)).2.2 ≠ 0 then ([], 0, (num (q.drop (num q).2.1)).2.2)
    else if SpanPlain.M - (low + (num q).1) < (num (q.drop (num q).2.1)).1 then ([], 0, 5)
    else if (getSp n (low + (num q).1 + (num (q.drop (num q).2.1)).1 + 2) ((q.drop (num q).2.1).drop (num (q.drop (num q).2.1)).2.1)).2.2 ≠ 0 then ([], 0, (getSp n (low + (num q).1 + (num (q.drop (num q).2.1)).1 + 2) ((q.drop (num q).2.1).drop (num (q.drop (num q).2.1)).2.1)).2.2)
    else ((low + (num q).1, low + (num q).1 + (num (q.drop (num q).2.1)).1) :: (getSp n (low + (num q).1 + (num (q.drop (num q).2.1)).1 + 2) ((q.drop (num q).2.1).drop (num (q.drop (num q).2.1)).2.1)).1,
      (num q).2.1 + ((num (q.drop (num q).2.1)).2.1 + (getSp n (low + (num q).1 + (num (q.drop (num q).2.1)).1 + 2) ((q.drop (num q).2.1).drop (num (q.drop (num q).2.1)).2.1)).2.1), 0)
theorem getSp_put : ∀ {l : List Sp} {low : Int} (more : List Int), goodFrom low l = true → 0 ≤ low → getSp l.length low (putSp low l ++ more) = (l, (putSp low l).length, 0)
  | [], _, _, _, _ => rfl
  | s :: r, low, more, h, h0 => by
    obtain ⟨a1, a2, a3, a4⟩ := goodFrom_cons.1 h
    unfold SpanPlain.M at a3
    have e1 : num (putSp low (s :: r) ++ more) = (s.1 - low, (put (s.1 - low)).length, 0) := by
      rw [putSp, List.append_assoc, num_put _ (by omega) (by omega)]
    have e2 : (putSp low (s :: r) ++ more).drop (put (s.1 - low)).length = put (s.2 - s.1) ++ (putSp (s.2 + 2) r ++ more) := by
      rw [putSp, List.append_assoc, List.drop_left, List.append_assoc]
    have e3 : num (put (s.2 - s.1) ++ (putSp (s.2 + 2) r ++ more)) = (s.2 - s.1, (put (s.2 - s.1)).length, 0) := num_put _ (by omega) (by omega)
    have ih := getSp_put more a4 (by omega)
    rw [List.length_cons, getSp]
    simp only [e1, e2, e3, List.drop_left, show low + (s.1 - low) = s.1 by omega, show s.1 + (s.2 - s.1) = s.2 by omega, ih]
    rw [if_neg (by simp), if_neg (by unfold SpanPlain.M; omega), if_neg (by simp), if_neg (by unfold SpanPlain.M; omega), if_neg (by simp)]
    simp only [putSp, List.length_append]
theorem getSp_one : ∀ {n : Nat} {low : Int} {q : List Int} {l : List Sp} {k : Nat}, Bytes q → 0 ≤ low → getSp n low q = (l, k, 0) → goodFrom low l = true ∧ l.length = n ∧ putSp low l = q.take k ∧ k ≤ q.length
  | 0, low, q, l, k, _, _, h => by
    rw [getSp] at h
    cases h
    exact ⟨rfl, rfl, by simp [putSp], Nat.zero_le _⟩
  | n + 1, low, q, l, k, hb, h0, h => by
    rw [getSp] at h
    split at h
    · rename_i h1
      exact absurd (congrArg (fun x => x.2.2) h) h1
    · rename_i h1
      obtain ⟨e1, e2, e3, e4⟩ := num_one (n := (num q).1) (k := (num q).2.1) hb (by rw [← show (num q).2.2 = 0 by omega])
      generalize (num q).1 = x at *
      generalize (num q).2.1 = kx at *
      have hb2 := hb.drop kx
      split at h
      · cases congrArg (fun x => x.2.2) h
      · rename_i h2
        unfold SpanPlain.M at h2
        split at h
        · rename_i h3
          exact absurd (congrArg (fun x => x.2.2) h) h3
        · rename_i h3
          obtain ⟨f1, f2, f3, f4⟩ := num_one (n := (num (q.drop kx)).1) (k := (num (q.drop kx)).2.1) hb2 (by rw [← show (num (q.drop kx)).2.2 = 0 by omega])
          generalize (num (q.drop kx)).1 = y at *
          generalize (num (q.drop kx)).2.1 = ky at *
          have hb3 := hb2.drop ky
          split at h
          · cases congrArg (fun x => x.2.2) h
          · rename_i h4
            unfold SpanPlain.M at h4
            split at h
            · rename_i h5
              exact absurd (congrArg (fun x => x.2.2) h) h5
            · rename_i h5
              have h5' : (getSp n (low + x + y + 2) ((q.drop kx).drop ky)).2.2 = 0 := by omega
              obtain ⟨g1, g2, g3, g4⟩ := getSp_one (n := n) (low := low + x + y + 2) (q := (q.drop kx).drop ky) (l := (getSp n (low + x + y + 2) ((q.drop kx).drop ky)).1) (k := (getSp n (low + x + y + 2) ((q.drop kx).drop ky)).2.1) hb3 (by omega) (by rw [← h5'])
              generalize (getSp n (low + x + y + 2) ((q.drop kx).drop ky)).1 = r at *
              generalize (getSp n (low + x + y + 2) ((q.drop kx).drop ky)).2.1 = kr at *
              cases h
              rw [List.length_drop] at f2
              rw [List.length_drop, List.length_drop] at g4
              refine ⟨goodFrom_cons.2 ⟨by simp only; omega, by simp only; omega, by unfold SpanPlain.M; simp only; omega, g1⟩, by rw [List.length_cons, g2], ?_, by omega⟩
              rw [putSp]
              simp only
              rw [show low + x - low = x by omega, show low + x + y - (low + x) = y by omega, e1, f1, g3]
              rw [← List.take_add, ← List.take_add]
def getRow (least : Int) : List Int → List Sp × Nat × Int
  | [] => ([], 0, 2)
  | x :: q => if x < least ∨ 32 < x then ([], 0, 5) else if (getSp x.toNat 0 q).2.2 ≠ 0 then ([], 0, (getSp x.toNat 0 q).2.2) else ((getSp x.toNat 0 q).1, 1 + (getSp x.toNat 0 q).2.1, 0)
theorem getRow_put {l : List Sp} {least : Int} (more : List Int) (h : good l = true) (h1 : least ≤ (l.length : Int)) (h2 : (l.length : Int) ≤ 32) : getRow least (putRow l ++ more) = (l, (putRow l).length, 0) := by
  unfold putRow
  rw [List.cons_append, getRow, if_neg (by omega), show ((l.length : Int)).toNat = l.length by omega, getSp_put more h (Int.le_refl 0), if_neg (by simp), List.length_cons, Nat.add_comm]
theorem getRow_one {least : Int} {q : List Int} {l : List Sp} {k : Nat} (hb : Bytes q) (h : getRow least q = (l, k, 0)) : good l = true ∧ least ≤ (l.length : Int) ∧ (l.length : Int) ≤ 32 ∧ putRow l = q.take k ∧ k ≤ q.length := by
  cases q with
  | nil => cases congrArg (fun x => x.2.2) h
  | cons x q =>
    rw [getRow] at h
    split at h
    · cases congrArg (fun x => x.2.2) h
    · rename_i h1
      split at h
      · rename_i h2
        exact absurd (congrArg (fun x => x.2.2) h) h2
      · rename_i h2
        have hx := hb.head
        obtain ⟨g1, g2, g3, g4⟩ := getSp_one (n := x.toNat) (q := q) (l := (getSp x.toNat 0 q).1) (k := (getSp x.toNat 0 q).2.1) hb.tail (Int.le_refl 0) (Prod.ext rfl (Prod.ext rfl (by simp only; omega)))
        cases h
        refine ⟨g1, by omega, by omega, ?_, by rw [List.length_cons]; omega⟩
        rw [Nat.add_comm, List.take_succ_cons, ← g3]
        unfold putRow
        rw [show ((getSp x.toNat 0 q).1.length : Int) = x by omega]
def byteOf (b : Bool) : Int := if b then 1 else 0
def q5 (parity : Bool) : List Int := [byteOf parity]
def q4 (xor : Int) (parity : Bool) : List Int := be 8 xor ++ q5 parity
def q3 (trigger xor : Int) (parity : Bool) : List Int := be 8 trigger ++ q4 xor parity
def q2 (marked : List Sp) (trigger xor : Int) (parity : Bool) : List Int := putRow marked ++ q3 trigger xor parity
def q1 (spans marked : List Sp) (trigger xor : Int) (parity : Bool) : List Int := putRow spans ++ q2 marked trigger xor parity
/-- An acknowledgment's bytes. -/
def putAck (a : K) : List Int := 2 :: q1 a.spans a.marked a.trigger a.xor a.parity
def h5 (spans marked : List Sp) (trigger xor : Int) : List Int → K × Int
  | [] => (zero, 2)
  | x :: r => if 1 < x then (zero, 5) else if r ≠ [] then (zero, 3) else if inside marked spans then (⟨spans, marked, trigger, xor, decide (x = 1)⟩, 0) else (zero, 5)
def h4 (spans marked : List Sp) (trigger : Int) (q : List Int) : K × Int := if q.length < 8 then (zero, 2) else h5 spans marked trigger (val (q.take 8)) (q.drop 8)
def h3 (spans marked : List Sp) (q : List Int) : K × Int := if q.length < 8 then (zero, 2) else h4 spans marked (val (q.take 8)) (q.drop 8)
def h2 (spans : List Sp) (q : List Int) : K × Int := if (getRow 0 q).2.2 ≠ 0 then (zero, (getRow 0 q).2.2) else h3 spans (getRow 0 q).1 (q.drop (getRow 0 q).2.1)
def h1 (q : List Int) : K × Int := if (getRow 1 q).2.2 ≠ 0 then (zero, (getRow 1 q).2.2) else h2 (getRow 1 q).1 (q.drop (getRow 1 q).2.1)
/-- What bytes are as an acknowledgment, or the error. -/
def getAck : List Int → K × Int
  | [] => (zero, 2)
  | x :: q => if x ≠ 2 then (zero, 4) else h1 q
/-- An acknowledgment that may be. -/
def may (a : K) : Bool := decide (1 ≤ (a.spans.length : Int)) && decide ((a.spans.length : Int) ≤ 32) && decide ((a.marked.length : Int) ≤ 32) && good a.spans && good a.marked && inside a.marked a.spans
theorem may_iff {a : K} : may a = true ↔ 1 ≤ (a.spans.length : Int) ∧ (a.spans.length : Int) ≤ 32 ∧ (a.marked.length : Int) ≤ 32 ∧ good a.spans = true ∧ good a.marked = true ∧ inside a.marked a.spans = true := by
  unfold may
  simp only [Bool.and_eq_true, decide_eq_true_eq, and_assoc]
def Fit (a : K) : Prop := (0 ≤ a.trigger ∧ a.trigger ≤ 18446744073709551615) ∧ 0 ≤ a.xor ∧ a.xor ≤ 18446744073709551615
theorem byte_is (b : Bool) : decide (byteOf b = 1) = b := by cases b <;> rfl
theorem byte_bd (b : Bool) : 0 ≤ byteOf b ∧ byteOf b ≤ 1 := by cases b <;> decide
theorem eight_take {n : Int} (n0 : 0 ≤ n) (n1 : n ≤ 18446744073709551615) (X : List Int) : ¬ (be 8 n ++ X).length < 8 ∧ val ((be 8 n ++ X).take 8) = n ∧ (be 8 n ++ X).drop 8 = X := by
  have hl := be_len 8 n
  refine ⟨by rw [List.length_append, hl]; omega, ?_, ?_⟩
  · rw [List.take_append_of_le_length (by omega), List.take_of_length_le (by omega), val_be, show n % 256 ^ 8 = n from Int.emod_eq_of_lt n0 (by omega)]
  · rw [List.drop_append_of_le_length (by omega), List.drop_eq_nil_of_le (by omega), List.nil_append]
theorem get_put {a : K} (hm : may a = true) (hf : Fit a) (more : List Int) : getAck (putAck a ++ more) = if more = [] then (a, 0) else (zero, 3) := by
  obtain ⟨m1, m2, m3, m4, m5, m6⟩ := may_iff.1 hm
  obtain ⟨⟨f1, f2⟩, f3, f4⟩ := hf
  obtain ⟨t1, t2, t3⟩ := eight_take f1 f2 (q4 a.xor a.parity ++ more)
  obtain ⟨x1, x2, x3⟩ := eight_take f3 f4 (q5 a.parity ++ more)
  have hp := byte_bd a.parity
  unfold putAck q1 q2 q3
  unfold q4 at t1 t2 t3 ⊢
  simp only [List.cons_append, List.append_assoc] at t1 t2 t3 ⊢
  rw [getAck, if_neg (by simp), h1, getRow_put _ m4 m1 m2]
  simp only [ne_eq, not_true_eq_false, if_false, List.drop_left]
  rw [h2, getRow_put _ m5 (by omega) m3]
  simp only [ne_eq, not_true_eq_false, if_false, List.drop_left]
  rw [h3, if_neg t1, t2, t3, h4, if_neg x1, x2, x3, q5, List.cons_append, List.nil_append, h5, if_neg (by omega)]
  cases more with
  | nil => rw [if_neg (by simp), if_pos m6, if_pos rfl, byte_is]
  | cons x r => rw [if_pos (by simp), if_neg (by simp)]
theorem get_one {l : List Int} (hb : Bytes l) {a : K} (h : getAck l = (a, 0)) : l = putAck a ∧ may a = true ∧ Fit a := by
  cases l with
  | nil => cases congrArg Prod.snd h
  | cons x q =>
    rw [getAck] at h
    split at h
    · cases congrArg Prod.snd h
    rename_i hx
    rw [h1] at h
    split at h
    · rename_i hy
      exact absurd (congrArg Prod.snd h) hy
    rename_i hy
    obtain ⟨a1, a2, a3, a4, a5⟩ := getRow_one (least := 1) (q := q) (l := (getRow 1 q).1) (k := (getRow 1 q).2.1) hb.tail (Prod.ext rfl (Prod.ext rfl (by simp only; omega)))
    generalize (getRow 1 q).1 = sp at *
    generalize (getRow 1 q).2.1 = ka at *
    have hb2 := hb.tail.drop ka
    rw [h2] at h
    split at h
    · rename_i hz
      exact absurd (congrArg Prod.snd h) hz
    rename_i hz
    obtain ⟨b1, b2, b3, b4, b5⟩ := getRow_one (least := 0) (q := q.drop ka) (l := (getRow 0 (q.drop ka)).1) (k := (getRow 0 (q.drop ka)).2.1) hb2 (Prod.ext rfl (Prod.ext rfl (by simp only; omega)))
    generalize (getRow 0 (q.drop ka)).1 = mk at *
    generalize (getRow 0 (q.drop ka)).2.1 = kb at *
    have hb3 := hb2.drop kb
    rw [h3] at h
    split at h
    · cases congrArg Prod.snd h
    rename_i hl1
    rw [h4] at h
    split at h
    · cases congrArg Prod.snd h
    rename_i hl2
    have v1 := val_bd8 (hb3.take 8) (by rw [List.length_take]; omega)
    have v2 := val_bd8 ((hb3.drop 8).take 8) (by rw [List.length_take]; omega)
    have w1 := be_val (hb3.take 8)
    have w2 := be_val ((hb3.drop 8).take 8)
    rw [show (((q.drop ka).drop kb).take 8).length = 8 by rw [List.length_take]; omega] at w1
    rw [show ((((q.drop ka).drop kb).drop 8).take 8).length = 8 by rw [List.length_take]; omega] at w2
    generalize hq5 : ((((q.drop ka).drop kb).drop 8).drop 8) = Q at *
    have hb5 : Bytes Q := by rw [← hq5]; exact (hb3.drop 8).drop 8
    cases Q with
    | nil => cases congrArg Prod.snd h
    | cons z r =>
      rw [h5] at h
      split at h
      · cases congrArg Prod.snd h
      rename_i hz1
      split at h
      · cases congrArg Prod.snd h
      rename_i hz2
      split at h
      · rename_i hin
        have hd := congrArg Prod.fst h
        simp only at hd
        subst hd
        have hr : r = [] := by simpa using hz2
        subst hr
        have hzb := hb5.head
        refine ⟨?_, may_iff.2 ⟨a2, a3, b3, a1, b1, hin⟩, v1, v2⟩
        unfold putAck q1 q2 q3 q4 q5
        simp only
        rw [w1, w2, a4, b4, show byteOf (decide (z = 1)) = z by
          unfold byteOf
          by_cases h1 : z = 1
          · simp [h1]
          · simp [h1]; omega, show x = 2 by omega, ← hq5, List.take_append_drop, List.take_append_drop, List.take_append_drop, List.take_append_drop]
      · cases congrArg Prod.snd h
theorem put_sp_bytes : ∀ (l : List Sp) (low : Int), Bytes (putSp low l)
  | [], _ => Bytes.nil
  | s :: r, low => (put_bytes _).append ((put_bytes _).append (put_sp_bytes r _))
theorem put_sp_len : ∀ (l : List Sp) (low : Int), (putSp low l).length ≤ 16 * l.length
  | [], _ => Nat.zero_le _
  | s :: r, low => by
    have := put_sp_len r (s.2 + 2)
    have a1 := put_len (s.1 - low)
    have a2 := put_len (s.2 - s.1)
    have b1 := size_bd (s.1 - low)
    have b2 := size_bd (s.2 - s.1)
    rw [putSp, List.length_append, List.length_append, List.length_cons]
    omega
theorem put_ack_bytes {a : K} (h : may a = true) : Bytes (putAck a) := by
  obtain ⟨m1, m2, m3, m4⟩ := may_iff.1 h
  have hp := byte_bd a.parity
  unfold putAck q1 q2 q3 q4 q5 putRow
  exact Bytes.cons (by omega) ((Bytes.cons (by omega) (put_sp_bytes _ _)).append ((Bytes.cons (by omega) (put_sp_bytes _ _)).append ((be_bytes 8 _).append ((be_bytes 8 _).append (Bytes.cons (by omega) Bytes.nil)))))
end Go.Proofs.YtkiloaebokkjbaaGreat.AckPlain

/-
  A packet's fields read one behind the other, up to the first error: the state's steps, and that they come to what bytes are as a packet. Nothing here names a program.
-/
set_option linter.unusedSimpArgs false
set_option linter.unusedVariables false
namespace Go.Proofs.YtkiloaebokkjbaaGreat.HeadPlain
set_option linter.unusedVariables false
open Go.Proofs.YtkiloaebokkjbaaGreat.OctPlain

/-- The bytes left, the error. -/
abbrev St := List Int × Int
def needE (ok : Bool) (er e : Int) : Int := if e = 0 ∧ ok = false then er else e
def numV (s : St) : Int := if s.2 = 0 then (num s.1).1 else 0
def numS (s : St) : St := if s.2 = 0 then (s.1.drop (num s.1).2.1, (num s.1).2.2) else s
def wordV (s : St) : Int := if s.2 = 0 ∧ 8 ≤ s.1.length then val (s.1.take 8) else 0
def wordS (s : St) : St := if s.2 = 0 then (if s.1.length < 8 then (s.1, 2) else (s.1.drop 8, 0)) else s
def takeV (n : Int) (s : St) : List Int := if s.2 = 0 ∧ n ≤ (s.1.length : Int) then s.1.take n.toNat else []
def takeS (n : Int) (s : St) : St := if s.2 = 0 then (if (s.1.length : Int) < n then (s.1, 2) else (s.1.drop n.toNat, 0)) else s
def oneV (s : St) : Int := if s.2 = 0 then s.1.headD 0 else 0
def oneS (s : St) : St := takeS 1 s
def fits (off size : Int) : Bool := decide (0 < size) && decide (size ≤ 1500) && decide (off ≤ M - size)
def point (e : Int) : Bool := decide (1 ≤ e) && decide (e ≤ 3)
def need (ok : Bool) (er : Int) (s : St) : St := (s.1, needE ok er s.2)
def fin (s : St) (d : D) : D × Int := if s.2 ≠ 0 then (zero, s.2) else (d, 0)
/-- .. what comes out, from the length on. -/
def t6 (ecn pn least off nonce : Int) (s : St) : D × Int :=
  let n := numV s
  let s1 := need (fits off n) 5 (numS s)
  let s2 := takeS n s1
  let s3 := need (decide ((s2.1.length : Int) = 0)) 3 s2
  fin s3 ⟨pn, least, off, nonce, ecn, takeV n s1⟩
def t5 (ecn pn least off : Int) (s : St) : D × Int := t6 ecn pn least off (wordV s) (wordS s)
def t4 (ecn pn least : Int) (s : St) : D × Int := t5 ecn pn least (numV s) (numS s)
def t3 (ecn pn : Int) (s : St) : D × Int := t4 ecn pn (numV s) (need (decide (numV s ≤ pn)) 5 (numS s))
def t2 (ecn : Int) (s : St) : D × Int := t3 ecn (numV s) (numS s)
def t1 (s : St) : D × Int := t2 (oneV s) (need (point (oneV s)) 5 (oneS s))
def t0 (s : St) : D × Int := t1 (need (decide (oneV s = 1)) 4 (oneS s))

/-- Eight bytes as a number, how many were read, the error. -/
def wrd (q : List Int) : Int × Nat × Int := if q.length < 8 then (0, 0, 2) else (val (q.take 8), 8, 0)
theorem wrd_len (q : List Int) : (wrd q).2.1 ≤ q.length := by
  unfold wrd
  split
  · exact Nat.zero_le _
  · show 8 ≤ q.length
    omega
theorem wrd_bd {q : List Int} (h : Bytes q) : 0 ≤ (wrd q).1 ∧ (wrd q).1 ≤ 18446744073709551615 := by
  unfold wrd
  split
  · exact ⟨Int.le_refl _, by decide⟩
  · exact val_bd8 (h.take 8) (by rw [List.length_take]; omega)
end Go.Proofs.YtkiloaebokkjbaaGreat.HeadPlain

/-
  Acknowledgments as bytes, step by step: what a loop over spans knows, a reading by places. Nothing here names a program.
-/
set_option linter.unusedSimpArgs false
set_option linter.unusedVariables false
namespace Go.Proofs.YtkiloaebokkjbaaGreat.AckPlain
set_option linter.unusedVariables false
open Go.Proofs.YtkiloaebokkjbaaGreat.OctPlain Go.Proofs.YtkiloaebokkjbaaGreat.SpanPlain
open Go.Proofs.YtkiloaebokkjbaaGreat.HeadPlain (wrd wrd_len wrd_bd)

theorem getSp_err : ∀ (n : Nat) (low : Int) (q : List Int), (getSp n low q).2.2 ≠ 0 → getSp n low q = ([], 0, (getSp n low q).2.2)
  | 0, _, _, h => absurd rfl h
  | n + 1, low, q, h => by
    rw [getSp] at h ⊢
    split at h
    · rename_i h1; rw [if_pos h1]
    · rename_i h1
      rw [if_neg h1]
      split at h
      · rename_i h2; rw [if_pos h2]
      · rename_i h2
        rw [if_neg h2]
        split at h
        · rename_i h3; rw [if_pos h3]
        · rename_i h3
          rw [if_neg h3]
          split at h
          · rename_i h4; rw [if_pos h4]
          · rename_i h4
            rw [if_neg h4]
            split at h
            · rename_i h5; rw [if_pos h5]
            · exact absurd rfl h
/-- Spans read so far, bytes used so far, and what comes of the rest. -/
def comb (pre : List Sp) (used : Nat) (r : List Sp × Nat × Int) : List Sp × Nat × Int := if r.2.2 ≠ 0 then ([], 0, r.2.2) else (pre ++ r.1, used + r.2.1, 0)
theorem comb_start (n : Nat) (low : Int) (q : List Int) : comb [] 0 (getSp n low q) = getSp n low q := by
  unfold comb
  by_cases h : (getSp n low q).2.2 = 0
  · rw [if_neg (by simp [h])]
    simp only [List.nil_append, Nat.zero_add]
    rw [← h]
  · rw [if_pos h, ← getSp_err n low q h]
theorem comb_end (pre : List Sp) (used : Nat) (low : Int) (q : List Int) : comb pre used (getSp 0 low q) = (pre, used, 0) := by
  simp [comb, getSp]
theorem comb_bad (pre : List Sp) (used : Nat) {r : List Sp × Nat × Int} {e : Int} (h : r = ([], 0, e)) (he : e ≠ 0) : comb pre used r = ([], 0, e) := by
  subst h
  exact if_pos he
theorem comb_num (pre : List Sp) (used m : Nat) {low : Int} {q : List Int} (h : (num q).2.2 ≠ 0) : comb pre used (getSp (m + 1) low q) = ([], 0, (num q).2.2) := by
  refine comb_bad _ _ ?_ h
  rw [getSp, if_pos h]
theorem comb_low (pre : List Sp) (used m : Nat) {low : Int} {q : List Int} (h : (num q).2.2 = 0) (h2 : SpanPlain.M < low ∨ SpanPlain.M - low < (num q).1) : comb pre used (getSp (m + 1) low q) = ([], 0, 5) := by
  refine comb_bad _ _ ?_ (by decide)
  rw [getSp, if_neg (by simp [h]), if_pos h2]
theorem comb_num2 (pre : List Sp) (used m : Nat) {low : Int} {q : List Int} (h : (num q).2.2 = 0) (h2 : ¬ (SpanPlain.M < low ∨ SpanPlain.M - low < (num q).1)) (h3 : (num (q.drop (num q).2.1)).2.2 ≠ 0) :
    comb pre used (getSp (m + 1) low q) = ([], 0, (num (q.drop (num q).2.1)).2.2) := by
  refine comb_bad _ _ ?_ h3
  rw [getSp, if_neg (by simp [h]), if_neg h2, if_pos h3]
theorem comb_high (pre : List Sp) (used m : Nat) {low : Int} {q : List Int} (h : (num q).2.2 = 0) (h2 : ¬ (SpanPlain.M < low ∨ SpanPlain.M - low < (num q).1)) (h3 : (num (q.drop (num q).2.1)).2.2 = 0) (h4 : SpanPlain.M - (low + (num q).1) < (num (q.drop (num q).2.1)).1) :
    comb pre used (getSp (m + 1) low q) = ([], 0, 5) := by
  refine comb_bad _ _ ?_ (by decide)
  rw [getSp, if_neg (by simp [h]), if_neg h2, if_neg (by simp [h3]), if_pos h4]
theorem comb_go (pre : List Sp) (used m : Nat) {low x y : Int} {q : List Int} {k1 k2 : Nat} (h : num q = (x, k1, 0)) (h2 : ¬ (SpanPlain.M < low ∨ SpanPlain.M - low < x)) (h3 : num (q.drop k1) = (y, k2, 0)) (h4 : ¬ SpanPlain.M - (low + x) < y) :
    comb pre used (getSp (m + 1) low q) = comb (pre ++ [(low + x, low + x + y)]) (used + (k1 + k2)) (getSp m (low + x + y + 2) ((q.drop k1).drop k2)) := by
  rw [getSp]
  simp only [h, h3]
  rw [if_neg (by simp), if_neg h2, if_neg (by simp), if_neg h4]
  generalize hr : getSp m (low + x + y + 2) ((q.drop k1).drop k2) = r
  obtain ⟨r1, r2, r3⟩ := r
  by_cases h5 : r3 = 0
  · subst h5
    simp [comb, Nat.add_assoc]
  · simp [comb, h5]
theorem getSp_len : ∀ (n : Nat) (low : Int) (q : List Int), (getSp n low q).2.1 ≤ q.length
  | 0, _, _ => Nat.zero_le _
  | n + 1, low, q => by
    rw [getSp]
    have a1 := num_len q
    have a2 := num_len (q.drop (num q).2.1)
    split
    · exact Nat.zero_le _
    split
    · exact Nat.zero_le _
    split
    · exact Nat.zero_le _
    split
    · exact Nat.zero_le _
    split
    · exact Nat.zero_le _
    · have a3 := getSp_len n (low + (num q).1 + (num (q.drop (num q).2.1)).1 + 2) ((q.drop (num q).2.1).drop (num (q.drop (num q).2.1)).2.1)
      rw [List.length_drop] at a2
      rw [List.length_drop, List.length_drop] at a3
      show (num q).2.1 + ((num (q.drop (num q).2.1)).2.1 + _) ≤ _
      omega
theorem getRow_len (least : Int) (q : List Int) : (getRow least q).2.1 ≤ q.length := by
  cases q with
  | nil => exact Nat.le_refl _
  | cons x q =>
    rw [getRow]
    have a := getSp_len x.toNat 0 q
    split
    · exact Nat.zero_le _
    split
    · exact Nat.zero_le _
    · show 1 + _ ≤ _
      rw [List.length_cons]
      omega
theorem putSp_step {l : List Sp} {i : Nat} (h : i < l.length) (low : Int) :
    putSp low (l.drop i) = put ((l.getD i (0, 0)).1 - low) ++ (put ((l.getD i (0, 0)).2 - (l.getD i (0, 0)).1) ++ putSp ((l.getD i (0, 0)).2 + 2) (l.drop (i + 1))) := by
  rw [drop_cons h, putSp]
theorem good_step {l : List Sp} {i : Nat} (h : i < l.length) {low : Int} (hg : goodFrom low (l.drop i) = true) :
    low ≤ (l.getD i (0, 0)).1 ∧ (l.getD i (0, 0)).1 ≤ (l.getD i (0, 0)).2 ∧ (l.getD i (0, 0)).2 ≤ 4611686018427387903 ∧ goodFrom ((l.getD i (0, 0)).2 + 2) (l.drop (i + 1)) = true := by
  rw [drop_cons h] at hg
  exact goodFrom_cons.1 hg
/-- What bytes are as an acknowledgment, by places. -/
theorem ack_at {l q : List Int} (hl : l = 2 :: q) {sp mk : List Sp} {trig xr e1 e2 e3 e4 : Int} {t1 t2 t3 t4 k1 k2 k3 k4 : Nat}
    (a1 : getRow 1 (l.drop 1) = (sp, k1, e1)) (u1 : t1 = 1 + k1) (a2 : getRow 0 (l.drop t1) = (mk, k2, e2)) (u2 : t2 = t1 + k2) (a3 : wrd (l.drop t2) = (trig, k3, e3)) (u3 : t3 = t2 + k3) (a4 : wrd (l.drop t3) = (xr, k4, e4)) (u4 : t4 = t3 + k4) :
    getAck l = if e1 ≠ 0 then (zero, e1) else if e2 ≠ 0 then (zero, e2) else if e3 ≠ 0 then (zero, e3) else if e4 ≠ 0 then (zero, e4) else h5 sp mk trig xr (l.drop t4) := by
  have hg : getAck l = h1 (l.drop 1) := by
    rw [hl, getAck, if_neg (show ¬ (2 : Int) ≠ 2 by simp)]
    rfl
  rw [hg]
  unfold h1 h2
  simp only [a1, List.drop_drop, ← u1, a2, ← u2]
  by_cases c1 : e1 = 0
  · by_cases c2 : e2 = 0
    · have w1 : ∀ X : List Int, ∀ r k e, wrd X = (r, k, e) → (X.length < 8 ∧ e = 2) ∨ (¬ X.length < 8 ∧ r = val (X.take 8) ∧ k = 8 ∧ e = 0) := fun X r k e h => by
        unfold wrd at h
        split at h
        · rename_i h8; cases h; exact Or.inl ⟨h8, rfl⟩
        · rename_i h8; cases h; exact Or.inr ⟨h8, rfl, rfl, rfl⟩
      simp only [c1, c2, ne_eq, not_true_eq_false, if_false]
      unfold h3
      rcases w1 _ _ _ _ a3 with ⟨b1, b2⟩ | ⟨b1, b2, b3, b4⟩
      · rw [if_pos b1, b2, if_pos (by simp)]
      · rw [if_neg b1, b4, if_neg (by simp), ← b2]
        unfold h4
        rw [List.drop_drop, show t2 + 8 = t3 by omega]
        rcases w1 _ _ _ _ a4 with ⟨d1, d2⟩ | ⟨d1, d2, d3, d4⟩
        · rw [if_pos d1, d2, if_pos (by simp)]
        · rw [if_neg d1, d4, if_neg (by simp), ← d2, List.drop_drop, show t3 + 8 = t4 by omega]
    · simp [c1, c2]
  · simp [c1]
theorem put_ack_len (a : K) : (putAck a).length ≤ 20 + 16 * a.spans.length + 16 * a.marked.length := by
  have h1 := put_sp_len a.spans 0
  have h2 := put_sp_len a.marked 0
  unfold putAck q1 q2 q3 q4 q5 putRow
  simp only [List.length_cons, List.length_append, be_len, List.length_nil]
  omega
/-- What bytes are as a challenge: its number, the error. -/
def getNum : List Int → Int × Int
  | [] => (0, 2)
  | x :: q => if x ≠ 3 then (0, 4) else if (num q).2.2 ≠ 0 then (0, (num q).2.2) else if q.drop (num q).2.1 ≠ [] then (0, 3) else ((num q).1, 0)
end Go.Proofs.YtkiloaebokkjbaaGreat.AckPlain
