/-
  Numbers as bytes, the highest byte first: plain facts. Nothing here names a program.
-/
import Derived.Laws.BytesArg
import Derived.Laws.Strings
import Derived.IntWalk
import Derived.Laws.Bits64b
set_option linter.unusedSimpArgs false
set_option linter.unusedVariables false
namespace Go.Proofs.Ytlnncfjfphkkdaa.OctPlain
set_option linter.unusedVariables false

def Bytes (l : List Int) : Prop := ∀ x ∈ l, 0 ≤ x ∧ x ≤ 255
theorem Bytes.nil : Bytes [] := fun _ h => by cases h
theorem Bytes.cons {x : Int} {l : List Int} (h : 0 ≤ x ∧ x ≤ 255) (hl : Bytes l) : Bytes (x :: l) := fun y hy => by
  rcases List.mem_cons.1 hy with rfl | hy
  · exact h
  · exact hl y hy
theorem Bytes.head {x : Int} {l : List Int} (h : Bytes (x :: l)) : 0 ≤ x ∧ x ≤ 255 := h x (by simp)
theorem Bytes.tail {x : Int} {l : List Int} (h : Bytes (x :: l)) : Bytes l := fun y hy => h y (by simp [hy])
theorem Bytes.take {l : List Int} (h : Bytes l) (k : Nat) : Bytes (l.take k) := fun y hy => h y (List.mem_of_mem_take hy)
theorem Bytes.drop {l : List Int} (h : Bytes l) (k : Nat) : Bytes (l.drop k) := fun y hy => h y (List.mem_of_mem_drop hy)
theorem Bytes.append {l m : List Int} (h : Bytes l) (k : Bytes m) : Bytes (l ++ m) := fun y hy => by
  rcases List.mem_append.1 hy with hy | hy
  · exact h y hy
  · exact k y hy
theorem Bytes.at {l : List Int} (h : Bytes l) (i : Nat) : 0 ≤ l.getD i 0 ∧ l.getD i 0 ≤ 255 := by
  rw [List.getD_eq_getElem?_getD]
  cases hx : l[i]? with
  | none => simp
  | some x => exact h x (List.mem_of_getElem? hx)

theorem pow_pos (k : Nat) : (0 : Int) < 256 ^ k := Int.pow_pos (by decide)

/-- The k lowest bytes of n, the highest of them first. -/
def be : Nat → Int → List Int
  | 0, _ => []
  | k + 1, n => n / 256 ^ k % 256 :: be k n
theorem be_len : ∀ (k : Nat) (n : Int), (be k n).length = k
  | 0, _ => rfl
  | k + 1, n => by rw [be, List.length_cons, be_len k n]
theorem be_bytes : ∀ (k : Nat) (n : Int), Bytes (be k n)
  | 0, _ => Bytes.nil
  | k + 1, n => Bytes.cons (by omega) (be_bytes k n)
theorem be_get : ∀ (k : Nat) (n : Int) (j : Nat), j < k → (be k n)[j]? = some (n / 256 ^ (k - 1 - j) % 256)
  | k + 1, n, 0, _ => by simp [be]
  | k + 1, n, j + 1, h => by
    rw [be, List.getElem?_cons_succ, be_get k n j (by omega)]
    rw [show k - 1 - j = k + 1 - 1 - (j + 1) by omega]
/-- The first i of the k bytes of n, then zeros. -/
def row (k : Nat) (n : Int) (i : Nat) : List Int := (be k n).take i ++ List.replicate (k - i) 0
theorem row_zero (k : Nat) (n : Int) : row k n 0 = List.replicate k 0 := by simp [row]
theorem row_full (k : Nat) (n : Int) : row k n k = be k n := by simp [row, List.take_of_length_le, be_len]
theorem row_len {k i : Nat} (n : Int) (h : i ≤ k) : (row k n i).length = k := by simp [row, be_len]; omega
theorem row_set {k i : Nat} (n : Int) (h : i < k) : (row k n i).set i (n / 256 ^ (k - 1 - i) % 256) = row k n (i + 1) := by
  have hg := be_get k n i h
  have e : (be k n).take (i + 1) = (be k n).take i ++ [n / 256 ^ (k - 1 - i) % 256] := by rw [List.take_add_one, hg]; rfl
  obtain ⟨m, hm⟩ : ∃ m, k - i = m + 1 := ⟨k - i - 1, by omega⟩
  have hl : ((be k n).take i).length = i := by rw [List.length_take, be_len]; omega
  unfold row
  rw [e, hm, show k - (i + 1) = m by omega, List.set_append_right _ _ (by omega), hl, Nat.sub_self, List.replicate_succ, List.set_cons_zero, List.append_assoc]
  rfl
theorem row_put {k i : Nat} (n : Int) (h : i < k) (f : Int → Value) : ((row k n i).map f).toArray.setIfInBounds i (f (n / 256 ^ (k - 1 - i) % 256)) = ((row k n (i + 1)).map f).toArray := by
  rw [← row_set n h, List.map_set]
  simp
theorem pow_byte {k i : Nat} (h : i < k) : (2 : Int) ^ (8 * ((k : Int) - 1 - i)).toNat = 256 ^ (k - 1 - i) := by
  rw [show (8 * ((k : Int) - 1 - i)).toNat = 8 * (k - 1 - i) by omega, Int.pow_mul]
  rfl
/-- The number of these bytes. -/
def val (l : List Int) : Int := l.foldl (fun a x => a * 256 + x) 0
theorem fold_val : ∀ (l : List Int) (a : Int), l.foldl (fun a x => a * 256 + x) a = a * 256 ^ l.length + val l
  | [], a => by simp [val]
  | x :: l, a => by
    have e : val (x :: l) = l.foldl (fun a x => a * 256 + x) (0 * 256 + x) := rfl
    rw [e, List.foldl_cons, fold_val l, fold_val l (0 * 256 + x), List.length_cons, Int.pow_succ]
    rw [Int.add_mul, Int.zero_mul, Int.zero_add, Int.mul_assoc, Int.mul_comm 256, Int.add_assoc]
theorem val_cons (x : Int) (l : List Int) : val (x :: l) = x * 256 ^ l.length + val l := by
  have e : val (x :: l) = l.foldl (fun a x => a * 256 + x) (0 * 256 + x) := rfl
  rw [e, fold_val]
  simp
theorem val_append (l m : List Int) : val (l ++ m) = val l * 256 ^ m.length + val m := by
  show (l ++ m).foldl _ 0 = _
  rw [List.foldl_append, fold_val]
  rfl
theorem val_snoc (l : List Int) (x : Int) : val (l ++ [x]) = val l * 256 + x := by
  rw [val_append]
  simp [val]
theorem val_bd : ∀ {l : List Int}, Bytes l → 0 ≤ val l ∧ val l < 256 ^ l.length
  | [], _ => by simp [val]
  | x :: l, h => by
    obtain ⟨h0, h1⟩ := h.head
    obtain ⟨v0, v1⟩ := val_bd h.tail
    have hp := pow_pos l.length
    rw [val_cons, List.length_cons, Int.pow_succ]
    have a1 : 0 ≤ x * 256 ^ l.length := Int.mul_nonneg h0 (by omega)
    have a2 : x * 256 ^ l.length ≤ 255 * 256 ^ l.length := Int.mul_le_mul_of_nonneg_right h1 (by omega)
    omega
theorem val_be : ∀ (k : Nat) (n : Int), val (be k n) = n % 256 ^ k
  | 0, n => by simp [be, val, Int.emod_one]
  | k + 1, n => by
    rw [be, val_cons, be_len, val_be k n, Int.pow_succ]
    have hp := pow_pos k
    have e1 := Int.emod_add_mul_ediv n (256 ^ k)
    have e2 := Int.emod_add_mul_ediv (n / 256 ^ k) 256
    have b1 := Int.emod_nonneg n (by omega : (256 : Int) ^ k ≠ 0)
    have b2 := Int.emod_lt_of_pos n hp
    generalize (256 : Int) ^ k = p at *
    generalize n / p = q at *
    have h : n = (q % 256 * p + n % p) + p * 256 * (q / 256) := by
      have e3 : p * q = p * (q % 256) + p * 256 * (q / 256) := by rw [Int.mul_assoc, ← Int.mul_add, e2]
      rw [Int.mul_comm (q % 256) p]
      omega
    have c1 : 0 ≤ q % 256 * p := Int.mul_nonneg (by omega) (by omega)
    have c2 : q % 256 * p ≤ 255 * p := Int.mul_le_mul_of_nonneg_right (by omega) (by omega)
    symm
    conv => lhs; rw [h]
    rw [Int.add_mul_emod_self_left]
    exact Int.emod_eq_of_lt (by omega) (by omega)
theorem be_mod : ∀ (k : Nat) (a b : Int), a % 256 ^ k = b % 256 ^ k → be k a = be k b
  | 0, _, _, _ => rfl
  | k + 1, a, b, h => by
    have hd : ∀ n : Int, n % 256 ^ (k + 1) / 256 ^ k % 256 = n / 256 ^ k % 256 := fun n => by
      have e := Int.emod_add_mul_ediv n (256 ^ (k + 1))
      have : n = n % 256 ^ (k + 1) + 256 ^ k * (256 * (n / 256 ^ (k + 1))) := by
        rw [← Int.mul_assoc, ← Int.pow_succ]; exact e.symm
      conv => rhs; rw [this]
      rw [Int.add_mul_ediv_left _ _ (by have := pow_pos k; omega), Int.add_mul_emod_self_left]
    have hm : ∀ n : Int, n % 256 ^ (k + 1) % 256 ^ k = n % 256 ^ k := fun n => Int.emod_emod_of_dvd n ⟨256, Int.pow_succ _ _⟩
    rw [be, be, ← hd a, ← hd b, h, be_mod k a b (by rw [← hm a, ← hm b, h])]
theorem be_val : ∀ {l : List Int}, Bytes l → be l.length (val l) = l
  | [], _ => rfl
  | x :: l, h => by
    obtain ⟨h0, h1⟩ := h.head
    obtain ⟨v0, v1⟩ := val_bd h.tail
    have hp := pow_pos l.length
    rw [List.length_cons, be, val_cons]
    have e1 : (x * 256 ^ l.length + val l) / 256 ^ l.length = x := by
      rw [Int.add_comm, Int.mul_comm, Int.add_mul_ediv_left _ _ (by omega), Int.ediv_eq_zero_of_lt v0 v1]
      omega
    have e2 : be l.length (x * 256 ^ l.length + val l) = be l.length (val l) := be_mod _ _ _ (by
      rw [Int.add_comm, Int.mul_comm, Int.add_mul_emod_self_left])
    rw [e1, e2, be_val h.tail, Int.emod_eq_of_lt h0 (by omega)]

theorem val_take {l : List Int} {k : Nat} (hk : k < l.length) : val (l.take (k + 1)) = val (l.take k) * 256 + l.getD k 0 := by
  have e : l.take (k + 1) = l.take k ++ [l.getD k 0] := by
    rw [List.take_add_one]
    simp [List.getD, hk]
  rw [e, val_snoc]
theorem pow_le8 {k : Nat} (h : k ≤ 8) : (256 : Int) ^ k ≤ 18446744073709551616 := by
  have : (256 : Nat) ^ k ≤ 256 ^ 8 := Nat.pow_le_pow_right (by decide) h
  have e : ((256 ^ k : Nat) : Int) = (256 : Int) ^ k := by simp
  rw [← e]
  omega
theorem pow_le7 {k : Nat} (h : k ≤ 7) : (256 : Int) ^ k ≤ 72057594037927936 := by
  have : (256 : Nat) ^ k ≤ 256 ^ 7 := Nat.pow_le_pow_right (by decide) h
  have e : ((256 ^ k : Nat) : Int) = (256 : Int) ^ k := by simp
  rw [← e]
  omega
theorem val_bd8 {l : List Int} (h : Bytes l) (h8 : l.length ≤ 8) : 0 ≤ val l ∧ val l ≤ 18446744073709551615 := by
  have := val_bd h
  have := pow_le8 h8
  omega
theorem val_bd7 {l : List Int} (h : Bytes l) (h7 : l.length ≤ 7) : 0 ≤ val l ∧ val l ≤ 72057594037927935 := by
  have := val_bd h
  have := pow_le7 h7
  omega
theorem or_byte {v x : Int} (v0 : 0 ≤ v) (v1 : v ≤ 72057594037927935) (x0 : 0 ≤ x) (x1 : x ≤ 255) : bits .or .u64 (v * 256) x = v * 256 + x := by
  obtain ⟨V, rfl⟩ := Int.eq_ofNat_of_zero_le v0
  obtain ⟨X, rfl⟩ := Int.eq_ofNat_of_zero_le x0
  rw [show ((V : Int) * 256) = ((2 ^ 8 * V : Nat) : Int) by omega, bits_or_u64_nat (2 ^ 8 * V) X (by omega) (by omega), ← Nat.two_pow_add_eq_or_of_lt (by omega)]
  rfl
theorem bits_or_u8_nat (a b : Nat) (ha : a < 256) (hb : b < 256) : bits .or .u8 (a : Int) (b : Int) = ((a ||| b : Nat) : Int) := by
  have hx : a ||| b < 2 ^ 8 := Nat.or_lt_two_pow (by omega) (by omega)
  have h1 : (BitVec.ofInt 8 (a : Int)).toNat = a := by
    rw [BitVec.ofInt_natCast, BitVec.toNat_ofNat]; exact Nat.mod_eq_of_lt (by omega)
  have h2 : (BitVec.ofInt 8 (b : Int)).toNat = b := by
    rw [BitVec.ofInt_natCast, BitVec.toNat_ofNat]; exact Nat.mod_eq_of_lt (by omega)
  show IntKind.u8.wrap ((BitVec.ofInt 8 (a : Int) ||| BitVec.ofInt 8 (b : Int)).toNat : Int) = _
  rw [BitVec.toNat_or, h1, h2, IntKind.wrap_u8]
  omega
theorem or_tag {c x : Int} (c0 : 0 ≤ c) (c1 : c ≤ 3) (x0 : 0 ≤ x) (x1 : x < 64) : bits .or .u8 x (c * 64) = x + c * 64 := by
  obtain ⟨C, rfl⟩ := Int.eq_ofNat_of_zero_le c0
  obtain ⟨X, rfl⟩ := Int.eq_ofNat_of_zero_le x0
  rw [show ((C : Int) * 64) = ((2 ^ 6 * C : Nat) : Int) by omega, bits_or_u8_nat X (2 ^ 6 * C) (by omega) (by omega), Nat.or_comm, ← Nat.two_pow_add_eq_or_of_lt (by omega)]
  omega
/-- How many bytes a number takes. -/
def size (n : Int) : Int := if n < 64 then 1 else if n < 16384 then 2 else if n < 1073741824 then 4 else if n ≤ 4611686018427387903 then 8 else 0
def put (n : Int) : List Int := if n < 64 then be 1 n else if n < 16384 then be 2 (n + 16384) else if n < 1073741824 then be 4 (n + 2147483648) else if n ≤ 4611686018427387903 then be 8 (n + 13835058055282163712) else []
theorem put_bytes (n : Int) : Bytes (put n) := by
  unfold put
  repeat' split
  all_goals first | exact be_bytes _ _ | exact Bytes.nil
theorem put_len (n : Int) : ((put n).length : Int) = size n := by
  unfold put size
  repeat' split
  all_goals simp [be_len]
theorem size_bd (n : Int) : 0 ≤ size n ∧ size n ≤ 8 := by unfold size; repeat' split; all_goals omega
theorem put_pos {n : Int} (h : n ≤ 4611686018427387903) : 0 < (put n).length := by
  have := put_len n
  unfold size at this
  revert this
  repeat' split
  all_goals omega
theorem be_tag {j : Nat} {n c : Int} (hn : n < 64 * 256 ^ j) (n0 : 0 ≤ n) (c0 : 0 ≤ c) (c1 : c ≤ 3) : be (j + 1) (n + c * (64 * 256 ^ j)) = (n / 256 ^ j % 256 + c * 64) :: be j n ∧ n / 256 ^ j % 256 < 64 := by
  have hp := pow_pos j
  have e0 : c * (64 * (256 : Int) ^ j) = 256 ^ j * (c * 64) := by rw [← Int.mul_assoc, Int.mul_comm]
  have q0 : 0 ≤ n / 256 ^ j := Int.ediv_nonneg n0 (by omega)
  have q1 : n / 256 ^ j < 64 := Int.ediv_lt_of_lt_mul hp hn
  have e1 : (n + c * (64 * 256 ^ j)) / 256 ^ j = n / 256 ^ j + c * 64 := by rw [e0, Int.add_mul_ediv_left _ _ (by omega)]
  have e2 : be j (n + c * (64 * 256 ^ j)) = be j n := be_mod _ _ _ (by rw [e0, Int.add_mul_emod_self_left])
  rw [be, e1, e2]
  generalize n / 256 ^ j = q at *
  constructor
  · congr 1
    omega
  · omega
/-- A number that may be: how many bytes (one and j), and the bits of the first that tell it. -/
theorem put_form {n : Int} (n0 : 0 ≤ n) (n1 : n ≤ 4611686018427387903) : ∃ (j : Nat) (c : Nat), ((j = 0 ∧ c = 0) ∨ (j = 1 ∧ c = 1) ∨ (j = 3 ∧ c = 2) ∨ (j = 7 ∧ c = 3)) ∧ size n = (j : Int) + 1 ∧ n / 256 ^ j % 256 < 64 ∧ put n = (n / 256 ^ j % 256 + (c : Int) * 64) :: be j n := by
  by_cases a : n < 64
  · obtain ⟨h1, h2⟩ := be_tag (j := 0) (c := 0) (by omega) n0 (by omega) (by omega)
    refine ⟨0, 0, .inl ⟨rfl, rfl⟩, by unfold size; rw [if_pos a]; rfl, h2, ?_⟩
    unfold put; rw [if_pos a]
    exact (show be 1 n = be (0 + 1) (n + 0 * (64 * 256 ^ 0)) by rw [Int.zero_mul, Int.add_zero]).trans h1
  by_cases b : n < 16384
  · obtain ⟨h1, h2⟩ := be_tag (j := 1) (c := 1) (by omega) n0 (by omega) (by omega)
    refine ⟨1, 1, .inr (.inl ⟨rfl, rfl⟩), by unfold size; rw [if_neg a, if_pos b]; rfl, h2, ?_⟩
    unfold put; rw [if_neg a, if_pos b]
    exact h1
  by_cases c : n < 1073741824
  · obtain ⟨h1, h2⟩ := be_tag (j := 3) (c := 2) (by omega) n0 (by omega) (by omega)
    refine ⟨3, 2, .inr (.inr (.inl ⟨rfl, rfl⟩)), by unfold size; rw [if_neg a, if_neg b, if_pos c]; rfl, h2, ?_⟩
    unfold put; rw [if_neg a, if_neg b, if_pos c]
    exact h1
  · obtain ⟨h1, h2⟩ := be_tag (j := 7) (c := 3) (by omega) n0 (by omega) (by omega)
    refine ⟨7, 3, .inr (.inr (.inr ⟨rfl, rfl⟩)), by unfold size; rw [if_neg a, if_neg b, if_neg c, if_pos n1]; rfl, h2, ?_⟩
    unfold put; rw [if_neg a, if_neg b, if_neg c, if_pos n1]
    exact h1
theorem put_none {n : Int} (h : 4611686018427387903 < n) : put n = [] ∧ size n = 0 := by
  unfold put size
  rw [if_neg (by omega), if_neg (by omega), if_neg (by omega), if_neg (by omega), if_neg (by omega), if_neg (by omega), if_neg (by omega), if_neg (by omega)]
  exact ⟨rfl, rfl⟩
/-- How many bytes the first one asks for. -/
def need (x : Int) : Nat := if x < 64 then 1 else if x < 128 then 2 else if x < 192 then 4 else 8
theorem need_bd (x : Int) : 1 ≤ need x ∧ need x ≤ 8 := by
  unfold need
  split
  · decide
  split
  · decide
  split <;> decide
theorem need_div {x : Int} (h : 0 ≤ x ∧ x ≤ 255) : (need x = 1 → x / 64 = 0) ∧ (need x = 2 → x / 64 = 1) ∧ (need x = 4 → x / 64 = 2) ∧ (need x = 8 → x / 64 = 3) := by
  unfold need
  by_cases a : x < 64
  · simp [a]; omega
  by_cases b : x < 128
  · simp [a, b]; omega
  by_cases c : x < 192
  · simp [a, b, c]; omega
  · simp [a, b, c]; omega
theorem need_pow {x : Int} (h : 0 ≤ x ∧ x ≤ 255) : IntKind.i64.wrap (2 ^ (x / 64).toNat) = (need x : Int) := by
  unfold need
  by_cases a : x < 64
  · rw [if_pos a, show x / 64 = 0 by omega]; rfl
  by_cases b : x < 128
  · rw [if_neg a, if_pos b, show x / 64 = 1 by omega]; rfl
  by_cases c : x < 192
  · rw [if_neg a, if_neg b, if_pos c, show x / 64 = 2 by omega]; rfl
  · rw [if_neg a, if_neg b, if_neg c, show x / 64 = 3 by omega]; rfl
theorem and_mask {v : Int} {k : Nat} (v0 : 0 ≤ v) (v1 : v ≤ 18446744073709551615) (k1 : 1 ≤ k) (k2 : k ≤ 8) : bits .and .u64 v (IntKind.u64.wrap (IntKind.u64.wrap (2 ^ (8 * k - 2)) - 1)) = v % (64 * 256 ^ (k - 1)) := by
  obtain ⟨X, rfl⟩ := Int.eq_ofNat_of_zero_le v0
  have hp : (2 : Nat) ^ (8 * k - 2) ≤ 2 ^ 62 := Nat.pow_le_pow_right (by decide +kernel) (by omega)
  have h1 : 1 ≤ (2 : Nat) ^ (8 * k - 2) := Nat.one_le_two_pow
  have e : IntKind.u64.wrap (IntKind.u64.wrap (2 ^ (8 * k - 2)) - 1) = ((2 ^ (8 * k - 2) - 1 : Nat) : Int) := by
    have : (2 : Int) ^ (8 * k - 2) = ((2 ^ (8 * k - 2) : Nat) : Int) := by simp
    rw [IntKind.wrap_u64, IntKind.wrap_u64, this]
    omega
  have e2 : (64 * 256 ^ (k - 1) : Int) = ((2 ^ (8 * k - 2) : Nat) : Int) := by
    rw [show (8 * k - 2) = 6 + 8 * (k - 1) by omega, Nat.pow_add, Nat.pow_mul]
    simp
  rw [e, bits_and_u64_nat _ _ (by omega) (by omega), Nat.and_two_pow_sub_one_eq_mod, e2]
  rfl
/-- The lengths. -/
def pw : Nat → Int | 0 => 1 | 1 => 2 | 2 => 4 | _ => 8
theorem pw_bd (t : Nat) : 1 ≤ pw t ∧ pw t ≤ 8 := by
  match t with
  | 0 => decide
  | 1 => decide
  | 2 => decide
  | t + 3 => exact (by decide : (1 : Int) ≤ 8 ∧ (8 : Int) ≤ 8)
theorem pw_half {t : Nat} (h : 0 < t) (h3 : t ≤ 3) : 1 < pw t ∧ pw t / 2 = pw (t - 1) := by
  match t, h with
  | 1, _ => decide
  | 2, _ => decide
  | 3, _ => decide
theorem pw_zero : pw 0 = 1 := rfl
theorem and_255 {x : Int} (x0 : 0 ≤ x) (x1 : x ≤ 18446744073709551615) : bits .and .u64 x 255 = x % 256 := by
  obtain ⟨X, rfl⟩ := Int.eq_ofNat_of_zero_le x0
  have h := bits_and_u64_nat X 255 (by omega) (by omega)
  rw [show X &&& 255 = X % 256 from Nat.and_two_pow_sub_one_eq_mod X 8] at h
  exact h
theorem bits_and_u8_nat (a b : Nat) (ha : a < 256) (hb : b < 256) : bits .and .u8 (a : Int) (b : Int) = ((a &&& b : Nat) : Int) := by
  have hx : a &&& b < 2 ^ 8 := Nat.and_lt_two_pow _ (by omega)
  have h1 : (BitVec.ofInt 8 (a : Int)).toNat = a := by
    rw [BitVec.ofInt_natCast, BitVec.toNat_ofNat]; exact Nat.mod_eq_of_lt (by omega)
  have h2 : (BitVec.ofInt 8 (b : Int)).toNat = b := by
    rw [BitVec.ofInt_natCast, BitVec.toNat_ofNat]; exact Nat.mod_eq_of_lt (by omega)
  show IntKind.u8.wrap ((BitVec.ofInt 8 (a : Int) &&& BitVec.ofInt 8 (b : Int)).toNat : Int) = _
  rw [BitVec.toNat_and, h1, h2, IntKind.wrap_u8]
  omega
theorem and_63 {x : Int} (x0 : 0 ≤ x) (x1 : x ≤ 255) : bits .and .u8 x 63 = x % 64 := by
  obtain ⟨X, rfl⟩ := Int.eq_ofNat_of_zero_le x0
  have h := bits_and_u8_nat X 63 (by omega) (by omega)
  rw [show X &&& 63 = X % 64 from Nat.and_two_pow_sub_one_eq_mod X 6] at h
  exact h
theorem and_62 {x : Int} (x0 : 0 ≤ x) (x1 : x ≤ 18446744073709551615) : bits .and .u64 x 4611686018427387903 = x % 4611686018427387904 := by
  obtain ⟨X, rfl⟩ := Int.eq_ofNat_of_zero_le x0
  have h := bits_and_u64_nat X 4611686018427387903 (by omega) (by omega)
  rw [show X &&& 4611686018427387903 = X % 4611686018427387904 from Nat.and_two_pow_sub_one_eq_mod X 62] at h
  exact h
theorem pow_eight (m : Nat) : (2 : Int) ^ (8 * m) = 256 ^ m := by rw [Int.pow_mul]; rfl
/-- What a reader finds: the number, how many bytes it took, the error. -/
def num : List Int → Int × Nat × Int
  | [] => (0, 0, 2)
  | x :: r => if (x :: r).length < need x then (0, 0, 2)
    else if size (val (x % 64 :: r.take (need x - 1))) = need x then (val (x % 64 :: r.take (need x - 1)), need x, 0) else (0, 0, 5)
theorem num_cons (x : Int) (r : List Int) : num (x :: r) = if (x :: r).length < need x then (0, 0, 2)
    else if size (val (x % 64 :: r.take (need x - 1))) = need x then (val (x % 64 :: r.take (need x - 1)), need x, 0) else (0, 0, 5) := rfl
theorem num_len (l : List Int) : (num l).2.1 ≤ l.length := by
  cases l with
  | nil => simp [num]
  | cons x r =>
    rw [num_cons]
    have := need_bd x
    split
    · simp
    rename_i h
    split
    · simpa using h
    · simp
theorem num_err (l : List Int) : 0 ≤ (num l).2.2 ∧ (num l).2.2 ≤ 5 := by
  cases l with
  | nil => simp [num]
  | cons x r =>
    rw [num_cons]
    split
    · simp
    split <;> simp
theorem num_fail (l : List Int) (h : (num l).2.2 ≠ 0) : (num l).1 = 0 ∧ (num l).2.1 = 0 := by
  cases l with
  | nil => exact ⟨rfl, rfl⟩
  | cons x r =>
    rw [num_cons] at h ⊢
    split at h
    · rename_i h1; rw [if_pos h1]; exact ⟨rfl, rfl⟩
    · rename_i h1
      rw [if_neg h1]
      split at h
      · exact absurd rfl h
      · rename_i h2; rw [if_neg h2]; exact ⟨rfl, rfl⟩
/-- The bytes behind the first one, its two highest bits cut off: as the rest of the number with them in. -/
theorem val_cut {x : Int} {r : List Int} (hx : 0 ≤ x ∧ x ≤ 255) (hr : Bytes r) : val (x % 64 :: r) = val (x :: r) % (64 * 256 ^ r.length) := by
  obtain ⟨v0, v1⟩ := val_bd hr
  have hp := pow_pos r.length
  rw [val_cons, val_cons]
  generalize (256 : Int) ^ r.length = p at *
  have e : x * p + val r = (x % 64 * p + val r) + 64 * p * (x / 64) := by
    have : x * p = (x % 64) * p + 64 * p * (x / 64) := by
      rw [Int.mul_right_comm, ← Int.add_mul]
      congr 1
      omega
    omega
  have c1 : 0 ≤ x % 64 * p := Int.mul_nonneg (by omega) (by omega)
  have c2 : x % 64 * p ≤ 63 * p := Int.mul_le_mul_of_nonneg_right (by omega) (by omega)
  rw [e, Int.add_mul_emod_self_left]
  exact (Int.emod_eq_of_lt (by omega) (by omega)).symm
theorem num_bd {l : List Int} (h : Bytes l) : 0 ≤ (num l).1 ∧ (num l).1 ≤ 4611686018427387903 := by
  cases l with
  | nil => simp [num]
  | cons x r =>
    rw [num_cons]
    split
    · simp
    · split
      · rename_i h1 h2
        have hb := val_bd (Bytes.cons (x := x % 64) (by omega) (h.tail.take (need x - 1)))
        refine ⟨hb.1, ?_⟩
        show val _ ≤ _
        have h3 := need_bd x
        generalize val (x % 64 :: r.take (need x - 1)) = n at h2 hb
        unfold size at h2
        revert h2
        repeat' split
        all_goals omega
      · simp
/-- The encoding at a number's length k: c the two bits of the first byte. -/
theorem num_form {k : Nat} {c n : Int} (more : List Int) (h0 : 0 ≤ n) (hc : 0 ≤ c ∧ c ≤ 3) (hn : n < 64 * 256 ^ k) (hs : size n = (k + 1 : Nat)) (hk : ∀ y, c * 64 ≤ y → y < c * 64 + 64 → need y = k + 1) :
    num (be (k + 1) (n + c * (64 * 256 ^ k)) ++ more) = (n, k + 1, 0) := by
  have hp := pow_pos k
  have e1 : (n + c * (64 * 256 ^ k)) / 256 ^ k = n / 256 ^ k + c * 64 := by
    rw [show c * (64 * (256 : Int) ^ k) = 256 ^ k * (c * 64) by rw [← Int.mul_assoc, Int.mul_comm], Int.add_mul_ediv_left _ _ (by omega)]
  have q0 : 0 ≤ n / 256 ^ k := Int.ediv_nonneg h0 (by omega)
  have q1 : n / 256 ^ k < 64 := Int.ediv_lt_of_lt_mul hp hn
  have e2 : (n / 256 ^ k + c * 64) % 256 = n / 256 ^ k + c * 64 := Int.emod_eq_of_lt (by omega) (by omega)
  have e3 : be k (n + c * (64 * 256 ^ k)) = be k n := be_mod _ _ _ (by
    rw [show c * (64 * (256 : Int) ^ k) = 256 ^ k * (c * 64) by rw [← Int.mul_assoc, Int.mul_comm], Int.add_mul_emod_self_left])
  rw [be, e1, e2, e3, List.cons_append]
  generalize hq : n / 256 ^ k = q at *
  have hk' := hk (q + c * 64) (by omega) (by omega)
  have hv : val ((q + c * 64) % 64 :: (be k n ++ more).take (need (q + c * 64) - 1)) = n := by
    rw [hk', Nat.add_sub_cancel, List.take_append_of_le_length (by rw [be_len]; omega), List.take_of_length_le (by rw [be_len]; omega), val_cons, be_len, val_be,
      show (q + c * 64) % 64 = q by omega, ← hq, Int.mul_comm, Int.add_comm]
    exact Int.emod_add_mul_ediv n _
  rw [num_cons, hv, hk', if_neg (by simp only [List.length_cons, List.length_append, be_len]; omega), if_pos hs]
theorem num_put {n : Int} (more : List Int) (h0 : 0 ≤ n) (h1 : n ≤ 4611686018427387903) : num (put n ++ more) = (n, (put n).length, 0) := by
  by_cases a : n < 64
  · have hp : put n = be 1 n := by unfold put; rw [if_pos a]
    have := num_form (k := 0) (c := 0) more h0 (by omega) (by omega) (by unfold size; rw [if_pos a]; rfl) (fun y _ h => by unfold need; rw [if_pos (by omega)])
    rw [hp, be_len]
    simpa using this
  by_cases b : n < 16384
  · have hp : put n = be 2 (n + 16384) := by unfold put; rw [if_neg a, if_pos b]
    have := num_form (k := 1) (c := 1) more h0 (by omega) (by omega) (by unfold size; rw [if_neg a, if_pos b]; rfl) (fun y _ h => by unfold need; rw [if_neg (by omega), if_pos (by omega)])
    rw [hp, be_len]
    simpa using this
  by_cases c : n < 1073741824
  · have hp : put n = be 4 (n + 2147483648) := by unfold put; rw [if_neg a, if_neg b, if_pos c]
    have := num_form (k := 3) (c := 2) more h0 (by omega) (by omega) (by unfold size; rw [if_neg a, if_neg b, if_pos c]; rfl) (fun y _ h => by unfold need; rw [if_neg (by omega), if_neg (by omega), if_pos (by omega)])
    rw [hp, be_len]
    simpa using this
  · have hp : put n = be 8 (n + 13835058055282163712) := by unfold put; rw [if_neg a, if_neg b, if_neg c, if_pos h1]
    have := num_form (k := 7) (c := 3) more h0 (by omega) (by omega) (by unfold size; rw [if_neg a, if_neg b, if_neg c, if_pos h1]; rfl) (fun y h _ => by unfold need; rw [if_neg (by omega), if_neg (by omega), if_neg (by omega)])
    rw [hp, be_len]
    simpa using this
theorem num_head {x : Int} {r : List Int} {n : Int} {k : Nat} (h : num (x :: r) = (n, k, 0)) : need x = k ∧ k ≤ r.length + 1 := by
  rw [num_cons] at h
  split at h
  · cases h
  · split at h
    · rename_i h1 _
      cases h
      exact ⟨rfl, by simpa using h1⟩
    · cases h
/-- Each proper beginning of an encoding is too short. -/
theorem num_cut {n : Int} (h0 : 0 ≤ n) (h1 : n ≤ 4611686018427387903) {c : Nat} (hc : c < (put n).length) : num ((put n).take c) = (0, 0, 2) := by
  have hf := num_put [] h0 h1
  rw [List.append_nil] at hf
  generalize put n = l at *
  cases l with
  | nil => simp at hc
  | cons x r =>
    have hh := num_head hf
    cases c with
    | zero => rfl
    | succ c =>
      rw [List.take_succ_cons]
      rw [num_cons, if_pos (by rw [hh.1]; simp only [List.length_cons, List.length_take] at *; omega)]
/-- What is read as a number is its encoding. -/
theorem num_one {l : List Int} {n : Int} {k : Nat} (hb : Bytes l) (h : num l = (n, k, 0)) : put n = l.take k ∧ k ≤ l.length ∧ 0 ≤ n ∧ n ≤ 4611686018427387903 := by
  have hbd := num_bd hb
  rw [h] at hbd
  cases l with
  | nil => simp [num] at h
  | cons x r =>
    obtain ⟨hk, hl⟩ := num_head h
    refine ⟨?_, by simpa using hl, hbd⟩
    have nb := need_bd x
    have hx := hb.head
    have hv : val (x % 64 :: r.take (k - 1)) = n ∧ size n = k := by
      rw [num_cons] at h
      rw [if_neg (by rw [hk]; simp only [List.length_cons]; omega), hk] at h
      split at h
      · rename_i h2
        cases h
        exact ⟨rfl, h2⟩
      · cases h
    obtain ⟨hv, hs⟩ := hv
    have hrl : (r.take (k - 1)).length = k - 1 := by rw [List.length_take]; omega
    have hT : (x :: r).take k = x :: r.take (k - 1) := by
      obtain ⟨j, rfl⟩ : ∃ j, k = j + 1 := ⟨k - 1, by omega⟩
      rfl
    have hB : Bytes (x :: r.take (k - 1)) := Bytes.cons hx (hb.tail.take _)
    have hV := be_val hB
    rw [List.length_cons, hrl, show k - 1 + 1 = k by omega] at hV
    have hE : val (x :: r.take (k - 1)) = n + x / 64 * (64 * 256 ^ (k - 1)) := by
      rw [← hv, val_cons, val_cons, hrl]
      generalize (256 : Int) ^ (k - 1) = p
      have : x * p = x % 64 * p + x / 64 * (64 * p) := by
        rw [← Int.mul_assoc, ← Int.add_mul]
        congr 1
        omega
      omega
    rw [hT, ← hV, hE]
    unfold size at hs
    unfold put
    by_cases a : n < 64
    · rw [if_pos a] at hs ⊢
      obtain rfl : k = 1 := by omega
      rw [(need_div hx).1 hk]
      simp
    rw [if_neg a] at hs ⊢
    by_cases b : n < 16384
    · rw [if_pos b] at hs ⊢
      obtain rfl : k = 2 := by omega
      rw [(need_div hx).2.1 hk]
      rfl
    rw [if_neg b] at hs ⊢
    by_cases c : n < 1073741824
    · rw [if_pos c] at hs ⊢
      obtain rfl : k = 4 := by omega
      rw [(need_div hx).2.2.1 hk]
      rfl
    rw [if_neg c] at hs ⊢
    rw [if_pos hbd.2] at hs ⊢
    obtain rfl : k = 8 := by omega
    rw [(need_div hx).2.2.2 hk]
    rfl

/-- Strings of bytes. -/
theorem u8_inj {x y : Int} (hx : 0 ≤ x ∧ x ≤ 255) (hy : 0 ≤ y ∧ y ≤ 255) (h : UInt8.ofNat x.toNat = UInt8.ofNat y.toNat) : x = y := by
  have := congrArg UInt8.toNat h
  simp only [UInt8.toNat_ofNat'] at this
  omega
theorem u8_lt {x y : Int} (hx : 0 ≤ x ∧ x ≤ 255) (hy : 0 ≤ y ∧ y ≤ 255) : (UInt8.ofNat x.toNat < UInt8.ofNat y.toNat) ↔ x < y := by
  rw [UInt8.lt_iff_toNat_lt]
  simp only [UInt8.toNat_ofNat']
  omega
theorem str_list (l : List Int) : (strOfNums l).toList = l.map fun n => UInt8.ofNat n.toNat := by
  rw [← strOfNums_data, ByteArray.toList_eq]
theorem str_eq {l m : List Int} (hl : Bytes l) (hm : Bytes m) : ((strOfNums l).toList == (strOfNums m).toList) = decide (l = m) := by
  rw [str_list, str_list]
  by_cases h : l = m
  · subst h; simp
  · rw [decide_eq_false h]
    apply Bool.eq_false_iff.2
    intro he
    apply h
    have he' := eq_of_beq he
    clear h he
    induction l generalizing m with
    | nil => cases m with
      | nil => rfl
      | cons y m => simp at he'
    | cons x l ih => cases m with
      | nil => simp at he'
      | cons y m =>
        simp only [List.map_cons, List.cons.injEq] at he'
        rw [u8_inj hl.head hm.head he'.1, ih hl.tail hm.tail he'.2]
/-- The order of bytes. -/
def less : List Int → List Int → Bool
  | _, [] => false
  | [], _ :: _ => true
  | a :: x, b :: y => decide (a < b) || (decide (a = b) && less x y)
theorem str_less : ∀ {l m : List Int}, Bytes l → Bytes m → Op.bytesLess (strOfNums l).toList (strOfNums m).toList = less l m := by
  intro l m hl hm
  rw [str_list, str_list]
  induction l generalizing m with
  | nil => cases m <;> rfl
  | cons x l ih => cases m with
    | nil => rfl
    | cons y m =>
      simp only [List.map_cons, Op.bytesLess, less]
      rw [ih hl.tail hm.tail, show decide (UInt8.ofNat x.toNat < UInt8.ofNat y.toNat) = decide (x < y) from decide_eq_decide.2 (u8_lt hl.head hm.head)]
      congr 2
      by_cases h : x = y
      · subst h; simp
      · rw [decide_eq_false h]
        exact beq_false_of_ne fun e => h (u8_inj hl.head hm.head e)
theorem less_be : ∀ (k : Nat) (a b : Int), 0 ≤ a → 0 ≤ b → less (be k a) (be k b) = decide (a % 256 ^ k < b % 256 ^ k)
  | 0, a, b, _, _ => by simp [be, less, Int.emod_one]
  | k + 1, a, b, ha, hb => by
    have hp := pow_pos k
    have va := val_be (k + 1) a
    have vb := val_be (k + 1) b
    rw [be, val_cons, be_len, val_be] at va vb
    rw [be, be, less, less_be k a b ha hb, ← va, ← vb]
    have a0 := Int.emod_nonneg a (by omega : (256 : Int) ^ k ≠ 0)
    have a1 := Int.emod_lt_of_pos a hp
    have b0 := Int.emod_nonneg b (by omega : (256 : Int) ^ k ≠ 0)
    have b1 := Int.emod_lt_of_pos b hp
    generalize a / 256 ^ k % 256 = x at *
    generalize b / 256 ^ k % 256 = y at *
    generalize a % 256 ^ k = u at *
    generalize b % 256 ^ k = v at *
    generalize (256 : Int) ^ k = p at *
    rcases Int.lt_trichotomy x y with h | h | h
    · have : (x + 1) * p ≤ y * p := Int.mul_le_mul_of_nonneg_right (by omega) (by omega)
      rw [Int.add_mul, Int.one_mul] at this
      rw [decide_eq_true h, Bool.true_or, decide_eq_true]
      omega
    · subst h
      simp
    · have : (y + 1) * p ≤ x * p := Int.mul_le_mul_of_nonneg_right (by omega) (by omega)
      rw [Int.add_mul, Int.one_mul] at this
      rw [decide_eq_false (show ¬ x < y by omega), decide_eq_false (show ¬ x = y by omega), Bool.false_or, Bool.false_and, decide_eq_false]
      omega
theorem less_heads {a b : Int} {x y : List Int} (h : a < b) : less (a :: x) (b :: y) = true ∧ less (b :: y) (a :: x) = false := by
  constructor
  · simp [less, h]
  · simp [less, show ¬ b < a by omega, show ¬ b = a by omega]
theorem put_head {n : Int} (h0 : 0 ≤ n) (h1 : n ≤ 4611686018427387903) : ∃ x r, put n = x :: r ∧ 0 ≤ x ∧ x ≤ 255 ∧
    (n < 64 → x < 64) ∧ (64 ≤ n → 64 ≤ x) ∧ (n < 16384 → x < 128) ∧ (16384 ≤ n → 128 ≤ x) ∧ (n < 1073741824 → x < 192) ∧ (1073741824 ≤ n → 192 ≤ x) := by
  unfold put
  by_cases a : n < 64
  · rw [if_pos a]
    refine ⟨_, _, rfl, ?_⟩
    simp
    omega
  rw [if_neg a]
  by_cases b : n < 16384
  · rw [if_pos b]
    refine ⟨_, _, rfl, ?_⟩
    simp
    omega
  rw [if_neg b]
  by_cases c : n < 1073741824
  · rw [if_pos c]
    refine ⟨_, _, rfl, ?_⟩
    simp
    omega
  rw [if_neg c, if_pos h1]
  refine ⟨_, _, rfl, ?_⟩
  simp
  omega
theorem less_put {a b : Int} (a0 : 0 ≤ a) (a1 : a ≤ 4611686018427387903) (b0 : 0 ≤ b) (b1 : b ≤ 4611686018427387903) : less (put a) (put b) = decide (a < b) := by
  obtain ⟨x, r, hx, x0, x1, p1, p2, p3, p4, p5, p6⟩ := put_head a0 a1
  obtain ⟨y, s, hy, y0, y1, q1, q2, q3, q4, q5, q6⟩ := put_head b0 b1
  have L : a < b → x < y → less (put a) (put b) = decide (a < b) := fun h k => by rw [hx, hy, (less_heads k).1, decide_eq_true h]
  have G : b < a → y < x → less (put a) (put b) = decide (a < b) := fun h k => by rw [hx, hy, (less_heads k).2, decide_eq_false (by omega)]
  by_cases e1 : a < 64
  · by_cases f1 : b < 64
    · unfold put; rw [if_pos e1, if_pos f1, less_be _ _ _ (by omega) (by omega)]
      exact decide_eq_decide.2 (by omega)
    · exact L (by omega) (by omega)
  by_cases e2 : a < 16384
  · by_cases f1 : b < 64
    · exact G (by omega) (by omega)
    by_cases f2 : b < 16384
    · unfold put; rw [if_neg e1, if_pos e2, if_neg f1, if_pos f2, less_be _ _ _ (by omega) (by omega)]
      exact decide_eq_decide.2 (by omega)
    · exact L (by omega) (by omega)
  by_cases e3 : a < 1073741824
  · by_cases f2 : b < 16384
    · exact G (by omega) (by omega)
    by_cases f3 : b < 1073741824
    · have f1 : ¬ b < 64 := by omega
      unfold put; rw [if_neg e1, if_neg e2, if_pos e3, if_neg f1, if_neg f2, if_pos f3, less_be _ _ _ (by omega) (by omega)]
      exact decide_eq_decide.2 (by omega)
    · exact L (by omega) (by omega)
  · by_cases f3 : b < 1073741824
    · exact G (by omega) (by omega)
    · have f1 : ¬ b < 64 := by omega
      have f2 : ¬ b < 16384 := by omega
      unfold put; rw [if_neg e1, if_neg e2, if_neg e3, if_pos a1, if_neg f1, if_neg f2, if_neg f3, if_pos b1, less_be _ _ _ (by omega) (by omega)]
      exact decide_eq_decide.2 (by omega)
end Go.Proofs.Ytlnncfjfphkkdaa.OctPlain
