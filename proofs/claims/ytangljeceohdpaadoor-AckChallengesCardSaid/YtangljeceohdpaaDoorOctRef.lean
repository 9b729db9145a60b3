/-
  Contracts of the reference's encodings.
-/
import Derived.Test.YtangljeceohdpaaDoorRows
import Derived.Test.YtangljeceohdpaaDoorFr
import Derived.Test.YtangljeceohdpaaDoorOctPlain
import Derived.Test.YtangljeceohdpaaDoorTab
import Derived.Test.YtangljeceohdpaaDoorOct
import Derived.WalkKit
import Derived.ProofKit
import Derived.OpenShut
import Derived.WalkSpells
import Derived.Deep.RegionWith
import Derived.LoopTactic
import Derived.Lib.Hide
import Derived.OwnWalk
import Derived.Deep.OwnRows
import Derived.Laws.BytesArg
namespace Go.Proofs.YtangljeceohdpaaDoor.Oct
set_option linter.unusedVariables false
set_option maxRecDepth 20000
open Go.ChangeShapes Go.WideShapes Go.ChangeAt Go.RowKit
open Go.Proofs.YtangljeceohdpaaDoor.Base Go.Proofs.YtangljeceohdpaaDoor.OctPlain Go.Proofs.YtangljeceohdpaaDoor.Tab

/-- A row of the call's own with bytes put behind it. -/
def Own (base : Nat) (w : World) (v : Value) (l : List Int) : Prop := w.ownsRow base 5 1 v l.length (l.map (.int .u8))
theorem Own.nil (base : Nat) (w : World) : Own base w (.slice none 0 0) [] := World.ownsRow_nil _ _ _ _
theorem Own.drew {base : Nat} {w : World} {v : Value} {l : List Int} (h : Own base w v l) : Own base w.drew v l := h
theorem Own.read {base : Nat} {w : World} {v : Value} {l : List Int} (h : Own base w v l) : ∃ a cap, v = .slice a l.length cap ∧ l.length ≤ cap ∧ cap ≤ maxLen ∧ (a = none → l.length = 0 ∧ cap = 0) ∧ RowIn (fun k => base ≤ k) w a (l.map (.int .u8)) := rowIn_of_own Nat.one_pos h
theorem Own.below {base : Nat} {w w' : World} {v : Value} {l : List Int} (h : Own base w v l) (hb : Below w.heap.size w w') : Own base w' v l := by
  obtain ⟨h1, h2⟩ := h
  refine ⟨h1, ?_⟩
  rcases h2 with h2 | ⟨g, cap, cur, hv, hg, hh, r⟩
  · exact Or.inl h2
  · exact Or.inr ⟨g, cap, cur, hv, hg, (hb.block g (lt_of_block hh)).trans hh, r⟩
theorem Own.snoc {base : Nat} {w : World} {v : Value} {l : List Int} {y : Int} (h : w.ownsRow base 5 1 v (l.length + 1) (l.map (.int .u8) ++ [.int .u8 y])) : Own base w v (l ++ [y]) := by
  unfold Own
  simpa using h
theorem Own.turned {base : Nat} {w w' : World} {v : Value} {l : List Int} {o : Obj} (h : Own base w v l) (hg : (w.alloc o).grownBy w' v.ownBlock) : Fr (fun k => base ≤ k) w w' :=
  (Fr.alloc (Fr.refl _ w) o).trans (Fr.of_grown (S := fun k => base ≤ k) hg fun k hk => (h.lt k hk).1) fun _ _ h => h
theorem ref_eight {base : Nat} {w : World} {v : Value} {xs : List Int} (h : Own base w v xs) (hB : base ≤ w.heap.size) (hx : xs.length ≤ 1048576) (n : Int) (n0 : 0 ≤ n) (n1 : n ≤ 18446744073709551615) :
    Calls Tryd.prog 28 #[v, .int .u64 n] w fun e w' => ∃ v', e = .returned v' ∧ Own base w' v' (xs ++ be 8 n) ∧ Fr (fun k => base ≤ k) w w' := by
  obtain ⟨i0, hi0, hz0, hz1, hz2⟩ := info_parts info
  go_enter Tryd.func28, Tryd.ntmps28
  go_wp2
  go_loopw [0, 5] (fun s i wr => ∃ j : Nat, j ≤ 8 ∧ i = .int .i64 (7 - (j : Int)) ∧ Own base wr s (xs ++ (be 8 n).take j) ∧ Fr (fun k => base ≤ k) w wr) (fun _ i _ => (intOf i + 1).toNat)
  case atStart => exact ⟨0, by omega, rfl, by simpa using h, Fr.refl _ _⟩
  case round =>
    obtain ⟨j, hj, rfl, hown, hF⟩ := hrel
    clear h
    by_cases hlt : j < 8
    · have hg := be_get 8 n j hlt
      have ht : (be 8 n).take (j + 1) = (be 8 n).take j ++ [n / 256 ^ (8 - 1 - j) % 256] := by rw [List.take_add_one, hg]; rfl
      have hl : (xs ++ (be 8 n).take j).length ≤ 1048600 := by simp [be_len]; omega
      have hd := Int.ediv_le_self (256 ^ (7 - j)) n0
      have hd0 : 0 ≤ n / 256 ^ (7 - j) := Int.ediv_nonneg n0 (by have := pow_pos (7 - j); omega)
      have hy : bits .and .u64 (n / 2 ^ (8 * (7 - j))) 255 = n / 256 ^ (8 - 1 - j) % 256 := by
        rw [pow_eight, show 8 - 1 - j = 7 - j by omega, and_255 hd0 (by omega)]
      have y0 : 0 ≤ n / 256 ^ (8 - 1 - j) % 256 := by omega
      have y1 : n / 256 ^ (8 - 1 - j) % 256 ≤ 255 := by omega
      have HT := Lib.hid (show xs ++ (be 8 n).take (j + 1) = (xs ++ (be 8 n).take j) ++ [n / 256 ^ (8 - 1 - j) % 256] by rw [ht, List.append_assoc])
      have hsz := hF.size
      clear ht hg hd hd0
      generalize xs ++ (be 8 n).take j = ys at hown hl HT
      generalize n / 256 ^ (8 - 1 - j) % 256 = y at hy y0 y1 HT
      go_wp2_with (at_builtin; refine wpl_append_row _ rfl (.tmp 10) (.tmp 18) _ rfl base 5 i0 _ 1 1 Tryd.underlying27 hi0 hz0 hz1 hz2 rfl (by omega) _ _ _ rfl (hown.alloc _) (some ⟨wr.heap.size, 0, none⟩) 1 1 [.int .u8 y] rfl rfl (Row.lit wr _ [.int .u8 y]) (by simp [Value.oneCell']) (by unfold maxLen; omega) (by omega) (by simp; omega) ?_; intro v3 w3 hown3 hg3 hat3)
      all_goals go_roundw
      case rel => exact ⟨j + 1, by omega, by go_num, by rw [HT.out]; exact Own.snoc hown3, hF.trans (hown.turned hg3) fun _ _ h => h⟩
      case measure => simp [intOf]; omega
    · obtain rfl : j = 8 := by omega
      rw [show (be 8 n).take 8 = be 8 n from List.take_of_length_le (by rw [be_len]; omega)] at hown
      go_wp2
      go_ret
      exact ⟨_, rfl, hown, hF⟩
theorem ref_put_at {base : Nat} {w : World} {v : Value} {xs : List Int} (h : Own base w v xs) (hB : base ≤ w.heap.size) (hx : xs.length ≤ 1048576) (n : Int) (j c : Nat) (n0 : 0 ≤ n) (n1 : n ≤ 18446744073709551615)
    (hs : size n = (j : Int) + 1) (hj7 : j ≤ 7) (hc : c ≤ 3) (hp : pw c = (j : Int) + 1) (hlt : n / 256 ^ j % 256 < 64) :
    Calls Tryd.prog 20 #[v, .int .u64 n] w fun e w' => ∃ v', e = .returned v' ∧ Own base w' v' (xs ++ ((n / 256 ^ j % 256 + (c : Int) * 64) :: be j n)) ∧ Fr (fun k => base ≤ k) w w' := by
  obtain ⟨i0, hi0, hz0, hz1, hz2⟩ := info_parts info
  have hsz := ref_size n n0
  rw [hs] at hsz
  go_enter Tryd.func20, Tryd.ntmps20
  go_wp2_with (go_at_call 41; (with_reducible refine (hsz _).mono ?_); rintro e w' ⟨rfl, rfl⟩)
  go_loopw [6, 7] (fun d i wr => ∃ t : Nat, t ≤ c ∧ d = .int .i64 t ∧ i = .int .i64 (pw (c - t)) ∧ w = wr) (fun _ i _ => (intOf i).toNat)
  case atStart => exact ⟨0, Nat.zero_le _, rfl, by rw [Nat.sub_zero, hp], rfl⟩
  case round =>
    obtain ⟨t, ht, rfl, rfl, rfl⟩ := hrel
    by_cases htc : t < c
    · obtain ⟨p1, p2⟩ := pw_half (t := c - t) (by omega) (by omega)
      have pb := pw_bd (c - t)
      rw [show c - t - 1 = c - (t + 1) by omega] at p2
      generalize pw (c - t) = q at *
      have p3 : q.tdiv 2 = q / 2 := Int.tdiv_eq_ediv_of_nonneg (by omega)
      have P2 := Lib.hid p2
      clear p2 h
      go_wp2
      all_goals go_roundw
      case rel => exact ⟨t + 1, by omega, by go_num, by rw [P2.out], by trivial⟩
      case measure => simp only [intOf]; omega
    · obtain rfl : t = c := by omega
      rw [Nat.sub_self, pw_zero]
      go_wp2
      clear hsz
      go_loopw [0, 8] (fun s i wr => ∃ m : Nat, m ≤ j + 1 ∧ i = .int .i64 ((j : Int) - (m : Int)) ∧ Own base wr s (xs ++ ((n / 256 ^ j % 256 + (t : Int) * 64) :: be j n).take m) ∧ Fr (fun k => base ≤ k) w wr) (fun _ i _ => (intOf i + 1).toNat)
      case atStart => exact ⟨0, by omega, by go_num, by simpa using h, Fr.refl _ _⟩
      case round =>
        obtain ⟨m, hm, rfl, hown, hF⟩ := hrel
        clear h
        by_cases hmj : m ≤ j
        · have hd := Int.ediv_le_self (256 ^ (j - m)) n0
          have hd0 : 0 ≤ n / 256 ^ (j - m) := Int.ediv_nonneg n0 (by have := pow_pos (j - m); omega)
          have hy : bits .and .u64 (n / 2 ^ (8 * (j - m))) 255 = n / 256 ^ (j - m) % 256 := by
            rw [pow_eight, and_255 hd0 (by omega)]
          have y0 : 0 ≤ n / 256 ^ (j - m) % 256 := by omega
          have y1 : n / 256 ^ (j - m) % 256 ≤ 255 := by omega
          have hl : (xs ++ ((n / 256 ^ j % 256 + (t : Int) * 64) :: be j n).take m).length ≤ 1048600 := by simp [be_len]; omega
          have hsz := hF.size
          rcases Nat.eq_zero_or_pos m with rfl | hm0
          · have HT := Lib.hid (show xs ++ ((n / 256 ^ j % 256 + (t : Int) * 64) :: be j n).take (0 + 1) = (xs ++ ((n / 256 ^ j % 256 + (t : Int) * 64) :: be j n).take 0) ++ [n / 256 ^ j % 256 + (t : Int) * 64] by simp)
            have ho := or_tag (c := (t : Int)) (by omega) (by omega) (show 0 ≤ n / 256 ^ j % 256 by omega) hlt
            generalize xs ++ ((n / 256 ^ j % 256 + (t : Int) * 64) :: be j n).take 0 = ys at hown hl HT
            rw [Nat.sub_zero] at hy y0 y1
            clear hd hd0 hs
            generalize n / 256 ^ j % 256 = y at *
            go_wp2_with (at_builtin; refine wpl_append_row _ rfl (.tmp 41) (.tmp 43) _ rfl base 5 i0 _ 1 1 Tryd.underlying27 hi0 hz0 hz1 hz2 rfl (by omega) _ _ _ rfl (hown.alloc _) (some ⟨wr.heap.size, 0, none⟩) 1 1 [.int .u8 (y + (t : Int) * 64)] rfl rfl (Row.lit wr _ [.int .u8 (y + (t : Int) * 64)]) (by simp [Value.oneCell']) (by unfold maxLen; omega) (by omega) (by simp; omega) ?_; intro v3 w3 hown3 hg3 hat3)
            all_goals go_roundw
            case rel => exact ⟨0 + 1, by omega, by go_num, by rw [HT.out]; exact Own.snoc hown3, hF.trans (hown.turned hg3) fun _ _ h => h⟩
            case measure => (simp [intOf]; try omega)
          · have hg := be_get j n (m - 1) (by omega)
            rw [show j - 1 - (m - 1) = j - m by omega] at hg
            have HT := Lib.hid (show xs ++ ((n / 256 ^ j % 256 + (t : Int) * 64) :: be j n).take (m + 1) = (xs ++ ((n / 256 ^ j % 256 + (t : Int) * 64) :: be j n).take m) ++ [n / 256 ^ (j - m) % 256] by
              obtain ⟨i, rfl⟩ : ∃ i, m = i + 1 := ⟨m - 1, by omega⟩
              rw [Nat.add_sub_cancel] at hg
              rw [List.take_succ_cons, List.take_succ_cons, List.take_add_one, hg]
              simp)
            generalize xs ++ ((n / 256 ^ j % 256 + (t : Int) * 64) :: be j n).take m = ys at hown hl HT
            clear hd hd0 hg hs
            generalize n / 256 ^ (j - m) % 256 = y at *
            go_wp2_with (at_builtin; refine wpl_append_row _ rfl (.tmp 41) (.tmp 43) _ rfl base 5 i0 _ 1 1 Tryd.underlying27 hi0 hz0 hz1 hz2 rfl (by omega) _ _ _ rfl (hown.alloc _) (some ⟨wr.heap.size, 0, none⟩) 1 1 [.int .u8 y] rfl rfl (Row.lit wr _ [.int .u8 y]) (by simp [Value.oneCell']) (by unfold maxLen; omega) (by omega) (by simp; omega) ?_; intro v3 w3 hown3 hg3 hat3)
            all_goals go_roundw
            case rel => exact ⟨m + 1, by omega, by go_num, by rw [HT.out]; exact Own.snoc hown3, hF.trans (hown.turned hg3) fun _ _ h => h⟩
            case measure => (simp [intOf]; try omega)
        · obtain rfl : m = j + 1 := by omega
          rw [List.take_of_length_le (by simp [be_len])] at hown
          go_wp2
          go_ret
          exact ⟨_, rfl, hown, hF⟩
theorem ref_put_none {base : Nat} {w : World} {v : Value} {xs : List Int} (h : Own base w v xs) (n : Int) (n0 : 0 ≤ n) (hs : size n = 0) :
    Calls Tryd.prog 20 #[v, .int .u64 n] w fun e w' => e = .returned v ∧ w = w' := by
  have hsz := ref_size n n0
  rw [hs] at hsz
  go_enter Tryd.func20, Tryd.ntmps20
  go_wp2_with (go_at_call 41; (with_reducible refine (hsz _).mono ?_); rintro e w' ⟨rfl, rfl⟩)
  go_loop [6, 7] (fun d i => d = .int .i64 0 ∧ i = .int .i64 0) (fun _ i => (intOf i).toNat)
  case atStart => exact ⟨rfl, rfl⟩
  case round =>
    obtain ⟨rfl, rfl⟩ := hrel
    go_wp2
    go_loop [0, 8] (fun s i => s = v ∧ i = .int .i64 (-1)) (fun _ i => (intOf i).toNat)
    case atStart => exact ⟨rfl, rfl⟩
    case round =>
      obtain ⟨rfl, rfl⟩ := hrel
      go_wp2
      go_ret
      exact ⟨rfl, rfl⟩
theorem ref_put {base : Nat} {w : World} {v : Value} {xs : List Int} (h : Own base w v xs) (hB : base ≤ w.heap.size) (hx : xs.length ≤ 1048576) (n : Int) (n0 : 0 ≤ n) (n1 : n ≤ 18446744073709551615) :
    Calls Tryd.prog 20 #[v, .int .u64 n] w fun e w' => ∃ v', e = .returned v' ∧ Own base w' v' (xs ++ put n) ∧ Fr (fun k => base ≤ k) w w' := by
  by_cases hn : n ≤ 4611686018427387903
  · obtain ⟨j, c, hjc, hs, hlt, hp⟩ := put_form n0 hn
    rw [hp]
    refine ref_put_at h hB hx n j c n0 n1 hs (by omega) (by omega) ?_ hlt
    rcases hjc with ⟨rfl, rfl⟩ | ⟨rfl, rfl⟩ | ⟨rfl, rfl⟩ | ⟨rfl, rfl⟩ <;> rfl
  · obtain ⟨hp, hs⟩ := put_none (n := n) (by omega)
    rw [hp, List.append_nil]
    exact (ref_put_none h n n0 hs).mono fun e w' ⟨he, hw⟩ => by subst hw; exact ⟨v, he, h, Fr.refl _ _⟩
theorem Row.at_drop {w : World} {a : Option Addr} {l : List Int} {t i : Nat} {y : Int} (h : Ints .u8 w a l) (hy : (l.drop t)[i]? = some y) : ∃ b off, a = some ⟨b, off, none⟩ ∧ b < w.heap.size ∧ w.cell? ⟨b, off + (t + i), none⟩ = some (.int .u8 y) := by
  rw [List.getElem?_drop] at hy
  exact h (t + i) (.int .u8 y) (by rw [List.getElem?_map, hy]; rfl)
theorem ref_num_at (a : Option Addr) (len cap t : Nat) (s : Int) (l : List Int) (w : World) (hl : l.length = len) (hs : s = t) (ht : t ≤ len) (hm : len ≤ 140737488355328) (hb : Bytes l) (hI : Ints .u8 w a l) :
    Calls Tryd.prog 40 #[.slice a len cap, .int .i64 s] w fun e w' => e = .returned (.tuple #[.int .u64 (num (l.drop t)).1, .int .i64 ((t : Int) + ((num (l.drop t)).2.1 : Int)), .int .i64 (num (l.drop t)).2.2]) ∧ w = w' := by
  subst hs
  subst hl
  have hbd := hb.drop t
  have hld : (l.drop t).length = l.length - t := List.length_drop
  cases hd : l.drop t with
  | nil =>
    rw [hd] at hld
    have hle : l.length ≤ t := by simp at hld; omega
    have hN : num ([] : List Int) = (0, 0, 2) := rfl
    rw [hN]
    go_enter Tryd.func40, Tryd.ntmps40
    go_wp2
    all_goals go_ret3
    all_goals exact ⟨by simp, rfl⟩
  | cons x r =>
    rw [hd] at hld hbd
    have hrl : t + r.length + 1 = l.length := by simp at hld; omega
    obtain ⟨g, off, rfl, hgl, hcx⟩ := Row.at_drop (t := t) (i := 0) hI (by rw [hd]; rfl)
    rw [Nat.add_zero] at hcx
    have hw := need_pow hbd.head
    have nb := need_bd x
    have hx := hbd.head
    by_cases hsh : r.length + 1 < need x
    · have hN : num (x :: r) = (0, 0, 2) := by rw [num_cons, if_pos (by simp only [List.length_cons]; omega)]
      rw [hN]
      generalize need x = k at *
      obtain ⟨x0, x1⟩ := hx
      go_enter Tryd.func40, Tryd.ntmps40
      go_wp2
      all_goals go_ret3
      all_goals exact ⟨by simp, rfl⟩
    · have hN : num (x :: r) = if size (val (x % 64 :: r.take (need x - 1))) = need x then (val (x % 64 :: r.take (need x - 1)), need x, 0) else (0, 0, 5) := by
        rw [num_cons, if_neg (by simp only [List.length_cons]; omega)]
      rw [hN]
      have h63 := and_63 hx.1 hx.2
      clear hN
      generalize hR : ((if size (val (x % 64 :: r.take (need x - 1))) = need x then (val (x % 64 :: r.take (need x - 1)), need x, 0) else (0, 0, 5)) : Int × Nat × Int) = R
      generalize need x = k at *
      obtain ⟨x0, x1⟩ := hx
      go_enter Tryd.func40, Tryd.ntmps40
      go_wp2
      go_loop [8, 9] (fun u i => ∃ m : Nat, m + 1 ≤ k ∧ i = .int .i64 ((m : Int) + 1) ∧ u = .int .u64 (val (x % 64 :: r.take m))) (fun _ i => k - (intOf i).toNat)
      case atStart => exact ⟨0, by omega, by go_num, by simp [val]⟩
      case round =>
        obtain ⟨m, hm1, rfl, rfl⟩ := hrel
        have hvb := val_bd7 (l := x % 64 :: r.take m)
        by_cases hmk : m + 1 < k
        · obtain ⟨y, hy⟩ : ∃ y, r[m]? = some y := ⟨r[m]'(by omega), by simp⟩
          obtain ⟨g', off', e, _, hcy⟩ := Row.at_drop (t := t) (i := m + 1) (y := y) hI (by rw [hd]; simpa using hy)
          cases e
          have yb := hbd.tail y (List.mem_of_getElem? hy)
          have HT := Lib.hid (show val (x % 64 :: r.take (m + 1)) = val (x % 64 :: r.take m) * 256 + y by
            rw [List.take_add_one, hy, ← val_snoc]; rfl)
          obtain ⟨v0, v1⟩ := val_bd7 (l := x % 64 :: r.take m) (Bytes.cons (by omega) (hbd.tail.take m)) (by rw [List.length_cons, List.length_take]; omega)
          obtain ⟨y0, y1⟩ := yb
          have ho := or_byte v0 v1 y0 y1
          clear hvb hbd hI
          generalize val (x % 64 :: r.take m) = v at *
          go_wp2
          all_goals go_round
          case rel => exact ⟨m + 1, by omega, by go_num, by rw [HT.out]⟩
          case measure => simp only [intOf]; omega
        · obtain rfl : k = m + 1 := by omega
          rw [Nat.add_sub_cancel] at hR
          have hnb := val_bd8 (l := x % 64 :: r.take m) (Bytes.cons (by omega) (hbd.tail.take _)) (by rw [List.length_cons, List.length_take]; omega)
          clear hvb
          generalize val (x % 64 :: r.take m) = n at *
          have hsz := ref_size n hnb.1
          by_cases hs : size n = (m + 1 : Nat)
          · rw [if_pos hs] at hR
            have r1 := Lib.hid (congrArg Prod.fst hR)
            have r2 := Lib.hid (congrArg (fun x => x.2.1) hR)
            have r3 := Lib.hid (congrArg (fun x => x.2.2) hR)
            clear hR
            rw [hs] at hsz
            go_wp2_with (go_at_call 41; (with_reducible refine (hsz _).mono ?_); rintro e w' ⟨rfl, rfl⟩)
            all_goals go_ret3
            all_goals exact ⟨by rw [← r1.out, ← r2.out, ← r3.out]; simp, rfl⟩
          · rw [if_neg hs] at hR
            have r1 := Lib.hid (congrArg Prod.fst hR)
            have r2 := Lib.hid (congrArg (fun x => x.2.1) hR)
            have r3 := Lib.hid (congrArg (fun x => x.2.2) hR)
            clear hR
            have hs' : ¬ size n = (m : Int) + 1 := by omega
            go_wp2_with (go_at_call 41; (with_reducible refine (hsz _).mono ?_); rintro e w' ⟨rfl, rfl⟩)
            all_goals go_ret3
            all_goals exact ⟨by rw [← r1.out, ← r2.out, ← r3.out]; simp, rfl⟩
theorem ref_word_short (a : Option Addr) (len cap t : Nat) (s : Int) (w : World) (hs : s = t) (ht : t ≤ len) (hm : len ≤ 140737488355328) (h8 : len < t + 8) :
    Calls Tryd.prog 33 #[.slice a len cap, .int .i64 s] w fun e w' => e = .returned (.tuple #[.int .u64 0, .int .i64 (t : Int), .int .i64 2]) ∧ w = w' := by
  subst hs
  go_enter Tryd.func33, Tryd.ntmps33
  go_wp2
  all_goals go_ret3
  all_goals exact ⟨by simp, rfl⟩
theorem ref_word_at (a : Option Addr) (len cap t : Nat) (s : Int) (l : List Int) (w : World) (hl : l.length = len) (hs : s = t) (h8 : t + 8 ≤ len) (hm : len ≤ 140737488355328) (hb : Bytes l) (hI : Ints .u8 w a l) :
    Calls Tryd.prog 33 #[.slice a len cap, .int .i64 s] w fun e w' => e = .returned (.tuple #[.int .u64 (val ((l.drop t).take 8)), .int .i64 ((t : Int) + 8), .int .i64 0]) ∧ w = w' := by
  subst hs
  subst hl
  have hbd := hb.drop t
  have hld : (l.drop t).length = l.length - t := List.length_drop
  go_enter Tryd.func33, Tryd.ntmps33
  go_wp2
  go_loop [7, 8] (fun u i => ∃ m : Nat, m ≤ 8 ∧ i = .int .i64 m ∧ u = .int .u64 (val ((l.drop t).take m))) (fun _ i => 8 - (intOf i).toNat)
  case atStart => exact ⟨0, by omega, by go_num, by simp [val]⟩
  case round =>
    obtain ⟨m, hm1, rfl, rfl⟩ := hrel
    by_cases hmk : m < 8
    · obtain ⟨y, hy⟩ : ∃ y, (l.drop t)[m]? = some y := ⟨(l.drop t)[m]'(by omega), by simp⟩
      obtain ⟨g, off, rfl, hgl, hcy⟩ := Row.at_drop (t := t) (i := m) (y := y) hI hy
      obtain ⟨y0, y1⟩ := hbd y (List.mem_of_getElem? hy)
      have HT := Lib.hid (show val ((l.drop t).take (m + 1)) = val ((l.drop t).take m) * 256 + y by rw [List.take_add_one, hy, ← val_snoc]; rfl)
      obtain ⟨v0, v1⟩ := val_bd7 (hbd.take m) (by rw [List.length_take]; omega)
      have ho := or_byte v0 v1 y0 y1
      clear hbd hI hb
      generalize val ((l.drop t).take m) = v at *
      go_wp2
      all_goals go_round
      case rel => exact ⟨m + 1, by omega, by go_num, by rw [HT.out]⟩
      case measure => simp only [intOf]; omega
    · obtain rfl : m = 8 := by omega
      go_wp2
      all_goals go_ret3
      all_goals exact ⟨by simp, rfl⟩
/-- A slice of bytes as a string. -/
theorem str_of (w : World) (a : Option Addr) (n cap : Nat) (l : List Int) (hn : l.length = n) (h : Row w a (l.map (.int .u8))) : (convert 27 9 (.slice a n cap)).run Tryd.prog w = .ok (.string (strOfNums l)) w := by
  subst hn
  cases a with
  | none =>
    have hl : l = [] := by
      cases l with
      | nil => rfl
      | cons x r => obtain ⟨b, off, e, _⟩ := h 0 (.int .u8 x) rfl; cases e
    subst hl
    exact run_convert_bytes_nil w 27 5 Tryd.underlying27 Tryd.underlying5 _ _ _ Tryd.underlying9
  | some ad =>
    cases l with
    | nil =>
      rw [run_convert_bytes_string w _ _ 5 _ _ _ Tryd.underlying27 Tryd.underlying5 Tryd.underlying9]
      exact run_bytesToString w ad 0 cap [] (by simpa using run_loadCells_list (P := Tryd.prog) w ad [] (fun j v hj => by simp at hj))
    | cons x r =>
      obtain ⟨b, off, e, hb, hc⟩ := h 0 (.int .u8 x) rfl
      cases e
      refine run_convert_bytes_arg w 27 5 Tryd.underlying27 Tryd.underlying5 b off _ cap (x :: r) rfl (fun i hi => ?_) _ Tryd.underlying9
      obtain ⟨b', off', e, _, hc'⟩ := h i (.int .u8 ((x :: r).getD i 0)) (by rw [List.getElem?_map, List.getD_eq_getElem?_getD, List.getElem?_eq_getElem hi]; rfl)
      cases e
      exact hc'
end Go.Proofs.YtangljeceohdpaaDoor.Oct
