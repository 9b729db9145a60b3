/-
  Contracts of the program's ledger (package ledger): whole, over any footprint.
-/
import Derived.Test.YtoncominjgkjoaaLedGive
import Derived.Test.YtoncominjgkjoaaLedOwn
import Derived.Test.YtoncominjgkjoaaLedSame
set_option linter.unusedSimpArgs false
set_option linter.unusedVariables false
namespace Go.Proofs.Ytoncominjgkjoaa.Led
set_option linter.unusedVariables false
set_option maxRecDepth 20000
open Go.ChangeShapes Go.WideShapes Go.ChangeAt Go.RowKit
open Go.Proofs.Ytoncominjgkjoaa.Base Go.Proofs.Ytoncominjgkjoaa.LedPlain

theorem send_in {S : Nat → Prop} {w : World} {b c cap : Nat} {kc : List Sn} {g : Lg} (h : Kp S w b c cap kc g) (s : Sn) (hs : Words s) :
    Calls Try.prog 20 #[.pointer (some ⟨b, 0, none⟩), .agg #[.int .u64 s.pn, .int .u64 s.off, .int .u64 s.len, .int .u64 s.nonce, .int .u64 s.time, .bool s.coin, .bool s.used, .int .i64 s.state]] w
      fun e w' => e = .returned (.tuple #[.int .u64 (sendN g s), .int .i64 (sendE g s)]) ∧ (∃ kc', Kp S w' b c cap kc' (sendG g s)) ∧ Fr S w w' := by
  by_cases hb : badS s
  · rw [show sendN g s = 0 by unfold sendN; rw [if_pos hb], show sendE g s = 1 by unfold sendE; rw [if_pos hb], show sendG g s = g by unfold sendG; rw [if_pos hb]]
    have CV := valid_in s hs
    rw [show decide (¬ badS s) = false from decide_eq_false fun q => q hb] at CV
    clear hb
    go_enter Try.func20, Try.ntmps20
    go_upto_region 1 with fail
    have hB := Blk.new w #[.int .u64 s.pn, .int .u64 s.off, .int .u64 s.len, .int .u64 s.nonce, .int .u64 s.time, .bool s.coin, .bool s.used, .int .i64 s.state] 42
    have hL : Below w.heap.size w (w.alloc (.cells #[.int .u64 s.pn, .int .u64 s.off, .int .u64 s.len, .int .u64 s.nonce, .int .u64 s.time, .bool s.coin, .bool s.used, .int .i64 s.state] 42)) := (Below.refl _ _).alloc (Nat.le_refl _) _
    generalize w.alloc (.cells #[.int .u64 s.pn, .int .u64 s.off, .int .u64 s.len, .int .u64 s.nonce, .int .u64 s.time, .bool s.coin, .bool s.used, .int .i64 s.state] 42) = W at hL hB ⊢
    have z0 : W.cell? ⟨w.heap.size, 0, none⟩ = some (.int .u64 s.pn) := hB.cell 0
    have z1 : W.cell? ⟨w.heap.size, 1, none⟩ = some (.int .u64 s.off) := hB.cell 1
    have z2 : W.cell? ⟨w.heap.size, 2, none⟩ = some (.int .u64 s.len) := hB.cell 2
    have z3 : W.cell? ⟨w.heap.size, 3, none⟩ = some (.int .u64 s.nonce) := hB.cell 3
    have z4 : W.cell? ⟨w.heap.size, 4, none⟩ = some (.int .u64 s.time) := hB.cell 4
    have z5 : W.cell? ⟨w.heap.size, 5, none⟩ = some (.bool s.coin) := hB.cell 5
    have z6 : W.cell? ⟨w.heap.size, 6, none⟩ = some (.bool s.used) := hB.cell 6
    have z7 : W.cell? ⟨w.heap.size, 7, none⟩ = some (.int .i64 s.state) := hB.cell 7
    have z8 := hB.lt
    go_wp2_with (go_at_call 46; refine (CV _).mono ?_; rintro e w1 ⟨rfl, L1⟩)
    go_ret2
    exact ⟨rfl, ⟨_, h.below (Base.next hL L1)⟩, Fr.of_below (Base.next hL L1)⟩
  · have ho := ok_send h.ok hs
    have eg : sendG g s = giveG g { s with state := 1, used := false } := by unfold sendG; rw [if_neg hb]
    rw [eg] at ho
    rw [show sendN g s = giveN g by unfold sendN; rw [if_neg hb], show sendE g s = giveE g by unfold sendE; rw [if_neg hb], eg]
    have CV := valid_in s hs
    rw [show decide (¬ badS s) = true from decide_eq_true hb] at CV
    clear hb eg
    have CA := fun (V : World) (hV : Below w.heap.size w V) => assign_in (h.below hV) { s with state := 1, used := false } ho
    clear ho
    generalize giveN g = n at *
    generalize giveE g = m at *
    go_enter Try.func20, Try.ntmps20
    go_upto_region 1 with fail
    have hB := Blk.new w #[.int .u64 s.pn, .int .u64 s.off, .int .u64 s.len, .int .u64 s.nonce, .int .u64 s.time, .bool s.coin, .bool s.used, .int .i64 s.state] 42
    have hL : Below w.heap.size w (w.alloc (.cells #[.int .u64 s.pn, .int .u64 s.off, .int .u64 s.len, .int .u64 s.nonce, .int .u64 s.time, .bool s.coin, .bool s.used, .int .i64 s.state] 42)) := (Below.refl _ _).alloc (Nat.le_refl _) _
    generalize w.alloc (.cells #[.int .u64 s.pn, .int .u64 s.off, .int .u64 s.len, .int .u64 s.nonce, .int .u64 s.time, .bool s.coin, .bool s.used, .int .i64 s.state] 42) = W at hL hB ⊢
    have z0 : W.cell? ⟨w.heap.size, 0, none⟩ = some (.int .u64 s.pn) := hB.cell 0
    have z1 : W.cell? ⟨w.heap.size, 1, none⟩ = some (.int .u64 s.off) := hB.cell 1
    have z2 : W.cell? ⟨w.heap.size, 2, none⟩ = some (.int .u64 s.len) := hB.cell 2
    have z3 : W.cell? ⟨w.heap.size, 3, none⟩ = some (.int .u64 s.nonce) := hB.cell 3
    have z4 : W.cell? ⟨w.heap.size, 4, none⟩ = some (.int .u64 s.time) := hB.cell 4
    have z5 : W.cell? ⟨w.heap.size, 5, none⟩ = some (.bool s.coin) := hB.cell 5
    have z6 : W.cell? ⟨w.heap.size, 6, none⟩ = some (.bool s.used) := hB.cell 6
    have z7 : W.cell? ⟨w.heap.size, 7, none⟩ = some (.int .i64 s.state) := hB.cell 7
    have z8 := hB.lt
    go_upto_region 3 with (go_at_call 46; refine (CV _).mono ?_; rintro e w1 ⟨rfl, L1⟩)
    have hB1 := hB.below L1 hB.lt
    have M1 := Base.next hL L1
    clear z0 z1 z2 z3 z4 z5 z6 z7 z8 CV hB L1 hL
    have z6 : w1.cell? ⟨w.heap.size, 6, none⟩ = some (.bool s.used) := hB1.cell 6
    have z8 := hB1.free 6
    have z9 := hB1.lt
    go_upto_region 4 with fail
    have hB2 : Blk (w1.setCell ⟨w.heap.size, 6, none⟩ (.bool false)) w.heap.size #[.int .u64 s.pn, .int .u64 s.off, .int .u64 s.len, .int .u64 s.nonce, .int .u64 s.time, .bool s.coin, .bool false, .int .i64 s.state] 42 := hB1.set 6 _
    have M2 : Below w.heap.size w (w1.setCell ⟨w.heap.size, 6, none⟩ (.bool false)) := ((Fr.of_below (S := fun k => k = w.heap.size) M1).setCell (p := ⟨w.heap.size, 6, none⟩) (fun _ => rfl) (.bool false)).toBelow (Nat.le_refl _) fun k hk => by omega
    generalize w1.setCell ⟨w.heap.size, 6, none⟩ (.bool false) = w2 at *
    clear z6 z8 z9 hB1 M1
    have z7 : w2.cell? ⟨w.heap.size, 7, none⟩ = some (.int .i64 s.state) := hB2.cell 7
    have z8 := hB2.free 7
    have z9 := hB2.lt
    go_upto_region 5 with fail
    have hB3 : Blk (w2.setCell ⟨w.heap.size, 7, none⟩ (.int .i64 1)) w.heap.size #[.int .u64 s.pn, .int .u64 s.off, .int .u64 s.len, .int .u64 s.nonce, .int .u64 s.time, .bool s.coin, .bool false, .int .i64 1] 42 := hB2.set 7 _
    have M3 : Below w.heap.size w (w2.setCell ⟨w.heap.size, 7, none⟩ (.int .i64 1)) := ((Fr.of_below (S := fun k => k = w.heap.size) M2).setCell (p := ⟨w.heap.size, 7, none⟩) (fun _ => rfl) (.int .i64 1)).toBelow (Nat.le_refl _) fun k hk => by omega
    generalize w2.setCell ⟨w.heap.size, 7, none⟩ (.int .i64 1) = w3 at *
    clear z7 z8 z9 hB2 M2
    have z0 : w3.cell? ⟨w.heap.size, 0, none⟩ = some (.int .u64 s.pn) := hB3.cell 0
    have z1 : w3.cell? ⟨w.heap.size, 1, none⟩ = some (.int .u64 s.off) := hB3.cell 1
    have z2 : w3.cell? ⟨w.heap.size, 2, none⟩ = some (.int .u64 s.len) := hB3.cell 2
    have z3 : w3.cell? ⟨w.heap.size, 3, none⟩ = some (.int .u64 s.nonce) := hB3.cell 3
    have z4 : w3.cell? ⟨w.heap.size, 4, none⟩ = some (.int .u64 s.time) := hB3.cell 4
    have z5 : w3.cell? ⟨w.heap.size, 5, none⟩ = some (.bool s.coin) := hB3.cell 5
    have z6 : w3.cell? ⟨w.heap.size, 6, none⟩ = some (.bool false) := hB3.cell 6
    have z7 : w3.cell? ⟨w.heap.size, 7, none⟩ = some (.int .i64 1) := hB3.cell 7
    have z8 := hB3.lt
    go_wp2_with (go_at_call 47; refine (CA _ M3).mono ?_; rintro e w4 ⟨rfl, K4, F4⟩)
    go_ret2
    exact ⟨rfl, K4, (Fr.of_below M3).trans F4 fun _ _ hk => hk⟩
theorem skip_in {S : Nat → Prop} {w : World} {b c cap : Nat} {kc : List Sn} {g : Lg} (h : Kp S w b c cap kc g) :
    Calls Try.prog 39 #[.pointer (some ⟨b, 0, none⟩)] w fun e w' => e = .returned (.tuple #[.int .u64 (giveN g), .int .i64 (giveE g)]) ∧ (∃ kc', Kp S w' b c cap kc' (skipG g)) ∧ Fr S w w' := by
  have CG := assign_in h { Z8 with state := 4 } (ok_skip h.ok)
  go_enter Try.func39, Try.ntmps39
  go_wp2_with (go_at_call 47; refine CG.mono ?_; rintro e w1 ⟨rfl, R1, F1⟩)
  go_ret2
  exact ⟨rfl, R1, F1⟩
theorem zero_sents (n : Nat) : (madeCells (#[.int .u64 0, .int .u64 0, .int .u64 0, .int .u64 0, .int .u64 0, .bool false, .bool false, .int .i64 0] : Array Value) (n * 8)).toList = sents (List.replicate n Z8) := by
  apply List.ext_getElem?
  intro j
  by_cases hj : j < n * 8
  · have hr := sents_at (l := List.replicate n Z8) (i := j / 8) (j % 8) (by simp; omega) (Nat.mod_lt _ (by decide))
    rw [show j / 8 * 8 + j % 8 = j by omega] at hr
    rw [hr, show (List.replicate n Z8).getD (j / 8) Z8 = Z8 by simp only [List.getD, List.getElem?_replicate]; split <;> rfl]
    have h8 : j % 8 < 8 := Nat.mod_lt _ (by decide)
    simp only [madeCells, Array.toList_map, List.getElem?_map, Array.toList_range, List.getElem?_range hj, Option.map_some]
    generalize j % 8 = i at *
    rcases (show i = 0 ∨ i = 1 ∨ i = 2 ∨ i = 3 ∨ i = 4 ∨ i = 5 ∨ i = 6 ∨ i = 7 by omega) with rfl | rfl | rfl | rfl | rfl | rfl | rfl | rfl <;> rfl
  · rw [List.getElem?_eq_none (by simp [size_madeCells]; omega), List.getElem?_eq_none (by rw [sents_len]; simp; omega)]
theorem new_fin (ring limit : Int) (l0 : 0 ≤ limit) {w w' : World} {n : Nat} (hn : (n : Int) = (newG ring limit).ring) {m : Int} (hm : m = (newG ring limit).limit) (hO : w'.ownsRow w.heap.size 42 8 (.slice (some ⟨w.heap.size, 0, none⟩) n n) n (madeCells (#[.int .u64 0, .int .u64 0, .int .u64 0, .int .u64 0, .int .u64 0, .bool false, .bool false, .int .i64 0] : Array Value) (n * 8)).toList)
    (hG : w.grownBy w' none) : ∃ c cap kc, Kp (fun k => w.heap.size ≤ k ∧ k < (w'.alloc (.cells #[.slice (some ⟨w.heap.size, 0, none⟩) n n, .int .u64 m, .int .u64 0] 67)).heap.size) (w'.alloc (.cells #[.slice (some ⟨w.heap.size, 0, none⟩) n n, .int .u64 m, .int .u64 0] 67)) w'.heap.size c cap kc (newG ring limit) ∧
      Below w.heap.size w (w'.alloc (.cells #[.slice (some ⟨w.heap.size, 0, none⟩) n n, .int .u64 m, .int .u64 0] 67)) := by
  have hs := hG.size
  have hlt : w.heap.size < w'.heap.size := (World.ownsRow.lt hO w.heap.size rfl).2
  rw [zero_sents] at hO
  have hO2 : Owns w' (.slice (some ⟨w.heap.size, 0, none⟩) n n) (List.replicate n Z8) := by
    unfold Owns
    rw [List.length_replicate]
    exact ⟨hO.1, by
      rcases hO.2 with h | ⟨g, cap, cur, h1, h2, h3⟩
      · exact .inl h
      · exact .inr ⟨g, cap, cur, h1, Nat.zero_le _, h3⟩⟩
  subst hm
  refine ⟨w.heap.size, n, List.replicate n Z8, ⟨ok_new ring limit l0, ⟨hs, by simp⟩, ⟨Nat.le_refl _, by simp; omega⟩, by omega, ?_, ?_, ?_, ?_⟩, ?_⟩
  · rw [List.length_replicate]
    exact Blk.new _ _ _
  · rw [List.length_replicate]
    exact hO2.alloc _
  · rw [List.length_replicate]
    exact hn
  · intro i _ hi
    simp [newG] at hi
  · exact ((Fr.of_grown (S := fun _ => False) hG fun k hk => by cases hk).toBelow (Nat.le_refl _) fun k hk => hk.elim).alloc hs _
theorem new_in (ring limit : Int) (r0 : -9223372036854775808 ≤ ring) (r1 : ring ≤ 9223372036854775807) (l0 : 0 ≤ limit) (l1 : limit ≤ 18446744073709551615) (w : World) :
    Calls Try.prog 17 #[.int .i64 ring, .int .u64 limit] w fun e w' => ∃ b, e = .returned (.pointer (some ⟨b, 0, none⟩)) ∧ (∃ c cap kc, Kp (fun k => w.heap.size ≤ k ∧ k < w'.heap.size) w' b c cap kc (newG ring limit)) ∧ Below w.heap.size w w' := by
  obtain ⟨i0, hi0, hz0, hz1, hz2⟩ := info_parts info8
  have hfin := fun n hn m hm w' hO hG => new_fin ring limit l0 (w := w) (w' := w') (n := n) hn (m := m) hm hO hG
  have hR := Lib.hid (show (newG ring limit).ring = max 4 (min ring 256) from rfl)
  have hM := Lib.hid (show (newG ring limit).limit = min limit 4611686018427387903 from rfl)
  generalize (newG ring limit).ring = gr at *
  generalize (newG ring limit).limit = gm at *
  by_cases h1 : 256 < ring
  · go_enter Try.func17, Try.ntmps17
    go_wp2_with ((refine wpList_make_full _ rfl (.tmp 7) (.tmp 7) 46 rfl w.heap.size 42 i0 _ 8 Try.underlying46 hi0 hz0 hz1 .i64 .i64 _ _ 256 rfl rfl (by omega) (by omega) (by rw [hz2]; decide) (by unfold maxLen; decide) (Nat.le_refl _) ?_); intro w1 O1 G1)
    all_goals go_ret
    all_goals first
      | (obtain ⟨c, cap, kc, K1, B1⟩ := hfin 256 (by rw [hR.out]; omega) limit (by rw [hM.out]; omega) w1 O1 G1; exact ⟨_, rfl, ⟨c, cap, kc, K1⟩, B1⟩)
      | (obtain ⟨c, cap, kc, K1, B1⟩ := hfin 256 (by rw [hR.out]; omega) 4611686018427387903 (by rw [hM.out]; omega) w1 O1 G1; exact ⟨_, rfl, ⟨c, cap, kc, K1⟩, B1⟩)
  · by_cases h2 : 4 ≤ ring
    · obtain ⟨n, rfl⟩ := Int.eq_ofNat_of_zero_le (show 0 ≤ ring by omega)
      go_enter Try.func17, Try.ntmps17
      go_wp2_with ((refine wpList_make_full _ rfl (.tmp 7) (.tmp 7) 46 rfl w.heap.size 42 i0 _ 8 Try.underlying46 hi0 hz0 hz1 .i64 .i64 _ _ n rfl rfl (by omega) (by omega) (by rw [hz2]; omega) (by unfold maxLen; omega) (Nat.le_refl _) ?_); intro w1 O1 G1)
      all_goals go_ret
      all_goals first
        | (obtain ⟨c, cap, kc, K1, B1⟩ := hfin n (by rw [hR.out]; omega) limit (by rw [hM.out]; omega) w1 O1 G1; exact ⟨_, rfl, ⟨c, cap, kc, K1⟩, B1⟩)
        | (obtain ⟨c, cap, kc, K1, B1⟩ := hfin n (by rw [hR.out]; omega) 4611686018427387903 (by rw [hM.out]; omega) w1 O1 G1; exact ⟨_, rfl, ⟨c, cap, kc, K1⟩, B1⟩)
    · go_enter Try.func17, Try.ntmps17
      go_wp2_with ((refine wpList_make_full _ rfl (.tmp 7) (.tmp 7) 46 rfl w.heap.size 42 i0 _ 8 Try.underlying46 hi0 hz0 hz1 .i64 .i64 _ _ 4 rfl rfl (by omega) (by omega) (by rw [hz2]; decide) (by unfold maxLen; decide) (Nat.le_refl _) ?_); intro w1 O1 G1)
      all_goals go_ret
      all_goals first
        | (obtain ⟨c, cap, kc, K1, B1⟩ := hfin 4 (by rw [hR.out]; omega) limit (by rw [hM.out]; omega) w1 O1 G1; exact ⟨_, rfl, ⟨c, cap, kc, K1⟩, B1⟩)
        | (obtain ⟨c, cap, kc, K1, B1⟩ := hfin 4 (by rw [hR.out]; omega) 4611686018427387903 (by rw [hM.out]; omega) w1 O1 G1; exact ⟨_, rfl, ⟨c, cap, kc, K1⟩, B1⟩)
set_option maxHeartbeats 1000000 in
theorem all_in {S : Nat → Prop} {w : World} {b c cap : Nat} {kc : List Sn} {g : Lg} (h : Kp S w b c cap kc g) (hn : g.l.length ≤ 1000000) :
    Calls Try.prog 21 #[.pointer (some ⟨b, 0, none⟩)] w fun e w' => ∃ v, e = .returned v ∧ Owns w' v (allS g) ∧ (∀ j, v.ownBlock = some j → w.heap.size ≤ j) ∧ Below w.heap.size w w' := by
  have hlow := low_le g
  have C0 := low_in h
  have hAl := kept_len g
  have hget : ∀ j, (allS g).getD j Z8 = atN g (lowN g + j) := fun j => drop_getD _ _ _
  generalize hk0 : lowN g = k0 at *
  generalize hD : allS g = D at *
  have HD := Lib.hid hD
  have HK := Lib.hid hk0
  clear hD hk0
  have hnl := h.nl
  go_enter Try.func21, Try.ntmps21
  go_wp2_with (go_at_call 27; refine C0.mono ?_; rintro e w1 ⟨rfl, L1⟩; clear C0)
  go_loopw [3, 4] (fun o i wr => ∃ (k : Nat) (v : Value), k0 ≤ k ∧ k ≤ g.l.length ∧ i = .int .u64 k ∧ o = v ∧ Owns wr v (D.take (k - k0)) ∧ (∀ j, v.ownBlock = some j → w.heap.size ≤ j) ∧ Below w.heap.size w wr) (fun _ i _ => g.l.length - (intOf i).toNat)
  case atStart => exact ⟨k0, _, Nat.le_refl _, hlow, rfl, rfl, by rw [Nat.sub_self, List.take_zero]; exact Owns.nil _, fun j hj => by simp [Value.ownBlock] at hj, L1⟩
  case round =>
    obtain ⟨k, v, hk0', hk, rfl, rfl, hO, hV, hL⟩ := hrel
    have hR := h.below hL
    have C1 := next_in hR
    have hkI : (k : Int) ≤ (g.l.length : Int) := by omega
    by_cases hlt : k < g.l.length
    · have hltI : (k : Int) < (g.l.length : Int) := by omega
      have C2 := entry_some hR k (by rw [HK.out]; exact hk0') hlt
      have hX := fun (W : World) (hW : Below w.heap.size w W) => (h.below hW).cells (k := k) (by rw [HK.out]; exact hk0') hlt
      have hc0 := fun (W : World) (hW : Below w.heap.size w W) => (h.below hW).ltc
      have htk : D.take (k - k0) ++ [atN g k] = D.take (k + 1 - k0) := by
        have := hget (k - k0)
        rw [show k0 + (k - k0) = k by omega] at this
        rw [← this, show k + 1 - k0 = (k - k0) + 1 by omega, List.take_add_one]
        simp [List.getD, show k - k0 < D.length by omega]
      have hlen1 : (D.take (k - k0)).length + 1 ≤ 1000000000000 := by rw [List.length_take]; omega
      generalize hs : atN g k = s at *
      have HT := Lib.hid htk
      have HV := Lib.hid hV
      clear htk hget hs hV hAl
      go_wp2_with (first
        | (go_at_call 29; refine C1.mono ?_; rintro e w2 ⟨rfl, rfl⟩)
        | (go_at_call 37; refine C2.mono ?_; rintro e w3 ⟨rfl, L3⟩; have hL3 := Base.next hL L3; obtain ⟨e0, e1, e2, e3, e4, e5, e6, e7⟩ := hX _ hL3; have hc := hc0 _ hL3; have O3 := hO.below L3; clear hX hc0 C1)
        | (at_builtin; (refine wpList_plain rfl fun _ hK => wp_add8 s (.tmp 13) (.tmp 19) rfl rfl O3 rfl rfl hlen1 ?_); intro v' w' A'; refine hK _ _ ?_))
      all_goals go_roundw
      case rel =>
        have hz := hL3.size
        exact ⟨k + 1, v', by omega, by omega, by go_num, rfl, by rw [← HT.out]; exact A'.own, fun j hj => by
          rcases A'.at_ j hj with h1 | h1
          · exact HV.out j h1
          · omega, A'.fr.below hL3 hz HV.out⟩
      case measure => simp [intOf]; omega
    · obtain rfl : k = g.l.length := by omega
      rw [List.take_of_length_le (by omega)] at hO
      go_wp2_with (go_at_call 29; refine C1.mono ?_; rintro e w2 ⟨rfl, rfl⟩)
      go_ret
      exact ⟨_, rfl, hO, hV, hL⟩

/-- The program's ledger at a is g; all that it is made of lies in S. -/
def Led (S : Nat → Prop) (w : World) (a : Addr) (g : Lg) : Prop := ∃ b c cap kc, a = ⟨b, 0, none⟩ ∧ Kp S w b c cap kc g
theorem Led.ok {S : Nat → Prop} {w : World} {a : Addr} {g : Lg} (h : Led S w a g) : Ok g := by
  obtain ⟨b, c, cap, kc, rfl, h⟩ := h
  exact h.ok
theorem Led.kept {S T : Nat → Prop} {w w' : World} {a : Addr} {g : Lg} (h : Led S w a g) (hf : Fr T w w') (hn : ∀ k, S k → ¬ T k) : Led S w' a g := by
  obtain ⟨b, c, cap, kc, rfl, h⟩ := h
  exact ⟨b, c, cap, kc, rfl, h.kept hf hn⟩
theorem Led.mono {S T : Nat → Prop} {w : World} {a : Addr} {g : Lg} (h : Led S w a g) (hn : ∀ k, S k → T k) : Led T w a g := by
  obtain ⟨b, c, cap, kc, rfl, h⟩ := h
  exact ⟨b, c, cap, kc, rfl, h.mono hn⟩
theorem new_any (ring limit : Int) (r0 : -9223372036854775808 ≤ ring) (r1 : ring ≤ 9223372036854775807) (l0 : 0 ≤ limit) (l1 : limit ≤ 18446744073709551615) (w : World) :
    Calls Try.prog 17 #[.int .i64 ring, .int .u64 limit] w fun e w' => ∃ a, e = .returned (.pointer (some a)) ∧ Led (fun k => w.heap.size ≤ k ∧ k < w'.heap.size) w' a (newG ring limit) ∧ Below w.heap.size w w' :=
  (new_in ring limit r0 r1 l0 l1 w).mono fun e w' ⟨b, he, ⟨c, cap, kc, hk⟩, hb⟩ => ⟨_, he, ⟨b, c, cap, kc, rfl, hk⟩, hb⟩
theorem low_any {S : Nat → Prop} {w : World} {a : Addr} {g : Lg} (h : Led S w a g) :
    Calls Try.prog 27 #[.pointer (some a)] w fun e w' => e = .returned (.int .u64 (lowN g)) ∧ Below w.heap.size w w' := by
  obtain ⟨b, c, cap, kc, rfl, h⟩ := h
  exact low_in h
theorem next_any {S : Nat → Prop} {w : World} {a : Addr} {g : Lg} (h : Led S w a g) :
    Calls Try.prog 29 #[.pointer (some a)] w fun e w' => e = .returned (.int .u64 g.l.length) ∧ Below w.heap.size w w' := by
  obtain ⟨b, c, cap, kc, rfl, h⟩ := h
  exact (next_in h).mono fun e w' ⟨he, hw⟩ => ⟨he, hw ▸ Below.refl _ _⟩
theorem least_any {S : Nat → Prop} {w : World} {a : Addr} {g : Lg} (h : Led S w a g) :
    Calls Try.prog 30 #[.pointer (some a)] w fun e w' => e = .returned (.int .u64 (leastN g)) ∧ Below w.heap.size w w' := by
  obtain ⟨b, c, cap, kc, rfl, h⟩ := h
  exact least_in h
theorem room_any {S : Nat → Prop} {w : World} {a : Addr} {g : Lg} (h : Led S w a g) :
    Calls Try.prog 32 #[.pointer (some a)] w fun e w' => e = .returned (.int .i64 (roomI g)) ∧ Below w.heap.size w w' := by
  obtain ⟨b, c, cap, kc, rfl, h⟩ := h
  exact room_in h
theorem flight_any {S : Nat → Prop} {w : World} {a : Addr} {g : Lg} (h : Led S w a g) :
    Calls Try.prog 34 #[.pointer (some a)] w fun e w' => e = .returned (.int .u64 (flight g)) ∧ Below w.heap.size w w' := by
  obtain ⟨b, c, cap, kc, rfl, h⟩ := h
  exact flight_in h
theorem get_any {S : Nat → Prop} {w : World} {a : Addr} {g : Lg} (h : Led S w a g) (pn : Int) (p0 : 0 ≤ pn) (p1 : pn ≤ 18446744073709551615) :
    Calls Try.prog 14 #[.pointer (some a), .int .u64 pn] w fun e w' => e = .returned (.tuple #[.agg #[.int .u64 (getS g pn).pn, .int .u64 (getS g pn).off, .int .u64 (getS g pn).len, .int .u64 (getS g pn).nonce, .int .u64 (getS g pn).time, .bool (getS g pn).coin, .bool (getS g pn).used, .int .i64 (getS g pn).state], .bool (hasN g pn)]) ∧ Below w.heap.size w w' := by
  obtain ⟨b, c, cap, kc, rfl, h⟩ := h
  exact get_in h pn p0 p1
/-- One ledger behind a call that turned it. -/
theorem led_of {S : Nat → Prop} {w w' : World} {b c cap : Nat} {g : Lg} (h : ∃ kc', Kp S w' b c cap kc' g) : Led (Plus S w w') w' ⟨b, 0, none⟩ g := by
  obtain ⟨kc', h⟩ := h
  exact ⟨b, c, cap, kc', rfl, h.mono fun k hk => .inl hk⟩
theorem send_any {S : Nat → Prop} {w : World} {a : Addr} {g : Lg} (h : Led S w a g) (s : Sn) (hs : Words s) (hn : g.l.length ≤ 1000000) :
    Calls Try.prog 20 #[.pointer (some a), .agg #[.int .u64 s.pn, .int .u64 s.off, .int .u64 s.len, .int .u64 s.nonce, .int .u64 s.time, .bool s.coin, .bool s.used, .int .i64 s.state]] w fun e w' => e = .returned (.tuple #[.int .u64 (sendN g s), .int .i64 (sendE g s)]) ∧ Led (Plus S w w') w' a (sendG g s) ∧ Fr S w w' := by
  obtain ⟨b, c, cap, kc, rfl, h⟩ := h
  exact (send_in h s hs).mono fun e w' ⟨he, hk, hf⟩ => ⟨he, led_of hk, hf⟩
theorem skip_any {S : Nat → Prop} {w : World} {a : Addr} {g : Lg} (h : Led S w a g) (hn : g.l.length ≤ 1000000) :
    Calls Try.prog 39 #[.pointer (some a)] w fun e w' => e = .returned (.tuple #[.int .u64 (giveN g), .int .i64 (giveE g)]) ∧ Led (Plus S w w') w' a (skipG g) ∧ Fr S w w' := by
  obtain ⟨b, c, cap, kc, rfl, h⟩ := h
  exact (skip_in h).mono fun e w' ⟨he, hk, hf⟩ => ⟨he, led_of hk, hf⟩
theorem use_any {S : Nat → Prop} {w : World} {a : Addr} {g : Lg} (h : Led S w a g) (pn : Int) (p0 : 0 ≤ pn) (p1 : pn ≤ 18446744073709551615) :
    Calls Try.prog 43 #[.pointer (some a), .int .u64 pn] w fun e w' => e = .returned (.bool (useB g pn)) ∧ Led (Plus S w w') w' a (useG g pn) ∧ Fr S w w' := by
  obtain ⟨b, c, cap, kc, rfl, h⟩ := h
  exact (use_in h pn p0 p1).mono fun e w' ⟨he, hk, hf⟩ => ⟨he, led_of hk, hf⟩
theorem settle_any {S : Nat → Prop} {w : World} {a : Addr} {g : Lg} (h : Led S w a g) (pn st : Int) (p0 : 0 ≤ pn) (p1 : pn ≤ 18446744073709551615) (s0 : -9223372036854775808 ≤ st) (s1 : st ≤ 9223372036854775807) :
    Calls Try.prog 41 #[.pointer (some a), .int .u64 pn, .int .i64 st] w fun e w' => e = .returned (.bool (settleB g pn st)) ∧ Led (Plus S w w') w' a (settleG g pn st) ∧ Fr S w w' := by
  obtain ⟨b, c, cap, kc, rfl, h⟩ := h
  exact (settle_in h pn st p0 p1 s0 s1).mono fun e w' ⟨he, hk, hf⟩ => ⟨he, led_of hk, hf⟩
theorem all_any {S : Nat → Prop} {w : World} {a : Addr} {g : Lg} (h : Led S w a g) (hn : g.l.length ≤ 1000000) :
    Calls Try.prog 21 #[.pointer (some a)] w fun e w' => ∃ p cap, e = .returned (.slice p (allS g).length cap) ∧ (allS g).length ≤ cap ∧ cap ≤ maxLen ∧ RowIn (fun k => w.heap.size ≤ k) w' p (sents (allS g)) ∧ Below w.heap.size w w' := by
  obtain ⟨b, c, cap, kc, rfl, h⟩ := h
  refine (all_in h hn).mono fun e w' ⟨v, he, hO, hV, hL⟩ => ?_
  obtain ⟨p, cap', rfl, h1, h2, hz, _, hx⟩ := hO.read
  refine ⟨p, cap', he, h1, h2, fun j u hj => ?_, hL⟩
  obtain ⟨b', off, e', hb', hc⟩ := hz j u hj
  obtain ⟨g', e2, ho⟩ := hx _ e'
  refine ⟨b', off, e', ?_, hb', hc⟩
  have h3 := hV _ ho
  injection e2 with e2
  omega
theorem Led.below {S : Nat → Prop} {w w' : World} {a : Addr} {g : Lg} (h : Led S w a g) (hb : Below w.heap.size w w') : Led S w' a g := h.kept (T := fun _ => False) (Fr.of_below hb) fun _ _ h => h
end Go.Proofs.Ytoncominjgkjoaa.Led
