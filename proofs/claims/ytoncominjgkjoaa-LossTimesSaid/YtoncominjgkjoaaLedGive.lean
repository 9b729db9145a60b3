/-
  Contracts of the program's ledger: what gives a number.
-/
import Derived.Test.YtoncominjgkjoaaLedTurn
import Derived.Test.YtoncominjgkjoaaHeld
import Derived.Test.YtoncominjgkjoaaTail
import Derived.Test.YtoncominjgkjoaaTail2
set_option linter.unusedSimpArgs false
set_option linter.unusedVariables false
namespace Go.Proofs.Ytoncominjgkjoaa.Led
set_option linter.unusedVariables false
set_option maxRecDepth 20000
open Go.ChangeShapes Go.WideShapes Go.ChangeAt Go.RowKit
open Go.Proofs.Ytoncominjgkjoaa.Base Go.Proofs.Ytoncominjgkjoaa.LedPlain

/-- The ring behind one more. -/
theorem Kp.given {S : Nat → Prop} {w w' : World} {b c cap : Nat} {kc : List Sn} {g : Lg} (h : Kp S w b c cap kc g) {s : Sn} (he : giveE g = 0) (ho : Ok (giveG g s)) {n1 : Int} (hn1 : n1 = (g.l.length : Int) + 1)
    (hB : Blk w' b #[.slice (some ⟨c, 0, none⟩) kc.length cap, .int .u64 g.limit, .int .u64 n1] 67)
    (hO : Owns w' (.slice (some ⟨c, 0, none⟩) kc.length cap) (kc.set (g.l.length % kc.length) { s with pn := g.l.length })) : Kp S w' b c cap (kc.set (g.l.length % kc.length) { s with pn := g.l.length }) (giveG g s) := by
  have hr := h.r0
  have hl := h.low
  have hln := h.len
  have eg : giveG g s = { g with l := g.l ++ [{ s with pn := g.l.length }] } := by unfold giveG; rw [if_pos he]
  rw [eg] at ho ⊢
  subst hn1
  refine ⟨ho, h.inB, h.inC, h.ne, ?_, ?_, ?_, ?_⟩
  · simp only [List.length_set, List.length_append, List.length_singleton]
    exact hB
  · rw [List.length_set]
    exact hO
  · rw [List.length_set]
    exact h.len
  · intro i hi hi2
    unfold lowN at hi
    simp only [List.length_append, List.length_singleton, List.length_set] at hi hi2 ⊢
    by_cases e : i = g.l.length
    · subst e
      rw [getD_set_same _ _ (Nat.mod_lt _ (by omega)), at_snoc]
    · rw [getD_set_other _ _ (mod_ne (L := g.l.length + 1) (by omega) (by omega) (by omega) (by omega) (by omega) (Ne.symm e)), at_snoc_lt (by omega)]
      exact h.at_ i (by omega) (by omega)
theorem assign_in {S : Nat → Prop} {w : World} {b c cap : Nat} {kc : List Sn} {g : Lg} (h : Kp S w b c cap kc g) (s : Sn) (ho : Ok (giveG g s)) :
    Calls Try.prog 47 #[.pointer (some ⟨b, 0, none⟩), .agg #[.int .u64 s.pn, .int .u64 s.off, .int .u64 s.len, .int .u64 s.nonce, .int .u64 s.time, .bool s.coin, .bool s.used, .int .i64 s.state]] w
      fun e w' => e = .returned (.tuple #[.int .u64 (giveN g), .int .i64 (giveE g)]) ∧ (∃ kc', Kp S w' b c cap kc' (giveG g s)) ∧ Fr S w w' := by
  have hl1 := h.ok.l1
  have hl0 := h.ok.l0
  have hnl := h.nl
  by_cases h8 : g.limit < (g.l.length : Int)
  · have he : giveE g = 8 := by unfold giveE; rw [if_pos (by omega)]
    rw [show giveN g = 0 by unfold giveN; rw [if_neg (by omega)], show giveG g s = g by unfold giveG; rw [if_neg (by omega)], he]
    clear he ho
    go_enter Try.func47, Try.ntmps47
    go_upto_region 1 with fail
    have hL : Below w.heap.size w (w.alloc (.cells #[.int .u64 s.pn, .int .u64 s.off, .int .u64 s.len, .int .u64 s.nonce, .int .u64 s.time, .bool s.coin, .bool s.used, .int .i64 s.state] 42)) := (Below.refl _ _).alloc (Nat.le_refl _) _
    generalize w.alloc (.cells #[.int .u64 s.pn, .int .u64 s.off, .int .u64 s.len, .int .u64 s.nonce, .int .u64 s.time, .bool s.coin, .bool s.used, .int .i64 s.state] 42) = W at hL ⊢
    have hR := h.below hL
    have e1 := fun p : In (Lt W) => inCell p hR.c1
    have e2 := fun p : In (Lt W) => inCell p hR.c2
    go_wp2
    refine wp_region_in (Lt W) (Lt.drew W) (by kernel_rfl) (by kernel_rfl) ?_
    repeat (go_big_quiet_step (fail))
    refine wpQuiet_nil ?_
    rintro w1 ⟨⟨_, hw1⟩, rfl⟩
    have hw1 : Below W.heap.size W w1 := hw1
    go_wp2
    go_ret2
    exact ⟨rfl, ⟨_, hR.below hw1⟩, Fr.of_below (Base.next hL hw1)⟩
  · by_cases h7 : roomI g = 0
    · have he : giveE g = 7 := by unfold giveE; rw [if_neg (by omega), if_pos (by omega)]
      rw [show giveN g = 0 by unfold giveN; rw [if_neg (by omega)], show giveG g s = g by unfold giveG; rw [if_neg (by omega)], he]
      clear he ho
      go_enter Try.func47, Try.ntmps47
      go_upto_region 1 with fail
      have hL : Below w.heap.size w (w.alloc (.cells #[.int .u64 s.pn, .int .u64 s.off, .int .u64 s.len, .int .u64 s.nonce, .int .u64 s.time, .bool s.coin, .bool s.used, .int .i64 s.state] 42)) := (Below.refl _ _).alloc (Nat.le_refl _) _
      generalize w.alloc (.cells #[.int .u64 s.pn, .int .u64 s.off, .int .u64 s.len, .int .u64 s.nonce, .int .u64 s.time, .bool s.coin, .bool s.used, .int .i64 s.state] 42) = W at hL ⊢
      have hR := h.below hL
      have e1 := fun p : In (Lt W) => inCell p hR.c1
      have e2 := fun p : In (Lt W) => inCell p hR.c2
      go_wp2
      refine wp_region_in (Lt W) (Lt.drew W) (by kernel_rfl) (by kernel_rfl) ?_
      repeat (go_big_quiet_step (fail))
      refine wpQuiet_nil ?_
      rintro w1 ⟨⟨_, hw1⟩, rfl⟩
      have hw1 : Below W.heap.size W w1 := hw1
      have hR1 := hR.below hw1
      have CR := room_in hR1
      rw [h7] at CR
      go_wp2_with (go_at_call 32; refine CR.mono ?_; rintro e w2 ⟨rfl, L2⟩)
      go_ret2
      exact ⟨rfl, ⟨_, hR1.below L2⟩, Fr.of_below (Base.next (Base.next hL hw1) L2)⟩
    · have hrg := room_ge h.ok
      have he : giveE g = 0 := by unfold giveE; rw [if_neg (by omega), if_neg (by omega)]
      rw [show giveN g = (g.l.length : Int) by unfold giveN; rw [if_pos he], he]
      have HE := Lib.hid he
      have HO := Lib.hid ho
      clear he ho hrg
      have hr := h.r0
      have hcn := h.ltc
      go_enter Try.func47, Try.ntmps47
      go_upto_region 1 with fail
      have hB := Blk.new w #[.int .u64 s.pn, .int .u64 s.off, .int .u64 s.len, .int .u64 s.nonce, .int .u64 s.time, .bool s.coin, .bool s.used, .int .i64 s.state] 42
      have hL : Below w.heap.size w (w.alloc (.cells #[.int .u64 s.pn, .int .u64 s.off, .int .u64 s.len, .int .u64 s.nonce, .int .u64 s.time, .bool s.coin, .bool s.used, .int .i64 s.state] 42)) := (Below.refl _ _).alloc (Nat.le_refl _) _
      generalize w.alloc (.cells #[.int .u64 s.pn, .int .u64 s.off, .int .u64 s.len, .int .u64 s.nonce, .int .u64 s.time, .bool s.coin, .bool s.used, .int .i64 s.state] 42) = W at hL hB ⊢
      have hR := h.below hL
      have e1 := fun p : In (Lt W) => inCell p hR.c1
      have e2 := fun p : In (Lt W) => inCell p hR.c2
      go_wp2
      refine wp_region_in (Lt W) (Lt.drew W) (by kernel_rfl) (by kernel_rfl) ?_
      repeat (go_big_quiet_step (fail))
      refine wpQuiet_nil ?_
      rintro w1 ⟨⟨_, hw1⟩, rfl⟩
      have hw1 : Below W.heap.size W w1 := hw1
      have CR := room_in (hR.below hw1)
      generalize hrm : roomI g = rm at *
      have HRM := Lib.hid hrm
      clear hrm e1 e2
      go_upto_region 5 with (go_at_call 32; refine CR.mono ?_; rintro e w2 ⟨rfl, L2⟩)
      have M2 := Base.next (Base.next hL hw1) L2
      have hR2 := h.below M2
      have hB2 := hB.below (Base.next hw1 L2) hB.lt
      clear CR hR hw1 L2 hB hL
      have d0 : w2.cell? ⟨w.heap.size, 0, none⟩ = some (.int .u64 s.pn) := hB2.cell 0
      have d1 := hB2.free 0
      have d2 := hB2.lt
      have d3 := hR2.c2
      have d4 := hR2.lt
      have hbn := h.lt
      go_upto_region 6 with fail
      have hB3 : Blk (w2.setCell ⟨w.heap.size, 0, none⟩ (.int .u64 g.l.length)) w.heap.size #[.int .u64 g.l.length, .int .u64 s.off, .int .u64 s.len, .int .u64 s.nonce, .int .u64 s.time, .bool s.coin, .bool s.used, .int .i64 s.state] 42 := hB2.set 0 _
      have F3 : Fr S w (w2.setCell ⟨w.heap.size, 0, none⟩ (.int .u64 g.l.length)) := (Fr.of_below M2).setCell (fun e => absurd e (Nat.lt_irrefl _)) _
      have G3 : Fr (fun k => k = w.heap.size) w2 (w2.setCell ⟨w.heap.size, 0, none⟩ (.int .u64 g.l.length)) := (Fr.refl (fun k => k = w.heap.size) _).setCell (fun _ => rfl) _
      have K3 := hR2.blk.kept G3 (fun e => by omega)
      have O3 := hR2.own.kept G3 (fun k hk => by obtain rfl : c = k := Option.some.inj hk; omega)
      generalize w2.setCell ⟨w.heap.size, 0, none⟩ (.int .u64 g.l.length) = w3 at *
      clear d0 d1 d2 d3 d4 hB2 G3 hR2 M2
      have d3 : w3.cell? ⟨b, 2, none⟩ = some (.int .u64 g.l.length) := K3.cell 2
      have d1 := K3.free 2
      have d4 := K3.lt
      go_upto_region 7 with fail
      have K4 : Blk (w3.setCell ⟨b, 2, none⟩ (.int .u64 ((g.l.length : Int) + 1))) b #[.slice (some ⟨c, 0, none⟩) kc.length cap, .int .u64 g.limit, .int .u64 ((g.l.length : Int) + 1)] 67 := K3.set 2 _
      have F4 := F3.setCell (p := ⟨b, 2, none⟩) (fun _ => h.inB) (.int .u64 ((g.l.length : Int) + 1))
      have G4 : Fr (fun k => k = b) w3 (w3.setCell ⟨b, 2, none⟩ (.int .u64 ((g.l.length : Int) + 1))) := (Fr.refl (fun k => k = b) _).setCell (fun _ => rfl) _
      have B4 := hB3.kept G4 (fun e => by omega)
      have O4 := O3.kept G4 (fun k hk => by cases hk; exact h.ne)
      generalize w3.setCell ⟨b, 2, none⟩ (.int .u64 ((g.l.length : Int) + 1)) = w4 at *
      clear d1 d3 d4 G4 F3 K3 O3 hB3
      have hK : Kb w4 b c cap kc.length g.limit (g.l.length + 1) := ⟨by simpa using K4, hr.1, hr.2, h.caps.1, h.caps.2, by omega, O4.lt rfl⟩
      have CE := fun p : In (Lt w4) => entry_b (hK.below p.h) g.l.length (by omega) (by omega)
      have f0 := fun p : In (Lt w4) => inCell p (o := 0) (v := .int .u64 g.l.length) (B4.cell 0)
      have f1 := fun p : In (Lt w4) => inCell p (o := 1) (v := .int .u64 s.off) (B4.cell 1)
      have f2 := fun p : In (Lt w4) => inCell p (o := 2) (v := .int .u64 s.len) (B4.cell 2)
      have f3 := fun p : In (Lt w4) => inCell p (o := 3) (v := .int .u64 s.nonce) (B4.cell 3)
      have f4 := fun p : In (Lt w4) => inCell p (o := 4) (v := .int .u64 s.time) (B4.cell 4)
      have f5 := fun p : In (Lt w4) => inCell p (o := 5) (v := .bool s.coin) (B4.cell 5)
      have f6 := fun p : In (Lt w4) => inCell p (o := 6) (v := .bool s.used) (B4.cell 6)
      have f7 := fun p : In (Lt w4) => inCell p (o := 7) (v := .int .i64 s.state) (B4.cell 7)
      have hmr : g.l.length % kc.length < kc.length := Nat.mod_lt _ (by omega)
      go_wp2
      refine wp_region_rest (C := fun w' => ∃ p : In (Lt w4), w' = p.w) 6 1 (by kernel_rfl) (by kernel_rfl) (by kernel_rfl) (by kernel_rfl) (by kernel_rfl) ⟨⟨w4.drew, Lt.drew w4⟩, rfl⟩ ?_
      simp only [List.toList_toArray, List.take_succ_cons, List.take_zero]
      repeat (go_big_quiet_step ((go_at_call 37; refine in_below (v := .pointer (some ⟨c, g.l.length % kc.length * 8, none⟩)) ?_; exact CE _)))
      refine wpQuiet_nil ?_
      rintro w5 ⟨⟨_, hw5⟩, rfl⟩
      have hw5 : Below w4.heap.size w4 w5 := hw5
      clear f0 f1 f2 f3 f4 f5 f6 f7 CE
      refine wpAny_of_held (S := fun _ => True) _ _ _ _ ?_
      refine held_wp (i := 6) rfl (by kernel_rfl) (by kernel_rfl) (wp_store8 (.tmp 35) (.tmp 34) (by rfl) rfl (O4.below hw5) hmr { s with pn := g.l.length } (by kernel_rfl) (by kernel_rfl) ?_)
      intro w6 O6 F6
      refine ⟨trivial, ?_⟩
      have B6 := (B4.below hw5 B4.lt).kept F6 (fun e => by omega)
      have K6 := (K4.below hw5 K4.lt).kept F6 (fun e => by have := h.ne; omega)
      have x0 : w6.cell? ⟨w.heap.size, 0, none⟩ = some (.int .u64 g.l.length) := B6.cell 0
      have x1 := B6.lt
      refine held_done (by kernel_rfl) ?_
      go_wp2
      go_ret2
      exact ⟨rfl, ⟨_, h.given HE.out HO.out rfl K6 O6⟩, (F4.trans (Fr.of_below (S := S) hw5) fun _ _ h => h).trans F6 fun i hi e => by subst e; exact h.inC⟩
end Go.Proofs.Ytoncominjgkjoaa.Led
