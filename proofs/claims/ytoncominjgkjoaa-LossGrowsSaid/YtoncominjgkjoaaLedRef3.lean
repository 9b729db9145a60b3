/-
  Contracts of the reference's ledger: what gives a number, what makes one, what tells all of it.
-/
import Derived.Test.YtoncominjgkjoaaLedRef2
import Derived.Test.YtoncominjgkjoaaLedOwn
set_option linter.unusedSimpArgs false
set_option linter.unusedVariables false
namespace Go.Proofs.Ytoncominjgkjoaa.Led
set_option linter.unusedVariables false
set_option maxRecDepth 20000
open Go.ChangeShapes Go.WideShapes Go.ChangeAt Go.RowKit
open Go.Proofs.Ytoncominjgkjoaa.Base Go.Proofs.Ytoncominjgkjoaa.LedPlain

theorem Rf.plus {S : Nat → Prop} {w w1 w2 : World} {b : Nat} {g : Lg} (h : Rf S w b g) : Rf (Plus S w1 w2) w b g := h.mono fun k hk => .inl hk

/-- What an append leaves, laid in the ledger's block. -/
theorem rf_given {S : Nat → Prop} {w w3 w4 : World} {b : Nat} {g : Lg} {v v4 : Value} {s : Sn} (ho : Ok { g with l := g.l ++ [s] }) (hb : S b) (hbw : b < w.heap.size) (hv : ∀ k, v.ownBlock = some k → S k ∧ k ≠ b) (hsz : w.heap.size ≤ w3.heap.size)
    (F3 : Fr S w w3) (B4 : Blk w4 b #[.int .i64 g.ring, .int .u64 g.limit, v] 58) (A : Added8 w3 v (g.l ++ [s]) v4 w4) :
    Rf (Plus S w (w4.setCell ⟨b, 2, none⟩ v4)) (w4.setCell ⟨b, 2, none⟩ v4) b { g with l := g.l ++ [s] } ∧ Fr S w (w4.setCell ⟨b, 2, none⟩ v4) := by
  have hnb : ∀ k, v4.ownBlock = some k → k ≠ b ∧ (S k ∨ (w.heap.size ≤ k ∧ k < w4.heap.size)) := fun k hk => by
    rcases A.at_ k hk with h1 | h1
    · exact ⟨(hv k h1).2, .inl (hv k h1).1⟩
    · exact ⟨by omega, .inr ⟨by omega, h1.2⟩⟩
  have es : (w4.setCell ⟨b, 2, none⟩ v4).heap.size = w4.heap.size := by simp [World.setCell]
  refine ⟨⟨ho, .inl hb, v4, B4.set 2 v4, ?_, fun k hk => ⟨?_, (hnb k hk).1⟩⟩, ?_⟩
  · exact A.own.kept (T := fun k => k = b) ((Fr.of_below (S := fun k => k = b) (Below.refl w4.heap.size w4)).setCell (p := ⟨b, 2, none⟩) (fun _ => rfl) v4) fun k hk e => (hnb k hk).1 e
  · unfold Plus
    rw [es]
    exact (hnb k hk).2
  · exact (F3.trans A.fr fun i _ hi => (hv i hi).1).setCell (fun _ => hb) v4
set_option maxHeartbeats 1000000 in
theorem ref_give {S : Nat → Prop} {w : World} {b : Nat} {g : Lg} (h : Rf S w b g) (s : Sn) (ho : Ok (giveG g s)) (hn : g.l.length ≤ 1000000) :
    Calls Try.prog 51 #[.pointer (some ⟨b, 0, none⟩), .agg #[.int .u64 s.pn, .int .u64 s.off, .int .u64 s.len, .int .u64 s.nonce, .int .u64 s.time, .bool s.coin, .bool s.used, .int .i64 s.state]] w fun e w' => e = .returned (.tuple #[.int .u64 (giveN g), .int .i64 (giveE g)]) ∧ Rf (Plus S w w') w' b (giveG g s) ∧ Fr S w w' := by
  by_cases h1 : (g.l.length : Int) > g.limit
  · have hE : giveE g = 8 := by unfold giveE; rw [if_pos h1]
    rw [show giveN g = 0 by unfold giveN; rw [hE]; rfl, show giveG g s = g by unfold giveG; rw [hE]; rfl, hE]
    clear hE ho
    go_enter Try.func51, Try.ntmps51
    go_upto_region 1 with fail
    have hB := Blk.new w #[.int .u64 s.pn, .int .u64 s.off, .int .u64 s.len, .int .u64 s.nonce, .int .u64 s.time, .bool s.coin, .bool s.used, .int .i64 s.state] 42
    have hL : Below w.heap.size w (w.alloc (.cells #[.int .u64 s.pn, .int .u64 s.off, .int .u64 s.len, .int .u64 s.nonce, .int .u64 s.time, .bool s.coin, .bool s.used, .int .i64 s.state] 42)) := (Below.refl _ _).alloc (Nat.le_refl _) _
    have hR := h.below hL
    generalize w.alloc (.cells #[.int .u64 s.pn, .int .u64 s.off, .int .u64 s.len, .int .u64 s.nonce, .int .u64 s.time, .bool s.coin, .bool s.used, .int .i64 s.state] 42) = W at hB hL hR ⊢
    have CN := fun p : In (Lt W) => ref_next (hR.below p.h)
    obtain ⟨a, cap, c0, c1, c2, _⟩ := hR.read
    have d1 := fun p : In (Lt W) => inCell p c1
    refine wp_region_in (Lt W) (Lt.drew W) (by kernel_rfl) (by kernel_rfl) ?_
    repeat (go_big_quiet_step ((go_at_call 9; refine in_same (v := .int .u64 g.l.length) ?_; exact CN _)))
    refine wpQuiet_nil ?_
    rintro w1 ⟨⟨_, hw1⟩, rfl⟩
    have hL1 : Below w.heap.size w w1 := Base.next hL hw1
    have hB1 := hB.below hw1 hB.lt
    have hR1 := hR.below hw1
    clear CN d1 c0 c1 c2 hR hB hw1
    generalize (g.l.length : Int) = n at *
    generalize g.limit = m at *
    have h1' : m < n := h1
    go_wp2
    go_ret2
    exact ⟨rfl, hR1.plus, Fr.of_below hL1⟩
  · by_cases h2 : roomI g ≤ 0
    · have hE : giveE g = 7 := by unfold giveE; rw [if_neg h1, if_pos h2]
      rw [show giveN g = 0 by unfold giveN; rw [hE]; rfl, show giveG g s = g by unfold giveG; rw [hE]; rfl, hE]
      clear hE ho
      go_enter Try.func51, Try.ntmps51
      go_upto_region 1 with fail
      have hB := Blk.new w #[.int .u64 s.pn, .int .u64 s.off, .int .u64 s.len, .int .u64 s.nonce, .int .u64 s.time, .bool s.coin, .bool s.used, .int .i64 s.state] 42
      have hL : Below w.heap.size w (w.alloc (.cells #[.int .u64 s.pn, .int .u64 s.off, .int .u64 s.len, .int .u64 s.nonce, .int .u64 s.time, .bool s.coin, .bool s.used, .int .i64 s.state] 42)) := (Below.refl _ _).alloc (Nat.le_refl _) _
      have hR := h.below hL
      generalize w.alloc (.cells #[.int .u64 s.pn, .int .u64 s.off, .int .u64 s.len, .int .u64 s.nonce, .int .u64 s.time, .bool s.coin, .bool s.used, .int .i64 s.state] 42) = W at hB hL hR ⊢
      have CN := fun p : In (Lt W) => ref_next (hR.below p.h)
      obtain ⟨a, cap, c0, c1, c2, _⟩ := hR.read
      have d1 := fun p : In (Lt W) => inCell p c1
      refine wp_region_in (Lt W) (Lt.drew W) (by kernel_rfl) (by kernel_rfl) ?_
      repeat (go_big_quiet_step ((go_at_call 9; refine in_same (v := .int .u64 g.l.length) ?_; exact CN _)))
      refine wpQuiet_nil ?_
      rintro w1 ⟨⟨_, hw1⟩, rfl⟩
      have hL1 : Below w.heap.size w w1 := Base.next hL hw1
      have hB1 := hB.below hw1 hB.lt
      have hR1 := hR.below hw1
      clear CN d1 c0 c1 c2 hR hB hw1
      have CR := ref_room hR1
      generalize hnn : (g.l.length : Int) = n at *
      generalize g.limit = m at *
      generalize roomI g = r at *
      have h1' : ¬ m < n := h1
      go_wp2_with (go_at_call 33; refine CR.mono ?_; rintro e w2 ⟨rfl, L2⟩; have hL2 := Base.next hL1 L2; have hR2 := hR1.below L2)
      go_ret2
      exact ⟨rfl, hR2.plus, Fr.of_below hL2⟩
    · have hE : giveE g = 0 := by unfold giveE; rw [if_neg h1, if_neg h2]
      have eg : giveG g s = { g with l := g.l ++ [{ s with pn := g.l.length }] } := by unfold giveG; rw [hE]; rfl
      rw [eg] at ho
      rw [show giveN g = g.l.length by unfold giveN; rw [hE]; rfl, eg, hE]
      clear hE eg
      go_enter Try.func51, Try.ntmps51
      go_upto_region 1 with fail
      have hB := Blk.new w #[.int .u64 s.pn, .int .u64 s.off, .int .u64 s.len, .int .u64 s.nonce, .int .u64 s.time, .bool s.coin, .bool s.used, .int .i64 s.state] 42
      have hL : Below w.heap.size w (w.alloc (.cells #[.int .u64 s.pn, .int .u64 s.off, .int .u64 s.len, .int .u64 s.nonce, .int .u64 s.time, .bool s.coin, .bool s.used, .int .i64 s.state] 42)) := (Below.refl _ _).alloc (Nat.le_refl _) _
      have hR := h.below hL
      generalize w.alloc (.cells #[.int .u64 s.pn, .int .u64 s.off, .int .u64 s.len, .int .u64 s.nonce, .int .u64 s.time, .bool s.coin, .bool s.used, .int .i64 s.state] 42) = W at hB hL hR ⊢
      have CN := fun p : In (Lt W) => ref_next (hR.below p.h)
      obtain ⟨a, cap, c0, c1, c2, _⟩ := hR.read
      have d1 := fun p : In (Lt W) => inCell p c1
      refine wp_region_in (Lt W) (Lt.drew W) (by kernel_rfl) (by kernel_rfl) ?_
      repeat (go_big_quiet_step ((go_at_call 9; refine in_same (v := .int .u64 g.l.length) ?_; exact CN _)))
      refine wpQuiet_nil ?_
      rintro w1 ⟨⟨_, hw1⟩, rfl⟩
      have hL1 : Below w.heap.size w w1 := Base.next hL hw1
      have hB1 := hB.below hw1 hB.lt
      have hR1 := hR.below hw1
      clear CN d1 c0 c1 c2 hR hB hw1
      have CR := ref_room hR1
      have hbw := h.lt
      generalize hr : roomI g = r at *
      clear hr
      have h1' : ¬ g.limit < (g.l.length : Int) := h1
      go_upto_region 6 with (first
        | (go_at_call 33; refine CR.mono ?_; rintro e w2 ⟨rfl, L2⟩; have hL2 := Base.next hL1 L2; have hR2 := hR1.below L2; have hB2 := hB1.below L2 hB1.lt; have C2 := ref_next hR2; have k0 : w2.cell? ⟨w.heap.size, 0, none⟩ = some (.int .u64 s.pn) := hB2.cell 0; have f0 := hB2.free 0; clear hR1 hB1 CR)
        | (go_at_call 9; refine C2.mono ?_; rintro e w3 ⟨rfl, rfl⟩))
      obtain ⟨v, B0, O0, hv⟩ := h.ex
      have B2 := B0.below hL2 B0.lt
      have O2 := O0.below hL2
      have hlt := fun k hk => O0.lt (g := k) hk
      have hb2 := hL2.size
      have B3 := B2.other (a := ⟨w.heap.size, 0, none⟩) (by simp only; omega) (.int .u64 g.l.length)
      have X3 := hB2.set 0 (.int .u64 g.l.length)
      have O3 := O2.kept (T := fun k => k = w.heap.size) ((Fr.of_below (S := fun k => k = w.heap.size) (Below.refl w2.heap.size w2)).setCell (p := ⟨w.heap.size, 0, none⟩) (fun _ => rfl) (.int .u64 g.l.length)) fun k hk e => by have := hlt k hk; omega
      have F3 : Fr S w (w2.setCell ⟨w.heap.size, 0, none⟩ (.int .u64 g.l.length)) := (Fr.of_below hL2).setCell (fun q => by simp at q) _
      have Z3 : w2.heap.size = (w2.setCell ⟨w.heap.size, 0, none⟩ (.int .u64 g.l.length)).heap.size := by simp [World.setCell]
      have hxlt := hB2.lt
      clear hR2 C2 k0 f0 hL1 hL2 L2 hB2 B2 O2 hL O0 B0
      generalize w2.setCell ⟨w.heap.size, 0, none⟩ (.int .u64 g.l.length) = w3 at *
      have X3' : Blk w3 w.heap.size #[.int .u64 g.l.length, .int .u64 s.off, .int .u64 s.len, .int .u64 s.nonce, .int .u64 s.time, .bool s.coin, .bool s.used, .int .i64 s.state] 42 := X3
      have e0 : w3.cell? ⟨w.heap.size, 0, none⟩ = some (.int .u64 g.l.length) := X3'.cell 0
      have e1 : w3.cell? ⟨w.heap.size, 1, none⟩ = some (.int .u64 s.off) := X3'.cell 1
      have e2 : w3.cell? ⟨w.heap.size, 2, none⟩ = some (.int .u64 s.len) := X3'.cell 2
      have e3 : w3.cell? ⟨w.heap.size, 3, none⟩ = some (.int .u64 s.nonce) := X3'.cell 3
      have e4 : w3.cell? ⟨w.heap.size, 4, none⟩ = some (.int .u64 s.time) := X3'.cell 4
      have e5 : w3.cell? ⟨w.heap.size, 5, none⟩ = some (.bool s.coin) := X3'.cell 5
      have e6 : w3.cell? ⟨w.heap.size, 6, none⟩ = some (.bool s.used) := X3'.cell 6
      have e7 : w3.cell? ⟨w.heap.size, 7, none⟩ = some (.int .i64 s.state) := X3'.cell 7
      have q2 : w3.cell? ⟨b, 2, none⟩ = some v := B3.cell 2
      have q3 := B3.free 2
      have q4 := B3.lt
      have HV := Lib.hid hv
      have HLT := Lib.hid hlt
      clear hv hlt X3
      go_region_law (refine step_add8 (W := w3.drew) (s := { s with pn := g.l.length }) (by rfl) (by rfl) (.tmp 23) (.tmp 25) (by rfl) (by rfl) O3.drew (by rfl) (by simp) (by omega) ?_; intro v4 w4 A4; replace A4 := A4.undrew; obtain ⟨a4, cap4, rfl, _, _, _, _, _⟩ := A4.own.read; have B4 := B3.kept (w := w3) (S := fun k => v.ownBlock = some k) A4.fr (fun e => (HV.out _ e).2 rfl); have X4 := X3'.kept (w := w3) (S := fun k => v.ownBlock = some k) A4.fr (fun e => by have := HLT.out _ e; omega); have A4h := Lib.hid A4; have p2 : w4.cell? ⟨b, 2, none⟩ = some v := B4.cell 2; have p3 := B4.free 2; have p4 : w4.cell? ⟨w.heap.size, 0, none⟩ = some (.int .u64 g.l.length) := X4.cell 0; have p5 := B4.lt; clear A4)
      all_goals go_wp2
      all_goals go_ret2
      all_goals exact ⟨rfl, rf_given ho h.inB hbw HV.out (by omega) F3 B4 (by simpa using A4h.out)⟩
theorem plus_mono {S : Nat → Prop} {w w0 w1 : World} (h : w.heap.size ≤ w0.heap.size) : ∀ k, Plus S w0 w1 k → Plus S w w1 k := fun k hk => by
  unfold Plus at *
  rcases hk with hk | hk
  · exact .inl hk
  · exact .inr ⟨by omega, hk.2⟩
theorem ref_send {S : Nat → Prop} {w : World} {b : Nat} {g : Lg} (h : Rf S w b g) (s : Sn) (hs : Words s) (hn : g.l.length ≤ 1000000) :
    Calls Try.prog 38 #[.pointer (some ⟨b, 0, none⟩), .agg #[.int .u64 s.pn, .int .u64 s.off, .int .u64 s.len, .int .u64 s.nonce, .int .u64 s.time, .bool s.coin, .bool s.used, .int .i64 s.state]] w fun e w' => e = .returned (.tuple #[.int .u64 (sendN g s), .int .i64 (sendE g s)]) ∧ Rf (Plus S w w') w' b (sendG g s) ∧ Fr S w w' := by
  by_cases hb : badS s
  · rw [show sendN g s = 0 by unfold sendN; rw [if_pos hb], show sendE g s = 1 by unfold sendE; rw [if_pos hb], show sendG g s = g by unfold sendG; rw [if_pos hb]]
    unfold badS at hb
    by_cases h1 : s.len < 1
    · go_enter Try.func38, Try.ntmps38
      go_wp2
      go_ret2
      exact ⟨rfl, (h.below ((Below.refl _ _).alloc (Nat.le_refl _) _)).plus, Fr.of_below ((Below.refl _ _).alloc (Nat.le_refl _) _)⟩
    · by_cases h2 : 1500 < s.len
      · go_enter Try.func38, Try.ntmps38
        go_wp2
        go_ret2
        exact ⟨rfl, (h.below ((Below.refl _ _).alloc (Nat.le_refl _) _)).plus, Fr.of_below ((Below.refl _ _).alloc (Nat.le_refl _) _)⟩
      · have h3 : 4611686018427387903 < s.off := by omega
        go_enter Try.func38, Try.ntmps38
        go_wp2
        go_ret2
        exact ⟨rfl, (h.below ((Below.refl _ _).alloc (Nat.le_refl _) _)).plus, Fr.of_below ((Below.refl _ _).alloc (Nat.le_refl _) _)⟩
  · have ho := ok_send h.ok hs
    have eg : sendG g s = giveG g { s with state := 1, used := false } := by unfold sendG; rw [if_neg hb]
    rw [eg] at ho
    rw [show sendN g s = giveN g by unfold sendN; rw [if_neg hb], show sendE g s = giveE g by unfold sendE; rw [if_neg hb], eg]
    unfold badS at hb
    have CG := fun W hW => ref_give (h.below (w' := W) hW) { s with state := 1, used := false } ho hn
    clear eg ho
    have b1 : ¬ s.len < 1 := by omega
    have b2 : ¬ 1500 < s.len := by omega
    have b3 : ¬ 4611686018427387903 < s.off := by omega
    clear hb
    generalize giveN g = n at *
    generalize giveE g = m at *
    go_enter Try.func38, Try.ntmps38
    go_wp2_with (go_at_call 51; refine (CG _ ((Below.refl _ _).alloc (Nat.le_refl _) _)).mono ?_; rintro e w1 ⟨rfl, R1, F1⟩)
    go_ret2
    exact ⟨rfl, R1.mono (plus_mono (by simp)), ((Fr.of_below ((Below.refl _ _).alloc (Nat.le_refl _) _)).trans F1 fun _ _ hk => hk)⟩
theorem ref_skip {S : Nat → Prop} {w : World} {b : Nat} {g : Lg} (h : Rf S w b g) (hn : g.l.length ≤ 1000000) :
    Calls Try.prog 40 #[.pointer (some ⟨b, 0, none⟩)] w fun e w' => e = .returned (.tuple #[.int .u64 (giveN g), .int .i64 (giveE g)]) ∧ Rf (Plus S w w') w' b (skipG g) ∧ Fr S w w' := by
  have CG := ref_give h { Z8 with state := 4 } (ok_skip h.ok) hn
  go_enter Try.func40, Try.ntmps40
  go_wp2_with (go_at_call 51; refine CG.mono ?_; rintro e w1 ⟨rfl, R1, F1⟩)
  go_ret2
  exact ⟨rfl, R1, F1⟩
theorem ref_new (ring limit : Int) (r0 : -9223372036854775808 ≤ ring) (r1 : ring ≤ 9223372036854775807) (l0 : 0 ≤ limit) (l1 : limit ≤ 18446744073709551615) (w : World) :
    Calls Try.prog 18 #[.int .i64 ring, .int .u64 limit] w fun e w' => e = .returned (.pointer (some ⟨w.heap.size, 0, none⟩)) ∧ Rf (fun k => w.heap.size ≤ k ∧ k < w'.heap.size) w' w.heap.size (newG ring limit) ∧ Below w.heap.size w w' := by
  have fin : ∀ r m, r = (newG ring limit).ring → m = (newG ring limit).limit → Rf (fun k => w.heap.size ≤ k ∧ k < (w.alloc (.cells #[.int .i64 r, .int .u64 m, .slice none 0 0] 58)).heap.size) (w.alloc (.cells #[.int .i64 r, .int .u64 m, .slice none 0 0] 58)) w.heap.size (newG ring limit) ∧ Below w.heap.size w (w.alloc (.cells #[.int .i64 r, .int .u64 m, .slice none 0 0] 58)) := fun r m hr hm => by
    subst hr
    subst hm
    exact ⟨⟨ok_new ring limit l0, by simp, _, Blk.new _ _ _, Owns.nil _, fun k hk => by simp [Value.ownBlock] at hk⟩, (Below.refl _ _).alloc (Nat.le_refl _) _⟩
  by_cases h1 : 256 < ring
  · by_cases h3 : 4611686018427387903 < limit
    · go_enter Try.func18, Try.ntmps18
      go_wp2
      go_ret
      exact ⟨rfl, fin _ _ (by unfold newG; simp only; omega) (by unfold newG; simp only; omega)⟩
    · go_enter Try.func18, Try.ntmps18
      go_wp2
      go_ret
      exact ⟨rfl, fin _ _ (by unfold newG; simp only; omega) (by unfold newG; simp only; omega)⟩
  · by_cases h2 : 4 < ring
    · by_cases h3 : 4611686018427387903 < limit
      · go_enter Try.func18, Try.ntmps18
        go_wp2
        go_ret
        exact ⟨rfl, fin _ _ (by unfold newG; simp only; omega) (by unfold newG; simp only; omega)⟩
      · go_enter Try.func18, Try.ntmps18
        go_wp2
        go_ret
        exact ⟨rfl, fin _ _ (by unfold newG; simp only; omega) (by unfold newG; simp only; omega)⟩
    · by_cases h3 : 4611686018427387903 < limit
      · go_enter Try.func18, Try.ntmps18
        go_wp2
        go_ret
        exact ⟨rfl, fin _ _ (by unfold newG; simp only; omega) (by unfold newG; simp only; omega)⟩
      · go_enter Try.func18, Try.ntmps18
        go_wp2
        go_ret
        exact ⟨rfl, fin _ _ (by unfold newG; simp only; omega) (by unfold newG; simp only; omega)⟩
set_option maxHeartbeats 1000000 in
theorem ref_all {S : Nat → Prop} {w : World} {b : Nat} {g : Lg} (h : Rf S w b g) (hn : g.l.length ≤ 1000000) :
    Calls Try.prog 16 #[.pointer (some ⟨b, 0, none⟩)] w fun e w' => ∃ v, e = .returned v ∧ Owns w' v (allS g) ∧ Below w.heap.size w w' := by
  have hlow := low_le g
  have hal : allS g = g.l.drop (lowN g) := rfl
  obtain ⟨v, hB, hO, _⟩ := h.ex
  obtain ⟨a, cap, rfl, h1, h2, hz, h0, hx⟩ := hO.read
  have c2 : w.cell? ⟨b, 2, none⟩ = some (.slice a g.l.length cap) := hB.cell 2
  have hb := h.lt
  unfold maxLen at h2
  cases a with
  | none =>
    obtain ⟨e1, rfl⟩ := h0 rfl
    have e2 : lowN g = 0 := by rw [e1] at hlow; simpa using hlow
    have CL := ref_low (h.drew)
    rw [e2] at CL
    rw [hal, e1, List.drop_nil]
    rw [e1] at c2
    have w0 : IntKind.i64.wrap 0 = 0 := rfl
    go_enter Try.func16, Try.ntmps16
    go_wp2
    go_region_law (first
      | (refine step_call1 (F := 28) (X := .pointer (some ⟨b, 0, none⟩)) (by rfl) (.tmp 7) #[25] (by rfl) (by rfl) (by rfl) (CL.mono ?_); rintro e w1 ⟨rfl, L1⟩; replace L1 := Base.undrew L1; refine ⟨_, rfl, ?_⟩; have k2 := keepCell L1 c2)
      | (refine step_copy8 (b := none) (m := 0) (c := 0) (l := []) (by rfl) (.const (.slice none 0 0)) (.tmp 10) (by rfl) (by rfl) (by rfl) rfl (Sents.nil _ _) (by decide) ?_; intro v4 w4 O4 L4 N4))
    all_goals go_wp2
    all_goals go_ret
    all_goals exact ⟨_, rfl, O4, Base.next L1 L4⟩
  | some x =>
    obtain ⟨b', rfl, _⟩ := hx x rfl
    have hD := (show Sents w (some ⟨b', 0, none⟩) g.l from hz).drop (lowN g)
    have CL := ref_low (h.drew)
    have hlen : (g.l.drop (lowN g)).length = g.l.length - lowN g := List.length_drop
    rw [hal]
    have hI : (lowN g : Int) ≤ g.l.length := by omega
    have w0 : IntKind.i64.wrap (lowN g) = (lowN g : Int) := by
      simp [IntKind.wrap, IntKind.bits, IntKind.signed]
      omega
    generalize g.l.drop (lowN g) = D at *
    generalize lowN g = k at *
    generalize hm : g.l.length = m at *
    rw [Nat.zero_add] at hD
    have hS : Sents w (if cap = k then some ⟨b', 0, none⟩ else some ⟨b', k * 8, none⟩) D := by
      split
      · obtain rfl : D = [] := List.eq_nil_of_length_eq_zero (by omega)
        exact Sents.nil _ _
      · exact hD
    go_enter Try.func16, Try.ntmps16
    go_wp2
    go_region_law (first
      | (refine step_call1 (F := 28) (X := .pointer (some ⟨b, 0, none⟩)) (by rfl) (.tmp 7) #[25] (by rfl) (by rfl) (by rfl) (CL.mono ?_); rintro e w1 ⟨rfl, L1⟩; replace L1 := Base.undrew L1; refine ⟨_, rfl, ?_⟩; have k2 := keepCell L1 c2)
      | (refine step_copy8 (b := if cap = k then some ⟨b', 0, none⟩ else some ⟨b', k * 8, none⟩) (m := m - k) (c := cap - k) (l := D) (by rfl) (.const (.slice none 0 0)) (.tmp 10) (by rfl) (by rfl) (by rfl) hlen (hS.below L1) (by omega) ?_; intro v4 w4 O4 L4 N4))
    all_goals go_wp2
    all_goals go_ret
    all_goals exact ⟨_, rfl, O4, Base.next L1 L4⟩
end Go.Proofs.Ytoncominjgkjoaa.Led
