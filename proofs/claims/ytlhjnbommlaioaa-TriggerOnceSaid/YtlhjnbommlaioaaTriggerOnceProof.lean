/-
  A number that was used up is named no more. No conditions.
-/
import Derived.Test.YtlhjnbommlaioaaQuad
import Derived.Test.YtlhjnbommlaioaaDeeds
import Derived.Test.YtlhjnbommlaioaaRows
import Derived.Test.YtlhjnbommlaioaaRow
import Derived.WalkKit
import Derived.ProofKit
import Derived.OpenShut
import Derived.ShutString
import Derived.ChangeOld
import Derived.Below
import Derived.Test.YtlhjnbommlaioaaTrigAlive
import Derived.Test.YtlhjnbommlaioaaTrigAsk
import Derived.Test.YtlhjnbommlaioaaTrigNamed
namespace Go.Proofs.Ytlhjnbommlaioaa.triggerOnce
open Go.ChangeShapes Go.WideShapes Go.ChangeAt Go.RowKit
open Go.ChangeMaps (open_string shut_string)
open Go.Proofs.Ytlhjnbommlaioaa.Base
set_option linter.unusedVariables false

theorem own : ownKnob Try.prog.godebug = none := by kernel_rfl
theorem laidOut : laidOutB Try.prog = true := by kernel_rfl

open Go.Proofs.Ytlhjnbommlaioaa.Led Go.Proofs.Ytlhjnbommlaioaa.LedPlain Go.Proofs.Ytlhjnbommlaioaa.SpanRef
open Go.Proofs.Ytlhjnbommlaioaa.AckPlain (K)
open Go.Proofs.Ytlhjnbommlaioaa.Base
theorem do_ring (g : Lg) (raw : Bool) (k A B : Int) : (doG g raw k A B).ring = g.ring := by
  unfold doG sendG skipG giveG settleG useG
  repeat' split
  all_goals rfl
theorem fold_ring : ∀ (l : List Dd) (g : Lg), (l.foldl deedG g).ring = g.ring
  | [], g => rfl
  | d :: l, g => by
    rw [List.foldl_cons, fold_ring l]
    exact do_ring _ _ _ _ _
theorem made_ring (ring limit : Int) (l : List Dd) : (madeG ring limit l).ring = max 4 (min ring 256) := fold_ring _ _
/-- A row of the call's own behind a call that turns not its block. -/
theorem own_fr {T : Nat → Prop} {w w' : World} {base size n : Nat} {e : TypeId} {v : Value} {xs : List Value} (h : w.ownsRow base e size v n xs) (hf : Fr T w w') (hn : ∀ k, v.ownBlock = some k → ¬ T k) : w'.ownsRow base e size v n xs := by
  obtain ⟨h1, h2⟩ := h
  refine ⟨h1, ?_⟩
  rcases h2 with h2 | ⟨g, cap, cur, hv, hg, hh, r⟩
  · exact Or.inl h2
  · exact Or.inr ⟨g, cap, cur, hv, hg, (hf.block g (lt_of_block hh) (hn g (by rw [hv]; rfl))).trans hh, r⟩
theorem info64' : (Try.prog.info? 24).map (fun i => (i.zero, i.size, i.bytes)) = some (some (.int .u64 0), 1, 8) := by kernel_rfl
/-- What was named so far, in a ledger of so many numbers. -/
structure Sofar (g g' : Lg) (x : K) (k m : Nat) (zs : List Int) : Prop where
  len : g'.l.length = g.l.length
  ring : g'.ring = g.ring
  none : NoneTo g' x m
  many : lowN g + k ≤ m
  most : m ≤ g.l.length ∨ k = 0
  zlen : zs.length = k
  last : k = 0 ∨ (0 < m ∧ zs.getD (k - 1) 0 = ((m - 1 : Nat) : Int) ∧ belowB x.spans (lowN g) = false)
theorem Sofar.low {g g' : Lg} {x : K} {k m : Nat} {zs : List Int} (h : Sofar g g' x k m zs) : lowN g' = lowN g := by unfold lowN; rw [h.len, h.ring]
theorem Sofar.start (g : Lg) (x : K) : Sofar g g x 0 (lowN g) [] := ⟨rfl, rfl, fun j h1 h2 => by omega, by omega, .inr rfl, rfl, .inl rfl⟩
theorem use_ring (g : Lg) (i : Int) : (useG g i).ring = g.ring := by unfold useG; split <;> rfl
theorem Sofar.step {g g' : Lg} {x : K} {k m i : Nat} {zs : List Int} (h : Sofar g g' x k m zs) (hi : lookG g' x = ((i : Int), 0)) (h1 : lowN g' ≤ i) (h2 : i < g'.l.length) (hn : namesB x (atN g' i) = true) (hp : NoneTo g' x i) :
    useB g' i = true ∧ m ≤ i ∧ Sofar g (useG g' i) x (k + 1) (i + 1) (zs ++ [(i : Int)]) := by
  obtain ⟨u1, u2, u3, u4⟩ := use_named h1 h2 hn hp
  have hm : m ≤ i := by
    rcases Nat.lt_or_ge i m with hlt | hge
    · have := h.none i h1 hlt
      rw [hn] at this
      cases this
    · exact hge
  have hb : belowB x.spans (lowN g) = false := by
    unfold lookG at hi
    by_cases h1 : AckPlain.may x = false
    · rw [if_pos h1] at hi
      injection hi with _ h2
      cases h2
    rw [if_neg h1] at hi
    by_cases h2 : belowB x.spans (lowN g') = true
    · rw [if_pos h2] at hi
      injection hi with _ h2
      cases h2
    rw [← h.low]
    simpa using h2
  have hl := h.len
  have hz := h.zlen
  have hk := h.many
  exact ⟨u1, hm, by rw [u3, h.len], by rw [use_ring, h.ring], u4, by omega, .inl (by omega), by simp [hz], .inr ⟨by omega, by simp [List.getD, ← hz], hb⟩⟩
set_option maxHeartbeats 4000000 in
theorem walk (a0 : Int) (a1 : Option Addr) (len1 cap1 : Nat) (z1 : List Dd) (c20 c21 c22 c23 : Int) (a3 : Int) (w : World) (w0 : (Lit.int .u8 a0).wf = true) (w1 : Deeds w a1 z1) (n1 : z1.length = len1) (m1 : len1 ≤ cap1) (o1 : cap1 ≤ maxLen) (f1 : ∀ d ∈ z1, Fit d) (w2 : (Lit.int .u16 c20).wf = true ∧ (Lit.int .u16 c21).wf = true ∧ (Lit.int .u16 c22).wf = true ∧ (Lit.int .u16 c23).wf = true) (w3 : (Lit.int .u8 a3).wf = true) :
    Calls Try.prog 5 #[.int .u8 a0, .slice a1 len1 cap1, .agg #[.int .u16 c20, .int .u16 c21, .int .u16 c22, .int .u16 c23], .int .u8 a3] w fun e w' => e = .returned (.bool true) ∧ Below w.heap.size w w' := by
  obtain ⟨p0, p1⟩ := Base.u8_of w0
  obtain ⟨⟨y0, y0'⟩, ⟨y1, y1'⟩, ⟨y2, y2'⟩, ⟨y3, y3'⟩⟩ : (0 ≤ c20 ∧ c20 ≤ 65535) ∧ (0 ≤ c21 ∧ c21 ≤ 65535) ∧ (0 ≤ c22 ∧ c22 ≤ 65535) ∧ (0 ≤ c23 ∧ c23 ≤ 65535) := ⟨Base.u16_of w2.1, Base.u16_of w2.2.1, Base.u16_of w2.2.2.1, Base.u16_of w2.2.2.2⟩
  subst n1
  obtain ⟨x0, x1⟩ := Base.u8_of w3
  obtain ⟨i0, hi0, hz0, hz1, hz2⟩ := info_parts info64'
  go_enter Try.func5, Try.ntmps5
  go_upto_region 1 with fail
  refine at_world ?_
  intro V hV
  obtain ⟨hK, hB⟩ : Blk V w.heap.size #[.int .u16 c20, .int .u16 c21, .int .u16 c22, .int .u16 c23] 39 ∧ Below w.heap.size w V := by
    subst hV
    exact ⟨Blk.new _ _ _, (Below.refl _ _).alloc (Nat.le_refl _) _⟩
  clear hV
  have CM := make_any (a0 % 40) 4611686018427387903 (by omega) (by omega) (by decide) (by decide) a1 z1.length cap1 z1 V rfl m1 o1 f1 (w1.below hB)
  have CA := fun U => alive_trig U
  have hrg := made_ring (a0 % 40) 4611686018427387903 z1
  have hgl := made_len (a0 % 40) 4611686018427387903 z1
  have hOk : ∀ S w' a b, Pair S w' a b (madeG (a0 % 40) 4611686018427387903 z1) → Ok (madeG (a0 % 40) 4611686018427387903 z1) := fun _ _ _ _ h => h.ok
  generalize madeG (a0 % 40) 4611686018427387903 z1 = g at *
  go_upto_region 5 with (first
    | (go_at_call 7; refine CM.mono ?_; rintro e u1 ⟨a, b, S, rfl, P1, hS, L1⟩; have hOK := hOk _ _ _ _ P1; have hM := hB.trans (L1.mono hB.size); have M1 := hM.alloc hM.size (.cells #[.pointer (some a), .pointer (some ⟨b, 0, none⟩)] 30); have T1 := Blk.new u1 #[.pointer (some a), .pointer (some ⟨b, 0, none⟩)] 30; have LA := (Below.refl u1.heap.size u1).alloc (Nat.le_refl _) (.cells #[.pointer (some a), .pointer (some ⟨b, 0, none⟩)] 30); have K1 := (hK.below L1 hK.lt).below LA (hK.below L1 hK.lt).lt; have hSlt := P1.lt; replace P1 := P1.below LA; clear CM hOk)
    | (go_at_call 8; (with_reducible refine (CA _).mono ?_); rintro e u2 ⟨rfl, L2⟩; have M2 := M1.trans (L2.mono M1.size); have T2 := T1.below L2 T1.lt; have K2 := K1.below L2 K1.lt; have d2 : u2.cell? ⟨u1.heap.size, 0, none⟩ = some (.pointer (some a)) := T2.cell 0; have e2 : u2.cell? ⟨u1.heap.size, 1, none⟩ = some (.pointer (some ⟨b, 0, none⟩)) := T2.cell 1; have k0 : u2.cell? ⟨w.heap.size, 0, none⟩ = some (.int .u16 c20) := K2.cell 0; have k1 : u2.cell? ⟨w.heap.size, 1, none⟩ = some (.int .u16 c21) := K2.cell 1; have k2 : u2.cell? ⟨w.heap.size, 2, none⟩ = some (.int .u16 c22) := K2.cell 2; have k3 : u2.cell? ⟨w.heap.size, 3, none⟩ = some (.int .u16 c23) := K2.cell 3; have P2 := P1.below L2; have CK := ask_any (a := a) P2.rf (by omega) c20 c21 c22 c23 y0 y0' y1 y1' y2 y2' y3 y3' (a3 % 9) (by omega) (by omega); clear CA T1 P1 K1)
    | (go_at_call 12; (with_reducible refine CK.mono ?_); rintro e u3 ⟨p, c, l, tr, xr, rfl, hlc, rowIn3, hfl, hl1, hl2, hgd, L3⟩; have s3 : Spans u3 p l := RowIn.row rowIn3; have hq2 := T2.lt; have M3 := M2.trans (L3.mono M2.size); have T3 := T2.below L3 T2.lt; have P3 := P2.below L3; clear CK T2 K2 P2 d2 e2 k0 k1 k2 k3))
  have hrg' : g.ring ≤ 40 := by rw [hrg]; omega
  clear hrg
  refine at_world ?_
  intro W hW
  obtain ⟨T4, A4, P4, s4, M4, q4⟩ : Blk W u1.heap.size #[.pointer (some a), .pointer (some ⟨b, 0, none⟩)] 30 ∧ Blk W u3.heap.size #[.slice p l.length c, .slice none 0 0, .int .u64 tr, .int .u64 xr, .bool false] 26 ∧ Pair S W a b g ∧ RowIn (fun k => u2.heap.size ≤ k ∧ k < u3.heap.size) W p (Base.flat l) ∧ Below w.heap.size w W ∧ u3.heap.size < W.heap.size := by
    subst hW
    exact ⟨T3.alloc _, Blk.new _ _ _, P3.below ((Below.refl _ _).alloc (Nat.le_refl _) _), rowIn3.alloc _, M3.alloc M3.size _, by simp⟩
  have hq3 := L3.size
  clear hW P3 T3 L3 s3 hM LA L1 L2 w1 rowIn3
  have hmay : AckPlain.may ⟨l, [], tr, xr, false⟩ = true := AckPlain.may_iff.2 ⟨by simp only; omega, by simp only; omega, by simp, hgd, rfl, rfl⟩
  have hF0 : ∀ k, S k → k ≠ u1.heap.size ∧ k ≠ u3.heap.size ∧ ¬ (u2.heap.size ≤ k ∧ k < u3.heap.size) := fun k hk => by
    have := hSlt k hk
    omega
  have hSl : ∀ k, S k → k < W.heap.size := fun k hk => by
    have := hSlt k hk
    omega
  have hSw : ∀ k, S k → w.heap.size ≤ k := fun k hk => Nat.le_trans hB.size (hS k hk)
  have P4l := P4.led
  clear P4 hS hSlt y0 y0' y1 y1' y2 y2' y3 y3' hK
  go_wp2
  go_loopw [12, 13, 14, 15] (fun v i pp xx wr => ∃ (k m : Nat) (g' : Lg) (S' : Nat → Prop) (zs : List Int), i = .int .i64 k ∧ Sofar g g' ⟨l, [], tr, xr, false⟩ k m zs ∧ Led S' wr a g' ∧ (∀ q, S' q → q < wr.heap.size ∧ (S q ∨ W.heap.size ≤ q)) ∧ wr.ownsRow W.heap.size 24 1 v k (zs.map (.int .u64)) ∧ (∀ q, v.ownBlock = some q → ¬ S' q) ∧ Fr S W wr) (fun _ i _ _ _ => 60 - (intOf i).toNat)
  case atStart => exact ⟨0, lowN g, g, S, [], rfl, Sofar.start _ _, P4l, fun q hq => ⟨hSl q hq, .inl hq⟩, World.ownsRow_nil _ _ _ _, (fun q h => by cases h), Fr.refl _ _⟩
  case round =>
    obtain ⟨k, m, g', S', zs, rfl, hso, hled, hS', hown, hnb, hF⟩ := hrel
    have hlow := low_le g
    have hk39 : k ≤ 40 := by
      have h1 := hso.many
      have h2 := hso.most
      have h3 := hOK.r0
      unfold lowN at h1
      omega
    have T5 := T4.kept hF (fun h => (hF0 _ h).1 rfl)
    have A5 := A4.kept hF (fun h => (hF0 _ h).2.1 rfl)
    have s5 : Spans wr p l := (s4.kept hF (fun q hq h => (hF0 _ h).2.2 hq)).row
    have M5 : Below w.heap.size w wr := hF.below M4 M4.size hSw
    have d5 : wr.cell? ⟨u1.heap.size, 0, none⟩ = some (.pointer (some a)) := T5.cell 0
    obtain ⟨z0, z1', z2, z3, z4⟩ := AckMay.blk5 A5
    have C1 := look_any hled (by rw [hso.len]; omega) ⟨l, [], tr, xr, false⟩ p none l.length c 0 0 rfl rfl (by omega) (by decide) hfl (fun _ h => by cases h) s5 (Spans.nil _ _)
    have hkI : (k : Int) < 60 := by omega
    rcases look_cases hled.ok ⟨l, [], tr, xr, false⟩ with ⟨h1, h2⟩ | ⟨i, i1, i2, h1, h2⟩
    · rw [h1] at C1
      have hr : (lookG g' ⟨l, [], tr, xr, false⟩).2 = 3 ∨ ((lookG g' ⟨l, [], tr, xr, false⟩).2 = 2 ∧ k = 0) := by
        rcases h2 with ⟨_, h2⟩ | ⟨h2, h3⟩ | ⟨h2, _⟩
        · rw [hmay] at h2; cases h2
        · refine .inr ⟨h2, ?_⟩
          rcases hso.last with h4 | ⟨_, _, h4⟩
          · exact h4
          · rw [hso.low, h4] at h3; cases h3
        · exact .inl h2
      generalize (lookG g' ⟨l, [], tr, xr, false⟩).2 = r at *
      rcases hr with rfl | ⟨rfl, rfl⟩
      · go_wp2_with (go_at_call 9; (with_reducible refine C1.mono ?_); rintro e u6 ⟨rfl, L6⟩; have M6 := M5.trans (L6.mono M5.size))
        all_goals go_ret
        all_goals exact ⟨rfl, M6⟩
      · go_wp2_with (go_at_call 9; (with_reducible refine C1.mono ?_); rintro e u6 ⟨rfl, L6⟩; have M6 := M5.trans (L6.mono M5.size))
        all_goals go_ret
        all_goals exact ⟨rfl, M6⟩
    · obtain ⟨j1, j2, j3, j4⟩ := look_first hled.ok h1
      obtain ⟨k1, k2, k3⟩ := hso.step h1 j1 j2 j3 j4
      rw [h1] at C1
      go_upto_region 12 with (go_at_call 9; (with_reducible refine C1.mono ?_); rintro e u6 ⟨rfl, L6⟩; have M6 := M5.trans (L6.mono M5.size))
      have hown6 := own_fr hown (Fr.of_below (S := fun _ => False) L6) (fun _ _ h => h)
      have hled6 := hled.below L6
      have d6 : u6.cell? ⟨u1.heap.size, 0, none⟩ = some (.pointer (some a)) := (T5.below L6 T5.lt).cell 0
      have hi0' : (0 : Int) ≤ i := by omega
      have hi1' : (i : Int) ≤ 18446744073709551615 := by have := hled.ok.n1; have := hled.ok.l1; omega
      have CU := use_any hled6 (i : Int) hi0' hi1'
      rw [k1] at CU
      have hvlt := hown.lt
      have q6 := L6.size
      have q5 := hF.size
      obtain ⟨pv, cv, rfl, cv1, cv2, cv3, R6⟩ := rowIn_of_own Nat.one_pos hown6
      clear hown C1 h2 j4 hled T5 A5 s5 d5 z0 z1' z2 z3 z4 T4 A4 s4 M4
      have hb : ∀ q, (Value.slice pv k cv).ownBlock = some q → W.heap.size ≤ q ∧ q < wr.heap.size := hvlt
      rcases Nat.eq_zero_or_pos k with rfl | hkp
      · go_wp2_with (first
          | (go_at_call 15; (with_reducible refine CU.mono ?_); rintro e u7 ⟨rfl, hled7, hf7⟩; have hown7 := own_fr hown6 hf7 hnb; have q7 := hf7.size)
          | (at_builtin; refine wpl_append_row _ rfl (.tmp 79) (.tmp 81) _ rfl W.heap.size 24 i0 _ 1 8 Try.underlying47 hi0 hz0 hz1 hz2 rfl (by omega) (.slice pv (0) cv) (0) (zs.map (.int .u64)) rfl (hown7.alloc _) (some ⟨u7.heap.size, 0, none⟩) 1 1 [.int .u64 i] rfl rfl (Row.lit u7 _ [.int .u64 i]) (by simp [Value.oneCell']) (by unfold maxLen; omega) (by omega) (by simp; omega) ?_; intro v8 w8 hown8 hg8 hat8))
        all_goals go_roundw
        case rel =>
          have hG : Fr (fun q => (Value.slice pv (0) cv).ownBlock = some q) (u7.alloc (.cells #[.int .u64 i] 24)) w8 := Fr.of_grown hg8 fun q h => h
          have hF8 : Fr (fun q => (Value.slice pv (0) cv).ownBlock = some q) u7 w8 := (Fr.alloc (Fr.refl _ u7) _).trans hG fun i _ h => h
          have q8 := hF8.size
          have hno : ∀ q, (Value.slice pv (0) cv).ownBlock = some q → ¬ Plus S' u6 u7 q := fun q h hp => by
            rcases hp with hp | hp
            · exact hnb q h hp
            · have := (hb q h).2
              omega
          refine ⟨0 + 1, i + 1, useG g' i, Plus S' u6 u7, zs ++ [(i : Int)], by go_num, k3, hled7.kept hF8 (fun q hq h => hno q h hq), fun q hq => ?_, by rw [List.map_append]; exact hown8, fun q h hp => ?_, ((hF.trans (T := fun _ => False) (Fr.of_below L6) (fun _ _ h => h.elim)).trans hf7 (fun q hq h => ((hS' q h).2).resolve_right (by omega))).trans hF8 (fun q hq h => by have := (hb q h).1; omega)⟩
          · rcases hq with hq | hq
            · have := hS' q hq
              exact ⟨by omega, this.2⟩
            · exact ⟨by omega, .inr (by omega)⟩
          · rcases hat8 with e | e
            · exact hno q (e ▸ h) hp
            · rw [e] at h
              injection h with h
              rw [World.size_alloc] at h
              rcases hp with hp | hp
              · have := (hS' q hp).1
                omega
              · omega
        case measure => simp only [intOf]; omega
      · obtain ⟨k', rfl⟩ : ∃ k', k = k' + 1 := ⟨k - 1, by omega⟩
        obtain ⟨hm0, hlast, _⟩ := hso.last.resolve_left (by omega)
        rw [Nat.add_sub_cancel] at hlast
        obtain ⟨b', off', rfl, hb', hc'⟩ := Ints.at_ (k := .u64) (zs := zs) R6.row (i := k') (by have := hso.zlen; omega)
        have hlt : zs.getD k' 0 < (i : Int) := by rw [hlast]; omega
        generalize zs.getD k' 0 = y at hc' hlt
        clear hlast
        go_wp2_with (first
          | (go_at_call 15; (with_reducible refine CU.mono ?_); rintro e u7 ⟨rfl, hled7, hf7⟩; have hown7 := own_fr hown6 hf7 hnb; have q7 := hf7.size)
          | (at_builtin; refine wpl_append_row _ rfl (.tmp 79) (.tmp 81) _ rfl W.heap.size 24 i0 _ 1 8 Try.underlying47 hi0 hz0 hz1 hz2 rfl (by omega) (.slice (some ⟨b', off', none⟩) (k' + 1) cv) (k' + 1) (zs.map (.int .u64)) rfl (hown7.alloc _) (some ⟨u7.heap.size, 0, none⟩) 1 1 [.int .u64 i] rfl rfl (Row.lit u7 _ [.int .u64 i]) (by simp [Value.oneCell']) (by unfold maxLen; omega) (by omega) (by simp; omega) ?_; intro v8 w8 hown8 hg8 hat8))
        all_goals go_roundw
        case rel =>
          have hG : Fr (fun q => (Value.slice (some ⟨b', off', none⟩) (k' + 1) cv).ownBlock = some q) (u7.alloc (.cells #[.int .u64 i] 24)) w8 := Fr.of_grown hg8 fun q h => h
          have hF8 : Fr (fun q => (Value.slice (some ⟨b', off', none⟩) (k' + 1) cv).ownBlock = some q) u7 w8 := (Fr.alloc (Fr.refl _ u7) _).trans hG fun i _ h => h
          have q8 := hF8.size
          have hno : ∀ q, (Value.slice (some ⟨b', off', none⟩) (k' + 1) cv).ownBlock = some q → ¬ Plus S' u6 u7 q := fun q h hp => by
            rcases hp with hp | hp
            · exact hnb q h hp
            · have := (hb q h).2
              omega
          refine ⟨k' + 1 + 1, i + 1, useG g' i, Plus S' u6 u7, zs ++ [(i : Int)], by go_num, k3, hled7.kept hF8 (fun q hq h => hno q h hq), fun q hq => ?_, by rw [List.map_append]; exact hown8, fun q h hp => ?_, ((hF.trans (T := fun _ => False) (Fr.of_below L6) (fun _ _ h => h.elim)).trans hf7 (fun q hq h => ((hS' q h).2).resolve_right (by omega))).trans hF8 (fun q hq h => by have := (hb q h).1; omega)⟩
          · rcases hq with hq | hq
            · have := hS' q hq
              exact ⟨by omega, this.2⟩
            · exact ⟨by omega, .inr (by omega)⟩
          · rcases hat8 with e | e
            · exact hno q (e ▸ h) hp
            · rw [e] at h
              injection h with h
              rw [World.size_alloc] at h
              rcases hp with hp | hp
              · have := (hS' q hp).1
                omega
              · omega
        case measure => simp only [intOf]; omega

set_option maxRecDepth 100000 in
theorem lifted (os : Os) (started : os.Started) (H : Type) (enc : TypeId × Value → H) :
    ReturnsInHanded {} Try.checked os 5 .any (Rows.triggerOnceSpec.pre6 enc Try.prog Try.f5 Rows.triggerOnceRow.domain false) (Rows.triggerOnceSpec.post enc Try.prog Try.f5 false true false false) := by
  refine returnsInHanded_of_change (C := Try.checked) own started (by kernel_rfl) Try.func5
    (ChangeSpec.witness6 (enc := enc) (C := Try.checked) false ⟨#[], #[.int .u8 0, .slice none 0 0, .agg #[.int .u16 0, .int .u16 0, .int .u16 0, .int .u16 0], .int .u8 0], []⟩ 8 (by kernel_rfl) (by kernel_rfl) (by kernel_rfl) (by kernel_rfl)) ?_
  intro W base args ds gs before hval0 hW hcnd _
  have hval : ∀ (j : Nat) t v, Try.f5.params[j]? = some t → args[j]? = some v → Value.okWide Try.prog W .any base t v := hval0
  have hW' := hW
  obtain ⟨p, q, hA0, hV, rfl, hfz, hnd⟩ := hW
  have hA : DataW.TrodAll enc Try.prog W 0 (fun _ => true) true Try.f5.params.toList args.toList ds p := hA0
  rw [Try.params5] at hA hval
  obtain ⟨v0, vs0, d0, ds0, p0, q0, hargs, rfl, rfl, h0, r0⟩ := trodAll_cons hA
  obtain ⟨v1, vs1, d1, ds1, p1, q1, rfl, rfl, rfl, h1, r1⟩ := trodAll_cons r0
  obtain ⟨v2, vs2, d2, ds2, p2, q2, rfl, rfl, rfl, h2, r2⟩ := trodAll_cons r1
  obtain ⟨v3, vs3, d3, ds3, p3, q3, rfl, rfl, rfl, h3, r3⟩ := trodAll_cons r2
  obtain ⟨rfl, rfl, rfl⟩ := trodAll_nil r3
  obtain rfl : args = #[v0, v1, v2, v3] := by cases args; simp_all
  obtain ⟨rfl, rfl⟩ := trodVars_none hV
  obtain ⟨a0, rfl, rfl, rfl, w0⟩ := open_int Try.underlying5 (hval 0 5 v0 rfl rfl) h0
  obtain ⟨a1, len1, cap1, rfl⟩ := okWide_slice Try.underlying22 (hval 1 22 v1 rfl rfl)
  have k1 := h1
  have lt1 : ∀ x ∈ p1, x.block < W.heap.size := by obtain ⟨m, hm⟩ := k1; exact DataW.trod_lt m _ _ _ hm
  obtain ⟨z1, w1, n1, m1, o1, f1⟩ : ∃ zs, Deeds W a1 zs ∧ zs.length = len1 ∧ len1 ≤ cap1 ∧ cap1 ≤ maxLen ∧ (∀ d ∈ zs, Fit d) := by
    obtain ⟨fuel, hf⟩ := h1
    rcases open_deeds Try.underlying22 Try.underlying55 (by kernel_rfl) (by kernel_rfl) Try.underlying3 Try.underlying24 Try.underlying24 hf with ⟨hcs, hx⟩ | ⟨x, l, c, zs, E, S, hcs, hl, hm, hz, hx, hE, hS, hsp, hwz⟩
    · simp [Value.cells] at hcs
      obtain ⟨rfl, rfl, rfl⟩ := hcs
      exact ⟨[], Deeds.nil _ _, rfl, Nat.le_refl _, Nat.zero_le _, fun _ h => by cases h⟩
    · simp [Value.cells] at hcs
      obtain ⟨rfl, rfl, rfl⟩ := hcs
      exact ⟨zs, hsp, hz, hl, hm, hwz⟩
  have k2 := h2
  have lt2 : ∀ x ∈ p2, x.block < W.heap.size := by obtain ⟨m, hm⟩ := k2; exact DataW.trod_lt m _ _ _ hm
  obtain ⟨c20, c21, c22, c23, rfl, w2⟩ := open_quad Try.underlying39 Try.underlying38 (by kernel_rfl) (by kernel_rfl) (by kernel_rfl) (hval 2 39 v2 rfl rfl) h2
  obtain ⟨a3, rfl, rfl, rfl, w3⟩ := open_int Try.underlying5 (hval 3 5 v3 rfl rfl) h3
  clear hA0 hval0
  refine (walk a0 a1 len1 cap1 z1 c20 c21 c22 c23 a3 W w0 w1 n1 m1 o1 f1 w2 w3).mono fun e W' ⟨he, bel⟩ => ?_
  subst he
  exact ⟨_, rfl, _, _, _, [], _, [], hW', trodAll_mk1 (shut_bool Try.underlying4 _), (trodAll_cons_mk (shut_int Try.underlying5 w0) (trodAll_cons_mk (Below.trod laidOut (by kernel_rfl) (of_decide_eq_true (by kernel_rfl)) k1 bel lt1) (trodAll_cons_mk (Below.trod laidOut (by kernel_rfl) (of_decide_eq_true (by kernel_rfl)) k2 bel lt2) (trodAll_cons_mk (shut_int Try.underlying5 w3) trodAll_mk0)))), rfl, bel.frame _, fun h => by cases h⟩

theorem over : Rows.triggerOnceRow.holds Try.pinned (OpenSpec.ofChange Rows.triggerOnceSpec) :=
  OpenClaim.holds_of_wide 5 Try.f5 rfl rfl rfl rfl rfl rfl rfl ⟨rfl, rfl, rfl, rfl, rfl⟩ rfl rfl rfl rfl rfl (by kernel_rfl) Try.func5 (by kernel_rfl)
    (of_decide_eq_true (by kernel_rfl)) (by unfold Func.isWrapper; first | (rw [if_pos (by decide +kernel)]; kernel_rfl) | (rw [if_neg (by decide +kernel)]; exact ⟨rfl, rfl⟩))
    (fun os started H enc _ => lifted os started H enc)

/-- The given statement. -/
theorem proved : Rows.TriggerOnceSaid :=
  over
#print axioms proved
end Go.Proofs.Ytlhjnbommlaioaa.triggerOnce
