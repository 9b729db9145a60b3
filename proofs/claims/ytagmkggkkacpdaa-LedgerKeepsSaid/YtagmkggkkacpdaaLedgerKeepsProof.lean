/-
  All that flies is kept, its bytes are what is in flight, and there is room for just so many more. No conditions.
-/
import Derived.Test.YtagmkggkkacpdaaDeeds
import Derived.Test.YtagmkggkkacpdaaRows
import Derived.Test.YtagmkggkkacpdaaRow
import Derived.WalkKit
import Derived.ProofKit
import Derived.OpenShut
import Derived.ShutString
import Derived.ChangeOld
import Derived.Below
import Derived.Test.YtagmkggkkacpdaaLedMake
import Derived.Test.YtagmkggkkacpdaaLedAlive
import Derived.Test.YtagmkggkkacpdaaLedKeeps
namespace Go.Proofs.Ytagmkggkkacpdaa.ledgerKeeps
open Go.ChangeShapes Go.WideShapes Go.ChangeAt Go.RowKit
open Go.ChangeMaps (open_string shut_string)
open Go.Proofs.Ytagmkggkkacpdaa.Base
set_option linter.unusedVariables false

theorem own : ownKnob Try.prog.godebug = none := by kernel_rfl
theorem laidOut : laidOutB Try.prog = true := by kernel_rfl

open Go.Proofs.Ytagmkggkkacpdaa.Led Go.Proofs.Ytagmkggkkacpdaa.LedPlain
theorem plus_not {S : Nat → Prop} {w w' : World} {d : Nat} (h : ¬ S d) (hd : d < w.heap.size) : ¬ Plus S w w' d := fun e => by
  rcases e with e | e
  · exact h e
  · omega
theorem doG_ring (g : Lg) (raw : Bool) (k A B : Int) : (doG g raw k A B).ring = g.ring ∧ (doG g raw k A B).limit = g.limit := by
  unfold doG
  split
  · exact send_ring _ _
  · split
    · exact skip_ring _
    · split
      · exact settle_ring _ _ _
      · split
        · exact use_ring _ _
        · exact ⟨rfl, rfl⟩
theorem fold_ring : ∀ (l : List Dd) (g : Lg), (l.foldl deedG g).ring = g.ring ∧ (l.foldl deedG g).limit = g.limit
  | [], g => ⟨rfl, rfl⟩
  | d :: l, g => by
    have h1 := fold_ring l (deedG g d)
    have h2 := doG_ring g false (d.1 % 9) d.2.1 d.2.2
    exact ⟨h1.1.trans h2.1, h1.2.trans h2.2⟩
theorem made_ring (ring limit : Int) (l : List Dd) : (madeG ring limit l).ring = max 4 (min ring 256) ∧ (madeG ring limit l).limit = min limit 4611686018427387903 := fold_ring _ _
theorem fly_part {g : Lg} (h : Ok g) {k : Nat} (hk : k < (allS g).length) (hs : ((allS g).getD k Z8).state = 1) : 0 ≤ ((allS g).getD k Z8).len ∧ 0 ≤ fly ((allS g).take k) ∧ fly ((allS g).take k) + ((allS g).getD k Z8).len ≤ 1500 * (((allS g).length : Nat) : Int) := by
  have hp : ∀ s ∈ allS g, s.state = 1 → 0 ≤ s.len ∧ s.len ≤ 1500 := fun s hm he => by
    obtain ⟨i, hi, rfl⟩ := List.getElem_of_mem hm
    have h1 : (allS g)[i] = atN g (lowN g + i) := by rw [← all_at]; simp [List.getD, hi]
    rw [kept_len] at hi
    rw [h1] at he ⊢
    have := (h.each (lowN g + i) (by omega)).2.2.2.2.1 (by omega)
    omega
  have h1 := fly_le ((allS g).take k) fun s hm => hp s (List.mem_of_mem_take hm)
  have h2 := hp ((allS g).getD k Z8) (by simp [List.getD, hk]) hs
  rw [List.length_take] at h1
  omega
set_option maxHeartbeats 4000000 in
theorem walk (a0 : Int) (a1 : Option Addr) (len1 cap1 : Nat) (z1 : List Dd) (w : World) (w0 : (Lit.int .u8 a0).wf = true) (w1 : Deeds w a1 z1) (n1 : z1.length = len1) (m1 : len1 ≤ cap1) (o1 : cap1 ≤ maxLen) (f1 : ∀ d ∈ z1, Fit d) :
    Calls Try.prog 4 #[.int .u8 a0, .slice a1 len1 cap1] w fun e w' => e = .returned (.bool true) ∧ Below w.heap.size w w' := by
  obtain ⟨p0, p1⟩ := Base.u8_of w0
  subst n1
  have CM := make_any (a0 % 40) 4611686018427387903 (by omega) (by omega) (by decide) (by decide) a1 z1.length cap1 z1 w rfl m1 o1 f1 w1
  have CA := fun V => alive_led V
  have hml := made_len (a0 % 40) 4611686018427387903 z1
  obtain ⟨hring, hlim⟩ := made_ring (a0 % 40) 4611686018427387903 z1
  generalize madeG (a0 % 40) 4611686018427387903 z1 = g at *
  replace hlim : g.limit = 4611686018427387903 := by rw [hlim]; decide
  go_enter Try.func4, Try.ntmps4
  go_upto_region 2 with (go_at_call 13; refine CM.mono ?_; rintro e u1 ⟨a, b, S, rfl, P1, hS, L1⟩)
  have hlt := P1.lt
  have hok := P1.ok
  have M2 := L1.alloc L1.size (.cells #[.pointer (some a), .pointer (some ⟨b, 0, none⟩)] 29)
  have T2 := Blk.new u1 #[.pointer (some a), .pointer (some ⟨b, 0, none⟩)] 29
  have P2 := (P1.below ((Below.refl _ _).alloc (Nat.le_refl _) (.cells #[.pointer (some a), .pointer (some ⟨b, 0, none⟩)] 29))).led
  have T2l := T2.lt
  have nc3 : ¬ S u1.heap.size := fun e => by have := hlt _ e; omega
  generalize u1.alloc (.cells #[.pointer (some a), .pointer (some ⟨b, 0, none⟩)] 29) = V at *
  generalize hc : u1.heap.size = c at *
  have hgn : g.l.length ≤ 1000000 := by omega
  go_wp2_with (first
    | (go_at_call 10; refine (CA V).mono ?_; rintro e u3 ⟨rfl, L3⟩; have M3 := M2.trans (L3.mono M2.size); have C3 := T2.below L3 T2l; have P3 := P2.below L3; have c03 : u3.cell? ⟨c, 0, none⟩ = some (.pointer (some a)) := C3.cell 0; have CL := all_any P3 hgn; clear CA)
    | (go_at_call 14; refine CL.mono ?_; rintro e u4 ⟨p, cap4, rfl, k1, k2, hrow, L4⟩; have M4 := M3.trans (L4.mono M3.size); have C4 := C3.below L4 C3.lt; have P4 := P3.below L4; unfold maxLen at k2; clear CL))
  clear CM L1 P1 P2 T2 L3 P3 C3 M3 M2
  have hz : Sents u4 p (allS g) := RowIn.row hrow
  have hkl := kept_len g
  have hfp := Lib.hid (fun k => @fly_part g hok k)
  have hft := Lib.hid (fun k => @fly_take (allS g) k)
  have hct := Lib.hid (fun k => @cnt_take (allS g) k)
  have hlenA : (allS g).length ≤ 80 := by omega
  go_loopw [7, 8, 10, 35] (fun n f _ i wr => ∃ k : Nat, k ≤ (allS g).length ∧ i = .int .i64 k ∧ n = .int .u64 (fly ((allS g).take k)) ∧ f = .int .i64 (cnt ((allS g).take k)) ∧ Below u4.heap.size u4 wr) (fun _ _ _ i _ => (allS g).length - (intOf i).toNat)
  case atStart => exact ⟨0, Nat.zero_le _, rfl, rfl, rfl, Below.refl _ _⟩
  case round =>
    obtain ⟨k, hk, rfl, rfl, rfl, hL⟩ := hrel
    by_cases hlt : k < (allS g).length
    · obtain ⟨b', off', rfl, hb', e0, e1, e2, e3, e4, e5, e6, e7⟩ := (hz.below hL).at_ hlt
      have h1 := hft.out k hlt
      have h2 := hct.out k hlt
      have h3 := hfp.out k hlt
      have hcl := cnt_le ((allS g).take k)
      rw [List.length_take] at hcl
      have hkI : (k : Int) < ((allS g).length : Int) := by omega
      generalize (allS g).getD k Z8 = s at *
      obtain ⟨s0, s1, s2, s3, s4, s5, s6, s7⟩ := s
      simp only at e0 e1 e2 e3 e4 e5 e6 e7 h1 h2 h3
      by_cases hs : s7 = 1
      · subst hs
        rw [if_pos rfl] at h1 h2
        obtain ⟨h4, h5, h6⟩ := h3 rfl
        generalize hf : fly ((allS g).take k) = x at *
        generalize hcn : cnt ((allS g).take k) = y at *
        go_wp2
        all_goals go_roundw
        case rel => exact ⟨k + 1, by omega, by go_num, (by rw [h1]), (by rw [h2]; go_num), hL.alloc hL.size _⟩
        case measure => simp [intOf]; omega
      · rw [if_neg hs] at h1 h2
        generalize hf : fly ((allS g).take k) = x at *
        generalize hcn : cnt ((allS g).take k) = y at *
        go_wp2
        all_goals go_roundw
        case rel => exact ⟨k + 1, by omega, by go_num, (by rw [h1, Int.add_zero]), (by rw [h2, Nat.add_zero]), hL.alloc hL.size _⟩
        case measure => simp [intOf]; omega
    · obtain rfl : k = (allS g).length := by omega
      rw [List.take_of_length_le (Nat.le_refl _), show fly (allS g) = flight g from rfl]
      have C4' := C4.below hL C4.lt
      have P4' := P4.below hL
      have M4' := M4.trans (hL.mono M4.size)
      have c04 : wr.cell? ⟨c, 0, none⟩ = some (.pointer (some a)) := C4'.cell 0
      have CR := room_any P4'
      have hrg := room_ge hok
      have hrl := room_le hok
      have hr1 := hok.r1
      have hfb := flight_bd hok
      have hlg := least_ge g
      have hfull := hok
      clear hft hct hfp hz hrow C4 P4 M4 hlt hk
      go_upto_region 13 with (go_at_call 15; refine CR.mono ?_; rintro e u5 ⟨rfl, L5⟩; have M5 := M4'.trans (L5.mono M4'.size); have C5 := C4'.below L5 C4'.lt; have P5 := P4'.below L5; have c05 : u5.cell? ⟨c, 0, none⟩ = some (.pointer (some a)) := C5.cell 0; clear CR)
      have hlgI : (lowN g : Int) ≤ (leastN g : Int) := by omega
      by_cases hcz : cnt (allS g) = 0
      · obtain ⟨z1', z2', z3'⟩ := cnt_zero hok hcz
        have hr0 : roomI g = max 4 (a0 % 40) := by rw [z3', hring]; omega
        have hc0 : (cnt (allS g) : Int) = 0 := by omega
        have HZ2 := Lib.hid z2'
        have HR0 := Lib.hid hr0
        clear z1' z2' z3' hr0
        generalize (cnt (allS g) : Int) = y at *
        subst hc0
        have e0 := fun p : In (Lt u5) => inCell p c05
        have g0 : ¬ (leastN g : Int) < (lowN g : Int) := by omega
        have g1 : ¬ roomI g < 0 := by omega
        skip
        have Q1 := fun p : In (Lt u5) => flight_any (P5.below p.h)
        have Q2 := fun p : In (Lt u5) => least_any (P5.below p.h)
        have Q3 := fun p : In (Lt u5) => low_any (P5.below p.h)
        have Q4 := fun p : In (Lt u5) => next_any (P5.below p.h)
        refine wp_region_in (Lt u5) (Lt.drew u5) (by kernel_rfl) (by kernel_rfl) ?_
        repeat (go_big_quiet_step (first
          | (go_at_call 16; refine in_below (v := .int .u64 (flight g)) ?_; exact Q1 _)
          | (go_at_call 17; refine in_below (v := .int .u64 (leastN g)) ?_; exact Q2 _)
          | (go_at_call 18; refine in_below (v := .int .u64 (lowN g)) ?_; exact Q3 _)
          | (go_at_call 19; refine in_below (v := .int .u64 g.l.length) ?_; exact Q4 _)))
        refine wpQuiet_nil ?_
        rintro u6 ⟨⟨_, hw6⟩, rfl⟩
        have hw6 : Below u5.heap.size u5 u6 := hw6
        have P6 := P5.below hw6
        have C6 := C5.below hw6 C5.lt
        have M6 := M5.trans (hw6.mono M5.size)
        clear Q1 Q2 Q3 Q4 e0
        rw [HR0.out, HZ2.out]
        by_cases h4 : 4 < a0 % 40
        · rw [show max 4 (a0 % 40) = a0 % 40 by omega]
          go_wp2
          all_goals go_ret
          all_goals exact ⟨by simp, M6⟩
        · rw [show max 4 (a0 % 40) = 4 by omega]
          go_wp2
          all_goals go_ret
          all_goals exact ⟨by simp, M6⟩
      · have hlt2 := cnt_pos hok (by omega)
        have hyp : (0 : Int) < (cnt (allS g) : Int) := by omega
        have hltI : (leastN g : Int) < (g.l.length : Int) := by omega
        have hMore := Lib.hid (More.start hok)
        generalize hy : (cnt (allS g) : Int) = y at *
        have e0 := fun p : In (Lt u5) => inCell p c05
        have g0 : ¬ (leastN g : Int) < (lowN g : Int) := by omega
        have g1 : ¬ roomI g < 0 := by omega
        have g2 : ¬ ((g.l.length : Int) ≤ (leastN g : Int)) := by omega
        have Q1 := fun p : In (Lt u5) => flight_any (P5.below p.h)
        have Q2 := fun p : In (Lt u5) => least_any (P5.below p.h)
        have Q3 := fun p : In (Lt u5) => low_any (P5.below p.h)
        have Q4 := fun p : In (Lt u5) => next_any (P5.below p.h)
        refine wp_region_in (Lt u5) (Lt.drew u5) (by kernel_rfl) (by kernel_rfl) ?_
        repeat (go_big_quiet_step (first
          | (go_at_call 16; refine in_below (v := .int .u64 (flight g)) ?_; exact Q1 _)
          | (go_at_call 17; refine in_below (v := .int .u64 (leastN g)) ?_; exact Q2 _)
          | (go_at_call 18; refine in_below (v := .int .u64 (lowN g)) ?_; exact Q3 _)
          | (go_at_call 19; refine in_below (v := .int .u64 g.l.length) ?_; exact Q4 _)))
        refine wpQuiet_nil ?_
        rintro u6 ⟨⟨_, hw6⟩, rfl⟩
        have hw6 : Below u5.heap.size u5 u6 := hw6
        have P6 := P5.below hw6
        have C6 := C5.below hw6 C5.lt
        have M6 := M5.trans (hw6.mono M5.size)
        clear Q1 Q2 Q3 Q4 e0
        have hrI : 0 ≤ roomI g ∧ roomI g ≤ 256 := by omega
        obtain ⟨R, hR⟩ := Int.eq_ofNat_of_zero_le hrg
        have HRR := Lib.hid hR
        rw [hR]
        have hRb : (R : Int) ≤ 256 := by omega
        clear hR hrI
        go_wp2
        go_loopw [12, 13, 14] (fun i _ _ wr => ∃ (t : Nat) (S3 : Nat → Prop) (g' : Lg), t ≤ R ∧ i = .int .i64 t ∧ More g t g' ∧ Led S3 wr a g' ∧ (∀ k, S3 k → w.heap.size ≤ k) ∧ ¬ S3 c ∧ Blk wr c #[.pointer (some a), .pointer (some ⟨b, 0, none⟩)] 29 ∧ Below w.heap.size w wr) (fun i _ _ _ => R - (intOf i).toNat)
        case atStart => exact ⟨0, S, g, Nat.zero_le _, rfl, hMore.out, P6, hS, nc3, C6, M6⟩
        case round =>
          clear P6 C6 M6 P5 C5 M5
          obtain ⟨t, S3, g', ht, rfl, hM, hP, hS3, hn3, hC, hL⟩ := hrel
          have c0 : wr.cell? ⟨c, 0, none⟩ = some (.pointer (some a)) := hC.cell 0
          have hcl := hC.lt
          have hlim2 : ((g.l.length + t : Nat) : Int) ≤ g.limit := by rw [hlim]; omega
          have hgl : g'.l.length ≤ 1000000 := by rw [hM.len]; omega
          by_cases hlt3 : t < R
          · have hltI3 : (t : Int) < (R : Int) := by omega
            obtain ⟨s1, hM2⟩ := hM.send hlt2 hlim2 (by rw [HRR.out]; omega)
            have CS := send_any hP oneS (by unfold Words oneS Z8; decide) hgl
            rw [s1] at CS
            go_wp2_with (go_at_call 20; refine CS.mono ?_; rintro e u7 ⟨rfl, P7, F7⟩; have M7 := hL.trans (F7.toBelow' (B := w.heap.size) hL.size fun k _ hk => hS3 k hk); have S7 := plus_ge (w2 := u7) hS3 hL.size; have C7 := hC.kept F7 hn3; have n7 := plus_not (w' := u7) hn3 hcl)
            all_goals go_roundw
            case rel => exact ⟨t + 1, _, _, by omega, by go_num, hM2, P7, S7, n7, C7, M7⟩
            case measure => simp [intOf]; omega
          · obtain rfl : t = R := by omega
            obtain ⟨s1, s2⟩ := hM.full hlim2 (by rw [HRR.out])
            have CS := send_any hP oneS (by unfold Words oneS Z8; decide) hgl
            rw [s1, s2] at CS
            have hfl := hM.flight
            go_wp2_with (first
              | (go_at_call 20; refine CS.mono ?_; rintro e u7 ⟨rfl, P7, F7⟩; have M7 := hL.trans (F7.toBelow' (B := w.heap.size) hL.size fun k _ hk => hS3 k hk); have C7 := hC.kept F7 hn3; have c07 : u7.cell? ⟨c, 0, none⟩ = some (.pointer (some a)) := C7.cell 0; have CF := flight_any P7; rw [hfl] at CF; clear CS)
              | (go_at_call 16; refine CF.mono ?_; rintro e u8 ⟨rfl, L8⟩; have M8 := M7.trans (L8.mono M7.size); clear CF))
            all_goals go_ret
            all_goals exact ⟨by simp, M8⟩

set_option maxRecDepth 100000 in
theorem lifted (os : Os) (started : os.Started) (H : Type) (enc : TypeId × Value → H) :
    ReturnsInHanded {} Try.checked os 4 .any (Rows.ledgerKeepsSpec.pre6 enc Try.prog Try.f4 Rows.ledgerKeepsRow.domain false) (Rows.ledgerKeepsSpec.post enc Try.prog Try.f4 false true false false) := by
  refine returnsInHanded_of_change (C := Try.checked) own started (by kernel_rfl) Try.func4
    (ChangeSpec.witness6 (enc := enc) (C := Try.checked) false ⟨#[], #[.int .u8 0, .slice none 0 0], []⟩ 8 (by kernel_rfl) (by kernel_rfl) (by kernel_rfl) (by kernel_rfl)) ?_
  intro W base args ds gs before hval0 hW hcnd _
  have hval : ∀ (j : Nat) t v, Try.f4.params[j]? = some t → args[j]? = some v → Value.okWide Try.prog W .any base t v := hval0
  have hW' := hW
  obtain ⟨p, q, hA0, hV, rfl, hfz, hnd⟩ := hW
  have hA : DataW.TrodAll enc Try.prog W 0 (fun _ => true) true Try.f4.params.toList args.toList ds p := hA0
  rw [Try.params4] at hA hval
  obtain ⟨v0, vs0, d0, ds0, p0, q0, hargs, rfl, rfl, h0, r0⟩ := trodAll_cons hA
  obtain ⟨v1, vs1, d1, ds1, p1, q1, rfl, rfl, rfl, h1, r1⟩ := trodAll_cons r0
  obtain ⟨rfl, rfl, rfl⟩ := trodAll_nil r1
  obtain rfl : args = #[v0, v1] := by cases args; simp_all
  obtain ⟨rfl, rfl⟩ := trodVars_none hV
  obtain ⟨a0, rfl, rfl, rfl, w0⟩ := open_int Try.underlying5 (hval 0 5 v0 rfl rfl) h0
  obtain ⟨a1, len1, cap1, rfl⟩ := okWide_slice Try.underlying23 (hval 1 23 v1 rfl rfl)
  have k1 := h1
  have lt1 : ∀ x ∈ p1, x.block < W.heap.size := by obtain ⟨m, hm⟩ := k1; exact DataW.trod_lt m _ _ _ hm
  obtain ⟨z1, w1, n1, m1, o1, f1⟩ : ∃ zs, Deeds W a1 zs ∧ zs.length = len1 ∧ len1 ≤ cap1 ∧ cap1 ≤ maxLen ∧ (∀ d ∈ zs, Fit d) := by
    obtain ⟨fuel, hf⟩ := h1
    rcases open_deeds Try.underlying23 Try.underlying33 (by kernel_rfl) (by kernel_rfl) Try.underlying3 Try.underlying22 Try.underlying22 hf with ⟨hcs, hx⟩ | ⟨x, l, c, zs, E, S, hcs, hl, hm, hz, hx, hE, hS, hsp, hwz⟩
    · simp [Value.cells] at hcs
      obtain ⟨rfl, rfl, rfl⟩ := hcs
      exact ⟨[], Deeds.nil _ _, rfl, Nat.le_refl _, Nat.zero_le _, fun _ h => by cases h⟩
    · simp [Value.cells] at hcs
      obtain ⟨rfl, rfl, rfl⟩ := hcs
      exact ⟨zs, hsp, hz, hl, hm, hwz⟩
  clear hA0 hval0
  refine (walk a0 a1 len1 cap1 z1 W w0 w1 n1 m1 o1 f1).mono fun e W' ⟨he, bel⟩ => ?_
  subst he
  exact ⟨_, rfl, _, _, _, [], _, [], hW', trodAll_mk1 (shut_bool Try.underlying4 _), (trodAll_cons_mk (shut_int Try.underlying5 w0) (trodAll_cons_mk (Below.trod laidOut (by kernel_rfl) (of_decide_eq_true (by kernel_rfl)) k1 bel lt1) trodAll_mk0)), rfl, bel.frame _, fun h => by cases h⟩

theorem over : Rows.ledgerKeepsRow.holds Try.pinned (OpenSpec.ofChange Rows.ledgerKeepsSpec) :=
  OpenClaim.holds_of_wide 4 Try.f4 rfl rfl rfl rfl rfl rfl rfl ⟨rfl, rfl, rfl, rfl, rfl⟩ rfl rfl rfl rfl rfl (by kernel_rfl) Try.func4 (by kernel_rfl)
    (of_decide_eq_true (by kernel_rfl)) (by unfold Func.isWrapper; first | (rw [if_pos (by decide +kernel)]; kernel_rfl) | (rw [if_neg (by decide +kernel)]; exact ⟨rfl, rfl⟩))
    (fun os started H enc _ => lifted os started H enc)

/-- The given statement. -/
theorem proved : Rows.LedgerKeepsSaid :=
  over
#print axioms proved
end Go.Proofs.Ytagmkggkkacpdaa.ledgerKeeps
