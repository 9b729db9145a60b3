/-
  Bytes that are an acknowledgment are its bytes, and no other ones, also where one byte of an acknowledgment's bytes was turned. No conditions beside the table of math/bits, which the card ties to the program's text.
-/
import Derived.SizedLaws
import Derived.Test.YtangljeceohdpaaDoorTab
import Derived.Test.YtangljeceohdpaaDoorCards
import Derived.Test.YtangljeceohdpaaDoorTie
import Derived.SevenTiedAt
import Derived.Handed
import Derived.Test.YtangljeceohdpaaDoorRows
import Derived.Test.YtangljeceohdpaaDoorRow
import Derived.WalkKit
import Derived.ProofKit
import Derived.OpenShut
import Derived.ShutString
import Derived.ChangeOld
import Derived.Below
import Derived.Test.YtangljeceohdpaaDoorAckAlive
import Derived.Test.YtangljeceohdpaaDoorAckLaw0
import Derived.Test.YtangljeceohdpaaDoorOctSet
namespace Go.Proofs.YtangljeceohdpaaDoor.ackOne
open Go.ChangeShapes Go.WideShapes Go.ChangeAt Go.RowKit
open Go.ChangeMaps (open_string shut_string)
open Go.Proofs.YtangljeceohdpaaDoor.Base
set_option linter.unusedVariables false

theorem own : ownKnob Tryd.prog.godebug = none := by kernel_rfl
theorem laidOut : laidOutB Tryd.prog = true := by kernel_rfl

open Go.Proofs.YtangljeceohdpaaDoor.Ack Go.Proofs.YtangljeceohdpaaDoor.Oct Go.Proofs.YtangljeceohdpaaDoor.OctSet Go.Proofs.YtangljeceohdpaaDoor.OctPlain Go.Proofs.YtangljeceohdpaaDoor.SpanPlain Go.Proofs.YtangljeceohdpaaDoor.Tab
open Go.Proofs.YtangljeceohdpaaDoor.AckPlain (K getAck putAck Fit)
theorem mod_facts {a : Int} {k : Nat} (h0 : 0 ≤ a) (hk : 1 ≤ k) : ∃ t : Nat, a.tmod (k : Int) = t ∧ t < k := by
  have h1 := Int.emod_nonneg a (show (k : Int) ≠ 0 by omega)
  have h2 := Int.emod_lt_of_pos a (show (0 : Int) < k by omega)
  exact ⟨(a % (k : Int)).toNat, by rw [Int.tmod_eq_emod_of_nonneg h0]; omega, by omega⟩
theorem put_facts {x : K} (hm : AckPlain.may x = true) : ∃ P : List Int, putAck x = P ∧ 1 ≤ P.length ∧ P.length ≤ 2000 ∧ Bytes P := by
  obtain ⟨m1, m2, m3, m4, m5, m6⟩ := AckPlain.may_iff.1 hm
  refine ⟨putAck x, rfl, by unfold putAck; simp, ?_, AckPlain.put_ack_bytes hm⟩
  have := AckPlain.put_ack_len x
  omega
theorem zero_may : AckPlain.may ⟨[], [], 0, 0, false⟩ = false := by decide +kernel
theorem one_facts {l : List Int} (hb : Bytes l) : (∃ D, getAck l = (D, 0) ∧ putAck D = l ∧ AckPlain.may D = true ∧ Fit D) ∨ ∃ x, x ≠ 0 ∧ getAck l = (AckPlain.zero, x) := by
  obtain ⟨D, x, hg⟩ : ∃ D x, getAck l = (D, x) := ⟨_, _, rfl⟩
  by_cases hx : x = 0
  · subst hx
    obtain ⟨h1, h2, h3⟩ := AckPlain.get_one hb hg
    exact Or.inl ⟨D, hg, h1.symm, h2, h3⟩
  · have := AckPlain.ack_bad (l := l) (by rw [hg]; exact hx)
    rw [hg] at this
    dsimp only at this
    subst this
    exact Or.inr ⟨x, hx, hg⟩
set_option maxHeartbeats 4000000 in
theorem walk (a0 : Option Addr) (len0 cap0 : Nat) (z0 : List Int) (a1 : Option Addr) (len1 cap1 : Nat) (z1 : List Int) (a2 : Int) (a3 : Int) (a4 : Int) (a5 : Option Addr) (len5 cap5 : Nat) (z5 : List Int)  (w : World) (w0 : Ints .u16 w a0 z0) (n0 : z0.length = len0) (m0 : len0 ≤ cap0) (o0 : cap0 ≤ maxLen) (f0 : ∀ x ∈ z0, (Lit.int .u16 x).wf = true) (b0 : cap0 * 2 ≤ 140737488351232) (e0 : a0 = none → len0 = 0 ∧ cap0 = 0) (w1 : Ints .u16 w a1 z1) (n1 : z1.length = len1) (m1 : len1 ≤ cap1) (o1 : cap1 ≤ maxLen) (f1 : ∀ x ∈ z1, (Lit.int .u16 x).wf = true) (b1 : cap1 * 2 ≤ 140737488351232) (e1 : a1 = none → len1 = 0 ∧ cap1 = 0) (w2 : (Lit.int .u64 a2).wf = true) (w3 : (Lit.int .u16 a3).wf = true) (w4 : (Lit.int .u8 a4).wf = true) (w5 : Ints .u8 w a5 z5) (n5 : z5.length = len5) (m5 : len5 ≤ cap5) (o5 : cap5 ≤ maxLen) (f5 : ∀ x ∈ z5, (Lit.int .u8 x).wf = true) (b5 : cap5 * 1 ≤ 140737488351232) (e5 : a5 = none → len5 = 0 ∧ cap5 = 0) (hT : Tab.Tab w) :
    Calls Tryd.prog 6 #[.slice a0 len0 cap0, .slice a1 len1 cap1, .int .u64 a2, .int .u16 a3, .int .u8 a4, .slice a5 len5 cap5] w fun e w' => e = .returned (.bool true) ∧ Below w.heap.size w w' := by
  subst n5
  have hbz : Bytes z5 := fun x hx => Base.u8_of (f5 x hx)
  have hlen : z5.length ≤ 140737488355328 := by omega
  have u2 := Base.u64_of w2
  obtain ⟨q30, q31⟩ := Base.u16_of w3
  obtain ⟨q40, q41⟩ := Base.u8_of w4
  have CD := ack_any a0 a1 len0 cap0 len1 cap1 z0 z1 a2 7 false w n0 n1 (by omega) (by omega) f0 f1 u2.1 u2.2 (by decide) (by decide) w0 w1
  have hlen0 : (len0 : Int) ≤ 140737488355328 := by omega
  have hlen1 : (len1 : Int) ≤ 140737488355328 := by omega
  clear u2 w2 w3 w4 f0 f1 n0 n1 e0 e1 b0 b1 m0 m1 o0 o1 f5
  go_enter Tryd.func6, Tryd.ntmps6
  go_wp2_with (first
    | (go_at_call 16; refine CD.mono ?_; rintro e v1 ⟨L1, rfl | ⟨x, s, n, c, t, m, d, rfl, hm, hf, ⟨hn, hs1, hs2, hs3, S1⟩, ⟨hmm, ht1, ht2, ht3, T1⟩⟩⟩ <;> clear CD)
    | (go_at_call 8; refine (alive_ack (v1.alloc _) ((hT.below L1).alloc _)).mono ?_; rintro e v2 ⟨rfl, L2⟩; have B2 := (Blk.new v1 _ _).below L2 (by simp); have N2 := Base.next ((Below.refl v1.heap.size v1).alloc (Nat.le_refl _) _) L2; have M2 := Base.next L1 N2; obtain ⟨p0, p1, p2, p3, p4⟩ := blk5 B2; clear L2)
    | (go_at_call 8; refine (alive_ack v2 (hT.below M2)).mono ?_; rintro e v3 ⟨rfl, L3⟩; have MZ := Base.next M2 L3)
    | (go_at_call 12; obtain ⟨P, hP, hk1, hk2, hbP⟩ := put_facts hm; obtain ⟨tt, ht, htk⟩ := mod_facts (a := a3) q30 hk1; have C2 := ref_put_ack_own x s t n c m d v2 hn hmm hm hf (S1.row.below N2) (T1.row.below N2); rw [hP] at C2; refine C2.mono ?_; rintro e v3 ⟨u, rfl, O3, L3⟩; clear C2 hP p0 p1 p2 p3 p4; obtain ⟨g, cap, xx, rfl, hg1, hg2, hg3, hgx, hgc, hgf, hgs⟩ := own_set O3 htk; have M3 := Base.next M2 L3; have htc : (tt : Int) < (cap : Int) := (by omega); have htk' : (tt : Int) < (P.length : Int) := (by omega); have hk1' : (1 : Int) ≤ (P.length : Int) := (by omega); have hk2' : (P.length : Int) ≤ 2000 := (by omega); clear O3 L3))
  any_goals (go_ret; exact ⟨rfl, MZ⟩)
  · have M := M2
    have RZ : Ints .u8 v2 a5 z5 := w5.below M2
    have hTV := hT.below M2
    clear p0 p1 p2 p3 p4 B2 N2 M2 L1
    have y0 : ∀ w, (Instr.index 44 (.agg #[.slice a5 z5.length cap5, .slice a5 z5.length cap5]) (.int .i64 0)).run Tryd.prog w = .ok (.slice a5 z5.length cap5) w := fun _ => by kernel_rfl
    have y1 : ∀ w, (Instr.index 44 (.agg #[.slice a5 z5.length cap5, .slice a5 z5.length cap5]) (.int .i64 1)).run Tryd.prog w = .ok (.slice a5 z5.length cap5) w := fun _ => by kernel_rfl
    go_loopw [62] (fun i wr => ∃ j : Nat, j ≤ 2 ∧ i = .int .i64 j ∧ Below v2.heap.size v2 wr) (fun i _ => 2 - (intOf i).toNat)
    case atStart => exact ⟨0, by omega, rfl, Below.refl _ _⟩
    case round =>
      obtain ⟨j, hj, rfl, hL⟩ := hrel
      by_cases h0 : j = 0
      · subst h0
        have hlim := ack_lim hbz
        have C := decode_any a5 z5.length cap5 z5 wr rfl m5 hlen e5 hbz (RZ.below hL)
        have CG := fun W hz => ref_get_ack a5 z5.length cap5 z5 W rfl m5 hlen hbz hz
        unfold AckPost at C CG
        rcases one_facts hbz with ⟨D, hg, hP, hm, hf⟩ | ⟨x, hx, hg⟩
        · rw [hg] at C CG hlim
          dsimp only at C CG hlim
          clear hg
          go_wp2_with (first
            | (go_at_call 13; refine C.mono ?_; rintro e v5 ⟨x5, n5, c5, t5, m5, d5, rfl, ⟨i1, i2, i3, i4, S5⟩, ⟨j1, j2, j3, j4, T5⟩, L5⟩; have M5 := Base.next hL L5; clear C)
            | (go_at_call 9; have C2 := fun o hT => encode_any D x5 t5 n5 c5 m5 d5 (v5.alloc o) i1 j1 hm hf (Row.alloc S5.row o) (Row.alloc T5.row o) hT; rw [hP] at C2; refine (C2 _ ((hTV.below M5).alloc _)).mono ?_; rintro e v6 ⟨x6, c6, rfl, _, _, _, R6, L6⟩; have K6 := Base.next ((Below.refl v5.heap.size v5).alloc (Nat.le_refl _) _) L6; have B6 := (Blk.new v5 _ _).below L6 (by simp); have M6 := Base.next M5 K6; clear C2)
            | (go_at_call 14; refine (CG v6 (RZ.below M6)).mono ?_; rintro e v7 ⟨x7, n7, c7, t7, m7, d7, rfl, ⟨k1, _, _, _, S7⟩, ⟨l1, _, _, _, T7⟩, L7⟩; have M7 := Base.next M6 L7; have B7 := B6.below L7 B6.lt; have hlt := B7.lt; obtain ⟨p0, p1, p2, p3, p4⟩ := blk5 B7; have K7 := Base.next K6 L7; clear CG B6 B7)
            | (go_at_call 15; refine (ref_same_ack D x5 t5 x7 t7 n5 c5 m5 d5 n7 c7 m7 d7 _ i1 k1 j1 l1 hlim.1 hlim.2 (Row.alloc (S5.row.below K7) _) (Row.alloc (T5.row.below K7) _) (Row.alloc S7.row _) (Row.alloc T7.row _)).mono ?_; rintro e v8 ⟨rfl, L8⟩; have K8 := Base.next ((Below.refl v7.heap.size v7).alloc (Nat.le_refl _) _) L8; have M8 := Base.next M7 K8; have s1 := str_of v8 x6 _ c6 z5 rfl (R6.row.below (Base.next L7 K8)); have s2 := str_of v8 a5 z5.length cap5 z5 rfl (RZ.below M8)))
          all_goals go_roundw
          case rel => exact ⟨0 + 1, by omega, by go_num, M8⟩
          case measure => (simp [intOf]; try omega)
        · rw [hg] at C CG hlim
          dsimp only [AckPlain.zero] at C CG hlim
          clear hg
          go_wp2_with (first
            | (go_at_call 13; refine C.mono ?_; rintro e v5 ⟨x5, n5, c5, t5, m5, d5, rfl, ⟨i1, i2, i3, i4, S5⟩, ⟨j1, j2, j3, j4, T5⟩, L5⟩; have M5 := Base.next hL L5; clear C)
            | (go_at_call 9; refine (encode_bad ⟨[], [], 0, 0, false⟩ x5 t5 n5 c5 m5 d5 (v5.alloc _) i1 j1 (by unfold maxLen at i3; omega) (by unfold maxLen at j3; omega) Fits.nil Fits.nil (Spans.nil _ _) (Spans.nil _ _) zero_may).mono ?_; rintro e v6 ⟨rfl, L6⟩; have K6 := Base.next ((Below.refl v5.heap.size v5).alloc (Nat.le_refl _) _) L6; have B6 := (Blk.new v5 _ _).below L6 (by simp); have M6 := Base.next M5 K6)
            | (go_at_call 14; refine (CG v6 (RZ.below M6)).mono ?_; rintro e v7 ⟨x7, n7, c7, t7, m7, d7, rfl, ⟨k1, _, _, _, S7⟩, ⟨l1, _, _, _, T7⟩, L7⟩; have M7 := Base.next M6 L7; have B7 := B6.below L7 B6.lt; have hlt := B7.lt; obtain ⟨p0, p1, p2, p3, p4⟩ := blk5 B7; have K7 := Base.next K6 L7; clear CG B6 B7)
            | (go_at_call 15; refine (ref_same_ack ⟨[], [], 0, 0, false⟩ x5 t5 x7 t7 n5 c5 m5 d5 n7 c7 m7 d7 _ i1 k1 j1 l1 (Nat.zero_le _) (Nat.zero_le _) (Spans.nil _ _) (Spans.nil _ _) (Spans.nil _ _) (Spans.nil _ _)).mono ?_; rintro e v8 ⟨rfl, L8⟩; have K8 := Base.next ((Below.refl v7.heap.size v7).alloc (Nat.le_refl _) _) L8; have M8 := Base.next M7 K8))
          all_goals go_roundw
          case rel => exact ⟨0 + 1, by omega, by go_num, M8⟩
          case measure => (simp [intOf]; try omega)
      · by_cases h1 : j = 1
        · subst h1
          have hlim := ack_lim hbz
          have C := decode_any a5 z5.length cap5 z5 wr rfl m5 hlen e5 hbz (RZ.below hL)
          have CG := fun W hz => ref_get_ack a5 z5.length cap5 z5 W rfl m5 hlen hbz hz
          unfold AckPost at C CG
          rcases one_facts hbz with ⟨D, hg, hP, hm, hf⟩ | ⟨x, hx, hg⟩
          · rw [hg] at C CG hlim
            dsimp only at C CG hlim
            clear hg
            go_wp2_with (first
              | (go_at_call 13; refine C.mono ?_; rintro e v5 ⟨x5, n5, c5, t5, m5, d5, rfl, ⟨i1, i2, i3, i4, S5⟩, ⟨j1, j2, j3, j4, T5⟩, L5⟩; have M5 := Base.next hL L5; clear C)
              | (go_at_call 9; have C2 := fun o hT => encode_any D x5 t5 n5 c5 m5 d5 (v5.alloc o) i1 j1 hm hf (Row.alloc S5.row o) (Row.alloc T5.row o) hT; rw [hP] at C2; refine (C2 _ ((hTV.below M5).alloc _)).mono ?_; rintro e v6 ⟨x6, c6, rfl, _, _, _, R6, L6⟩; have K6 := Base.next ((Below.refl v5.heap.size v5).alloc (Nat.le_refl _) _) L6; have B6 := (Blk.new v5 _ _).below L6 (by simp); have M6 := Base.next M5 K6; clear C2)
              | (go_at_call 14; refine (CG v6 (RZ.below M6)).mono ?_; rintro e v7 ⟨x7, n7, c7, t7, m7, d7, rfl, ⟨k1, _, _, _, S7⟩, ⟨l1, _, _, _, T7⟩, L7⟩; have M7 := Base.next M6 L7; have B7 := B6.below L7 B6.lt; have hlt := B7.lt; obtain ⟨p0, p1, p2, p3, p4⟩ := blk5 B7; have K7 := Base.next K6 L7; clear CG B6 B7)
              | (go_at_call 15; refine (ref_same_ack D x5 t5 x7 t7 n5 c5 m5 d5 n7 c7 m7 d7 _ i1 k1 j1 l1 hlim.1 hlim.2 (Row.alloc (S5.row.below K7) _) (Row.alloc (T5.row.below K7) _) (Row.alloc S7.row _) (Row.alloc T7.row _)).mono ?_; rintro e v8 ⟨rfl, L8⟩; have K8 := Base.next ((Below.refl v7.heap.size v7).alloc (Nat.le_refl _) _) L8; have M8 := Base.next M7 K8; have s1 := str_of v8 x6 _ c6 z5 rfl (R6.row.below (Base.next L7 K8)); have s2 := str_of v8 a5 z5.length cap5 z5 rfl (RZ.below M8)))
            all_goals go_roundw
            case rel => exact ⟨1 + 1, by omega, by go_num, M8⟩
            case measure => (simp [intOf]; try omega)
          · rw [hg] at C CG hlim
            dsimp only [AckPlain.zero] at C CG hlim
            clear hg
            go_wp2_with (first
              | (go_at_call 13; refine C.mono ?_; rintro e v5 ⟨x5, n5, c5, t5, m5, d5, rfl, ⟨i1, i2, i3, i4, S5⟩, ⟨j1, j2, j3, j4, T5⟩, L5⟩; have M5 := Base.next hL L5; clear C)
              | (go_at_call 9; refine (encode_bad ⟨[], [], 0, 0, false⟩ x5 t5 n5 c5 m5 d5 (v5.alloc _) i1 j1 (by unfold maxLen at i3; omega) (by unfold maxLen at j3; omega) Fits.nil Fits.nil (Spans.nil _ _) (Spans.nil _ _) zero_may).mono ?_; rintro e v6 ⟨rfl, L6⟩; have K6 := Base.next ((Below.refl v5.heap.size v5).alloc (Nat.le_refl _) _) L6; have B6 := (Blk.new v5 _ _).below L6 (by simp); have M6 := Base.next M5 K6)
              | (go_at_call 14; refine (CG v6 (RZ.below M6)).mono ?_; rintro e v7 ⟨x7, n7, c7, t7, m7, d7, rfl, ⟨k1, _, _, _, S7⟩, ⟨l1, _, _, _, T7⟩, L7⟩; have M7 := Base.next M6 L7; have B7 := B6.below L7 B6.lt; have hlt := B7.lt; obtain ⟨p0, p1, p2, p3, p4⟩ := blk5 B7; have K7 := Base.next K6 L7; clear CG B6 B7)
              | (go_at_call 15; refine (ref_same_ack ⟨[], [], 0, 0, false⟩ x5 t5 x7 t7 n5 c5 m5 d5 n7 c7 m7 d7 _ i1 k1 j1 l1 (Nat.zero_le _) (Nat.zero_le _) (Spans.nil _ _) (Spans.nil _ _) (Spans.nil _ _) (Spans.nil _ _)).mono ?_; rintro e v8 ⟨rfl, L8⟩; have K8 := Base.next ((Below.refl v7.heap.size v7).alloc (Nat.le_refl _) _) L8; have M8 := Base.next M7 K8))
            all_goals go_roundw
            case rel => exact ⟨1 + 1, by omega, by go_num, M8⟩
            case measure => (simp [intOf]; try omega)
        · obtain rfl : j = 2 := by omega
          go_wp2
          go_ret
          exact ⟨rfl, Base.next M hL⟩
  · have hxb := hbP xx (List.mem_of_getElem? hgx)
    have hyb := xor_bd hxb ⟨q40, q41⟩
    have RC := hgs (bits .xor .u8 xx a4)
    have hgw : w.heap.size ≤ g := by have := M2.size; omega
    have F : Fr (fun k => k = g) v3 (v3.setCell ⟨g, tt, none⟩ (.int .u8 (bits .xor .u8 xx a4))) := Fr.setCell (S := fun k => k = g) (Fr.refl _ _) (p := ⟨g, tt, none⟩) (fun _ => rfl) _
    have M := F.below M3 M3.size (by rintro k rfl; exact hgw)
    have hbQ := bytes_set hbP tt hyb
    have hQl : (P.set tt (bits .xor .u8 xx a4)).length = P.length := List.length_set
    generalize P.set tt (bits .xor .u8 xx a4) = Q at RC hbQ hQl
    generalize v3.setCell ⟨g, tt, none⟩ (.int .u8 (bits .xor .u8 xx a4)) = V at RC M ⊢
    have RZ : Ints .u8 V a5 z5 := w5.below M
    have RC : Ints .u8 V (some ⟨g, 0, none⟩) Q := RC
    have hTV := hT.below M
    have HQ := Lib.hid hQl
    clear hQl F hgs hgc hgf hgx M2 M3 S1 T1 hg1 hxb hyb ht htk htk' htc B2 N2 L1 hm hf hs1 hs2 hs3 ht1 ht2 ht3
    have y0 : ∀ w, (Instr.index 44 (.agg #[.slice a5 z5.length cap5, .slice (some ⟨g, 0, none⟩) P.length cap]) (.int .i64 0)).run Tryd.prog w = .ok (.slice a5 z5.length cap5) w := fun _ => by kernel_rfl
    have y1 : ∀ w, (Instr.index 44 (.agg #[.slice a5 z5.length cap5, .slice (some ⟨g, 0, none⟩) P.length cap]) (.int .i64 1)).run Tryd.prog w = .ok (.slice (some ⟨g, 0, none⟩) P.length cap) w := fun _ => by kernel_rfl
    go_loopw [62] (fun i wr => ∃ j : Nat, j ≤ 2 ∧ i = .int .i64 j ∧ Below V.heap.size V wr) (fun i _ => 2 - (intOf i).toNat)
    case atStart => exact ⟨0, by omega, rfl, Below.refl _ _⟩
    case round =>
      obtain ⟨j, hj, rfl, hL⟩ := hrel
      by_cases h0 : j = 0
      · subst h0
        have hlim := ack_lim hbz
        have C := decode_any a5 z5.length cap5 z5 wr rfl m5 hlen e5 hbz (RZ.below hL)
        have CG := fun W hz => ref_get_ack a5 z5.length cap5 z5 W rfl m5 hlen hbz hz
        unfold AckPost at C CG
        rcases one_facts hbz with ⟨D, hg, hP, hm, hf⟩ | ⟨x, hx, hg⟩
        · rw [hg] at C CG hlim
          dsimp only at C CG hlim
          clear hg
          go_wp2_with (first
            | (go_at_call 13; refine C.mono ?_; rintro e v5 ⟨x5, n5, c5, t5, m5, d5, rfl, ⟨i1, i2, i3, i4, S5⟩, ⟨j1, j2, j3, j4, T5⟩, L5⟩; have M5 := Base.next hL L5; clear C)
            | (go_at_call 9; have C2 := fun o hT => encode_any D x5 t5 n5 c5 m5 d5 (v5.alloc o) i1 j1 hm hf (Row.alloc S5.row o) (Row.alloc T5.row o) hT; rw [hP] at C2; refine (C2 _ ((hTV.below M5).alloc _)).mono ?_; rintro e v6 ⟨x6, c6, rfl, _, _, _, R6, L6⟩; have K6 := Base.next ((Below.refl v5.heap.size v5).alloc (Nat.le_refl _) _) L6; have B6 := (Blk.new v5 _ _).below L6 (by simp); have M6 := Base.next M5 K6; clear C2)
            | (go_at_call 14; refine (CG v6 (RZ.below M6)).mono ?_; rintro e v7 ⟨x7, n7, c7, t7, m7, d7, rfl, ⟨k1, _, _, _, S7⟩, ⟨l1, _, _, _, T7⟩, L7⟩; have M7 := Base.next M6 L7; have B7 := B6.below L7 B6.lt; have hlt := B7.lt; obtain ⟨p0, p1, p2, p3, p4⟩ := blk5 B7; have K7 := Base.next K6 L7; clear CG B6 B7)
            | (go_at_call 15; refine (ref_same_ack D x5 t5 x7 t7 n5 c5 m5 d5 n7 c7 m7 d7 _ i1 k1 j1 l1 hlim.1 hlim.2 (Row.alloc (S5.row.below K7) _) (Row.alloc (T5.row.below K7) _) (Row.alloc S7.row _) (Row.alloc T7.row _)).mono ?_; rintro e v8 ⟨rfl, L8⟩; have K8 := Base.next ((Below.refl v7.heap.size v7).alloc (Nat.le_refl _) _) L8; have M8 := Base.next M7 K8; have s1 := str_of v8 x6 _ c6 z5 rfl (R6.row.below (Base.next L7 K8)); have s2 := str_of v8 a5 z5.length cap5 z5 rfl (RZ.below M8)))
          all_goals go_roundw
          case rel => exact ⟨0 + 1, by omega, by go_num, M8⟩
          case measure => (simp [intOf]; try omega)
        · rw [hg] at C CG hlim
          dsimp only [AckPlain.zero] at C CG hlim
          clear hg
          go_wp2_with (first
            | (go_at_call 13; refine C.mono ?_; rintro e v5 ⟨x5, n5, c5, t5, m5, d5, rfl, ⟨i1, i2, i3, i4, S5⟩, ⟨j1, j2, j3, j4, T5⟩, L5⟩; have M5 := Base.next hL L5; clear C)
            | (go_at_call 9; refine (encode_bad ⟨[], [], 0, 0, false⟩ x5 t5 n5 c5 m5 d5 (v5.alloc _) i1 j1 (by unfold maxLen at i3; omega) (by unfold maxLen at j3; omega) Fits.nil Fits.nil (Spans.nil _ _) (Spans.nil _ _) zero_may).mono ?_; rintro e v6 ⟨rfl, L6⟩; have K6 := Base.next ((Below.refl v5.heap.size v5).alloc (Nat.le_refl _) _) L6; have B6 := (Blk.new v5 _ _).below L6 (by simp); have M6 := Base.next M5 K6)
            | (go_at_call 14; refine (CG v6 (RZ.below M6)).mono ?_; rintro e v7 ⟨x7, n7, c7, t7, m7, d7, rfl, ⟨k1, _, _, _, S7⟩, ⟨l1, _, _, _, T7⟩, L7⟩; have M7 := Base.next M6 L7; have B7 := B6.below L7 B6.lt; have hlt := B7.lt; obtain ⟨p0, p1, p2, p3, p4⟩ := blk5 B7; have K7 := Base.next K6 L7; clear CG B6 B7)
            | (go_at_call 15; refine (ref_same_ack ⟨[], [], 0, 0, false⟩ x5 t5 x7 t7 n5 c5 m5 d5 n7 c7 m7 d7 _ i1 k1 j1 l1 (Nat.zero_le _) (Nat.zero_le _) (Spans.nil _ _) (Spans.nil _ _) (Spans.nil _ _) (Spans.nil _ _)).mono ?_; rintro e v8 ⟨rfl, L8⟩; have K8 := Base.next ((Below.refl v7.heap.size v7).alloc (Nat.le_refl _) _) L8; have M8 := Base.next M7 K8))
          all_goals go_roundw
          case rel => exact ⟨0 + 1, by omega, by go_num, M8⟩
          case measure => (simp [intOf]; try omega)
      · by_cases h1 : j = 1
        · subst h1
          have hlim := ack_lim hbQ
          have C := decode_any (some ⟨g, 0, none⟩) P.length cap Q wr HQ.out hg2 (by omega) (fun e => by cases e) hbQ (RC.below hL)
          have CG := fun W hz => ref_get_ack (some ⟨g, 0, none⟩) P.length cap Q W HQ.out hg2 (by omega) hbQ hz
          unfold AckPost at C CG
          rcases one_facts hbQ with ⟨D, hg, hP, hm, hf⟩ | ⟨x, hx, hg⟩
          · rw [hg] at C CG hlim
            dsimp only at C CG hlim
            clear hg
            go_wp2_with (first
              | (go_at_call 13; refine C.mono ?_; rintro e v5 ⟨x5, n5, c5, t5, m5, d5, rfl, ⟨i1, i2, i3, i4, S5⟩, ⟨j1, j2, j3, j4, T5⟩, L5⟩; have M5 := Base.next hL L5; clear C)
              | (go_at_call 9; have C2 := fun o hT => encode_any D x5 t5 n5 c5 m5 d5 (v5.alloc o) i1 j1 hm hf (Row.alloc S5.row o) (Row.alloc T5.row o) hT; rw [hP] at C2; refine (C2 _ ((hTV.below M5).alloc _)).mono ?_; rintro e v6 ⟨x6, c6, rfl, _, _, _, R6, L6⟩; have K6 := Base.next ((Below.refl v5.heap.size v5).alloc (Nat.le_refl _) _) L6; have B6 := (Blk.new v5 _ _).below L6 (by simp); have M6 := Base.next M5 K6; clear C2)
              | (go_at_call 14; refine (CG v6 (RC.below M6)).mono ?_; rintro e v7 ⟨x7, n7, c7, t7, m7, d7, rfl, ⟨k1, _, _, _, S7⟩, ⟨l1, _, _, _, T7⟩, L7⟩; have M7 := Base.next M6 L7; have B7 := B6.below L7 B6.lt; have hlt := B7.lt; obtain ⟨p0, p1, p2, p3, p4⟩ := blk5 B7; have K7 := Base.next K6 L7; clear CG B6 B7)
              | (go_at_call 15; refine (ref_same_ack D x5 t5 x7 t7 n5 c5 m5 d5 n7 c7 m7 d7 _ i1 k1 j1 l1 hlim.1 hlim.2 (Row.alloc (S5.row.below K7) _) (Row.alloc (T5.row.below K7) _) (Row.alloc S7.row _) (Row.alloc T7.row _)).mono ?_; rintro e v8 ⟨rfl, L8⟩; have K8 := Base.next ((Below.refl v7.heap.size v7).alloc (Nat.le_refl _) _) L8; have M8 := Base.next M7 K8; have s1 := str_of v8 x6 _ c6 Q rfl (R6.row.below (Base.next L7 K8)); have s2 := str_of v8 (some ⟨g, 0, none⟩) P.length cap Q HQ.out (RC.below M8)))
            all_goals go_roundw
            case rel => exact ⟨1 + 1, by omega, by go_num, M8⟩
            case measure => (simp [intOf]; try omega)
          · rw [hg] at C CG hlim
            dsimp only [AckPlain.zero] at C CG hlim
            clear hg
            go_wp2_with (first
              | (go_at_call 13; refine C.mono ?_; rintro e v5 ⟨x5, n5, c5, t5, m5, d5, rfl, ⟨i1, i2, i3, i4, S5⟩, ⟨j1, j2, j3, j4, T5⟩, L5⟩; have M5 := Base.next hL L5; clear C)
              | (go_at_call 9; refine (encode_bad ⟨[], [], 0, 0, false⟩ x5 t5 n5 c5 m5 d5 (v5.alloc _) i1 j1 (by unfold maxLen at i3; omega) (by unfold maxLen at j3; omega) Fits.nil Fits.nil (Spans.nil _ _) (Spans.nil _ _) zero_may).mono ?_; rintro e v6 ⟨rfl, L6⟩; have K6 := Base.next ((Below.refl v5.heap.size v5).alloc (Nat.le_refl _) _) L6; have B6 := (Blk.new v5 _ _).below L6 (by simp); have M6 := Base.next M5 K6)
              | (go_at_call 14; refine (CG v6 (RC.below M6)).mono ?_; rintro e v7 ⟨x7, n7, c7, t7, m7, d7, rfl, ⟨k1, _, _, _, S7⟩, ⟨l1, _, _, _, T7⟩, L7⟩; have M7 := Base.next M6 L7; have B7 := B6.below L7 B6.lt; have hlt := B7.lt; obtain ⟨p0, p1, p2, p3, p4⟩ := blk5 B7; have K7 := Base.next K6 L7; clear CG B6 B7)
              | (go_at_call 15; refine (ref_same_ack ⟨[], [], 0, 0, false⟩ x5 t5 x7 t7 n5 c5 m5 d5 n7 c7 m7 d7 _ i1 k1 j1 l1 (Nat.zero_le _) (Nat.zero_le _) (Spans.nil _ _) (Spans.nil _ _) (Spans.nil _ _) (Spans.nil _ _)).mono ?_; rintro e v8 ⟨rfl, L8⟩; have K8 := Base.next ((Below.refl v7.heap.size v7).alloc (Nat.le_refl _) _) L8; have M8 := Base.next M7 K8))
            all_goals go_roundw
            case rel => exact ⟨1 + 1, by omega, by go_num, M8⟩
            case measure => (simp [intOf]; try omega)
        · obtain rfl : j = 2 := by omega
          go_wp2
          go_ret
          exact ⟨rfl, Base.next M hL⟩

theorem of_laid' {W : World} (h : laidMetH Tryd.prog Rows.ackOneRow.laid W) : Tab.Tab W := Tab.of_laid_2 h
theorem door_met (os : Os) (args : Array Value) : laidMetH Tryd.prog Rows.ackOneRow.laid ((World.doorLaid Tryd.prog 19 os).forCall (fun _ _ => 0) ⟨#[], args, []⟩).memory :=
  laidMetH_of_parts3 (fuel := 8) (laidMet_of_run' 8 (by kernel_rfl) (by kernel_rfl)) (by kernel_rfl) (by kernel_rfl)
set_option maxRecDepth 100000 in
theorem lifted (os : Os) (started : os.Started) (H : Type) (enc : TypeId × Value → H) :
    ReturnsInHanded {} Tryd.checked os 6 .any (fun w args => (Rows.ackOneSpec.pre enc Tryd.prog Tryd.f6 [] false w args ∧ laidMetH Tryd.prog Rows.ackOneRow.laid w) ∧ sizedMet enc Tryd.prog Tryd.f6 (OpenSpec.ofChange Rows.ackOneSpec) false w args) (Rows.ackOneSpec.post enc Tryd.prog Tryd.f6 false true false false) := by
  refine returnsInHanded_of_change_and (C := Tryd.checked) (X := fun w _ => laidMetH Tryd.prog Rows.ackOneRow.laid w) (fun _ _ _ hh h => h.of_heap hh) own started (by kernel_rfl) Tryd.func6
    (ChangeSpec.witness_shaped (enc := enc) (C := Tryd.checked) (os := os) (X := fun w _ => laidMetH Tryd.prog Rows.ackOneRow.laid w) false (World.doorLaid Tryd.prog 19 os) #[.slice none 0 0, .slice none 0 0, .int .u64 0, .int .u16 0, .int .u8 0, .slice none 0 0] 8 rfl (World.shaped_of_RefB (by kernel_rfl) (by kernel_rfl)) (by kernel_rfl) (by kernel_rfl) (by kernel_rfl) (door_met os _)) ?_
  intro W base args ds gs before hval0 hW _ hsz0 hL _
  have hT := of_laid' hL
  have hval : ∀ (j : Nat) t v, Tryd.f6.params[j]? = some t → args[j]? = some v → Value.okWide Tryd.prog W .any base t v := hval0
  have hW' := hW
  obtain ⟨p, q, hA0, hV, rfl, hfz, hnd⟩ := hW
  have hA : DataW.TrodAll enc Tryd.prog W 0 (fun _ => true) true Tryd.f6.params.toList args.toList ds p := hA0
  rw [Tryd.params6] at hA hval
  obtain ⟨v0, vs0, d0, ds0, p0, q0, hargs, rfl, rfl, h0, r0⟩ := trodAll_cons hA
  obtain ⟨v1, vs1, d1, ds1, p1, q1, rfl, rfl, rfl, h1, r1⟩ := trodAll_cons r0
  obtain ⟨v2, vs2, d2, ds2, p2, q2, rfl, rfl, rfl, h2, r2⟩ := trodAll_cons r1
  obtain ⟨v3, vs3, d3, ds3, p3, q3, rfl, rfl, rfl, h3, r3⟩ := trodAll_cons r2
  obtain ⟨v4, vs4, d4, ds4, p4, q4, rfl, rfl, rfl, h4, r4⟩ := trodAll_cons r3
  obtain ⟨v5, vs5, d5, ds5, p5, q5, rfl, rfl, rfl, h5, r5⟩ := trodAll_cons r4
  obtain ⟨rfl, rfl, rfl⟩ := trodAll_nil r5
  obtain rfl : args = #[v0, v1, v2, v3, v4, v5] := by cases args; simp_all
  obtain ⟨rfl, rfl⟩ := trodVars_none hV
  have hsz : (DataW.weightsEach Tryd.prog [39, 39, 23, 40, 5, 27] [d0, d1, d2, d3, d4, d5]).all (· ≤ reachBytes) = true := hsz0
  obtain ⟨a0, len0, cap0, rfl⟩ := okWide_slice Tryd.underlying39 (hval 0 39 v0 rfl rfl)
  have k0 := h0
  have lt0 : ∀ x ∈ p0, x.block < W.heap.size := by obtain ⟨m, hm⟩ := k0; exact DataW.trod_lt m _ _ _ hm
  obtain ⟨z0, w0, n0, m0, o0, f0, b0, e0⟩ : ∃ zs, Ints .u16 W a0 zs ∧ zs.length = len0 ∧ len0 ≤ cap0 ∧ cap0 ≤ maxLen ∧ (∀ x ∈ zs, (Lit.int .u16 x).wf = true) ∧ cap0 * 2 ≤ 140737488351232 ∧ (a0 = none → len0 = 0 ∧ cap0 = 0) := by
    obtain ⟨fuel, hf⟩ := h0
    rcases open_ints Tryd.underlying39 Tryd.underlying40 (by kernel_rfl) hf with ⟨hcs, hx⟩ | ⟨x, l, c, zs, hcs, _, hl, hm, hz, hx, hcell, hwz⟩
    · simp [Value.cells] at hcs
      obtain ⟨rfl, rfl, rfl⟩ := hcs
      exact ⟨[], Row.nil _ _, rfl, Nat.le_refl _, Nat.zero_le _, (fun _ h => by cases h), by decide, fun _ => ⟨rfl, rfl⟩⟩
    · simp [Value.cells] at hcs
      obtain ⟨rfl, rfl, rfl⟩ := hcs
      exact ⟨zs.take len0, ints_of hl (by simpa using hz) hcell, take_len hl (by simpa using hz), hl, hm, (fun x hx => hwz x (List.mem_of_mem_take hx)), by
          have hd := congrArg Prod.fst hx
          dsimp only at hd
          have := sized_slice hsz (j := 0) (t := 39) (e := 40) (elems := lits .u16 (zs.take len0)) (spare := lits .u16 (zs.drop len0)) rfl (by rw [← hd]; rfl) Tryd.underlying39
          rw [show Tryd.prog.bytesOf 40 = 2 by kernel_rfl] at this
          simp only [lits, List.length_map, List.length_take, List.length_drop, reachBytes] at this
          have hz2 : zs.length = cap0 := (by simpa using hz)
          omega, fun e => by cases e⟩
  obtain ⟨a1, len1, cap1, rfl⟩ := okWide_slice Tryd.underlying39 (hval 1 39 v1 rfl rfl)
  have k1 := h1
  have lt1 : ∀ x ∈ p1, x.block < W.heap.size := by obtain ⟨m, hm⟩ := k1; exact DataW.trod_lt m _ _ _ hm
  obtain ⟨z1, w1, n1, m1, o1, f1, b1, e1⟩ : ∃ zs, Ints .u16 W a1 zs ∧ zs.length = len1 ∧ len1 ≤ cap1 ∧ cap1 ≤ maxLen ∧ (∀ x ∈ zs, (Lit.int .u16 x).wf = true) ∧ cap1 * 2 ≤ 140737488351232 ∧ (a1 = none → len1 = 0 ∧ cap1 = 0) := by
    obtain ⟨fuel, hf⟩ := h1
    rcases open_ints Tryd.underlying39 Tryd.underlying40 (by kernel_rfl) hf with ⟨hcs, hx⟩ | ⟨x, l, c, zs, hcs, _, hl, hm, hz, hx, hcell, hwz⟩
    · simp [Value.cells] at hcs
      obtain ⟨rfl, rfl, rfl⟩ := hcs
      exact ⟨[], Row.nil _ _, rfl, Nat.le_refl _, Nat.zero_le _, (fun _ h => by cases h), by decide, fun _ => ⟨rfl, rfl⟩⟩
    · simp [Value.cells] at hcs
      obtain ⟨rfl, rfl, rfl⟩ := hcs
      exact ⟨zs.take len1, ints_of hl (by simpa using hz) hcell, take_len hl (by simpa using hz), hl, hm, (fun x hx => hwz x (List.mem_of_mem_take hx)), by
          have hd := congrArg Prod.fst hx
          dsimp only at hd
          have := sized_slice hsz (j := 1) (t := 39) (e := 40) (elems := lits .u16 (zs.take len1)) (spare := lits .u16 (zs.drop len1)) rfl (by rw [← hd]; rfl) Tryd.underlying39
          rw [show Tryd.prog.bytesOf 40 = 2 by kernel_rfl] at this
          simp only [lits, List.length_map, List.length_take, List.length_drop, reachBytes] at this
          have hz2 : zs.length = cap1 := (by simpa using hz)
          omega, fun e => by cases e⟩
  obtain ⟨a2, rfl, rfl, rfl, w2⟩ := open_int Tryd.underlying23 (hval 2 23 v2 rfl rfl) h2
  obtain ⟨a3, rfl, rfl, rfl, w3⟩ := open_int Tryd.underlying40 (hval 3 40 v3 rfl rfl) h3
  obtain ⟨a4, rfl, rfl, rfl, w4⟩ := open_int Tryd.underlying5 (hval 4 5 v4 rfl rfl) h4
  obtain ⟨a5, len5, cap5, rfl⟩ := okWide_slice Tryd.underlying27 (hval 5 27 v5 rfl rfl)
  have k5 := h5
  have lt5 : ∀ x ∈ p5, x.block < W.heap.size := by obtain ⟨m, hm⟩ := k5; exact DataW.trod_lt m _ _ _ hm
  obtain ⟨z5, w5, n5, m5, o5, f5, b5, e5⟩ : ∃ zs, Ints .u8 W a5 zs ∧ zs.length = len5 ∧ len5 ≤ cap5 ∧ cap5 ≤ maxLen ∧ (∀ x ∈ zs, (Lit.int .u8 x).wf = true) ∧ cap5 * 1 ≤ 140737488351232 ∧ (a5 = none → len5 = 0 ∧ cap5 = 0) := by
    obtain ⟨fuel, hf⟩ := h5
    rcases open_ints Tryd.underlying27 Tryd.underlying5 (by kernel_rfl) hf with ⟨hcs, hx⟩ | ⟨x, l, c, zs, hcs, _, hl, hm, hz, hx, hcell, hwz⟩
    · simp [Value.cells] at hcs
      obtain ⟨rfl, rfl, rfl⟩ := hcs
      exact ⟨[], Row.nil _ _, rfl, Nat.le_refl _, Nat.zero_le _, (fun _ h => by cases h), by decide, fun _ => ⟨rfl, rfl⟩⟩
    · simp [Value.cells] at hcs
      obtain ⟨rfl, rfl, rfl⟩ := hcs
      exact ⟨zs.take len5, ints_of hl (by simpa using hz) hcell, take_len hl (by simpa using hz), hl, hm, (fun x hx => hwz x (List.mem_of_mem_take hx)), by
          have hd := congrArg Prod.fst hx
          dsimp only at hd
          have := sized_slice hsz (j := 5) (t := 27) (e := 5) (elems := lits .u8 (zs.take len5)) (spare := lits .u8 (zs.drop len5)) rfl (by rw [← hd]; rfl) Tryd.underlying27
          rw [show Tryd.prog.bytesOf 5 = 1 by kernel_rfl] at this
          simp only [lits, List.length_map, List.length_take, List.length_drop, reachBytes] at this
          have hz2 : zs.length = cap5 := (by simpa using hz)
          omega, fun e => by cases e⟩
  clear hA0 hval0
  refine (walk a0 len0 cap0 z0 a1 len1 cap1 z1 a2 a3 a4 a5 len5 cap5 z5 W w0 n0 m0 o0 f0 b0 e0 w1 n1 m1 o1 f1 b1 e1 w2 w3 w4 w5 n5 m5 o5 f5 b5 e5 hT).mono fun e W' ⟨he, bel⟩ => ?_
  subst he
  exact ⟨_, rfl, _, _, _, [], _, [], hW', trodAll_mk1 (shut_bool Tryd.underlying4 _), (trodAll_cons_mk (Below.trod laidOut (by kernel_rfl) (of_decide_eq_true (by kernel_rfl)) k0 bel lt0) (trodAll_cons_mk (Below.trod laidOut (by kernel_rfl) (of_decide_eq_true (by kernel_rfl)) k1 bel lt1) (trodAll_cons_mk (shut_int Tryd.underlying23 w2) (trodAll_cons_mk (shut_int Tryd.underlying40 w3) (trodAll_cons_mk (shut_int Tryd.underlying5 w4) (trodAll_cons_mk (Below.trod laidOut (by kernel_rfl) (of_decide_eq_true (by kernel_rfl)) k5 bel lt5) trodAll_mk0)))))), rfl, bel.frame _, fun h => by cases h⟩

theorem over : Rows.ackOneRow.holds Tryd.pinned (OpenSpec.ofChange Rows.ackOneSpec) :=
  OpenClaim.holds_of_wide 6 Tryd.f6 rfl rfl rfl rfl rfl rfl rfl ⟨rfl, rfl, rfl, rfl, rfl⟩ rfl rfl rfl rfl rfl (by kernel_rfl) Tryd.func6 (by kernel_rfl)
    (of_decide_eq_true (by kernel_rfl)) (by unfold Func.isWrapper; first | (rw [if_pos (by decide +kernel)]; kernel_rfl) | (rw [if_neg (by decide +kernel)]; exact ⟨rfl, rfl⟩))
    (fun os started H enc _ => lifted os started H enc)

/-- The given statement: the row, its listed variables tied to the program's text. -/
theorem proved : Rows.AckOneCardSaid :=
  Claim7.holds_tied_plain_at .later [] [.data, .data] true (true, "3029f8fbe8449d87556f27ae5c2055b3a3d564e05ae1a39ffa06a42cecf980f6") false
    over (fun _ h => by cases h) (by kernel_rfl) (fun _ h => by cases h) ackOne_row_tie rfl ⟨rfl, rfl⟩ (by kernel_rfl) rfl
    (fun f fn hf hfn => by
      obtain rfl : f = 6 := Option.some.inj ((show Tryd.prog.funcNamed "splittally/splittallylaw9.AckOne" = some 6 by kernel_rfl).symm.trans hf) |>.symm
      obtain rfl : fn = Tryd.f6 := (Option.some.inj (Tryd.func6.symm.trans hfn)).symm
      exact ⟨by kernel_rfl, fun j t ht => by
        rw [Tryd.params6] at ht
        have hm : t ∈ [39, 39, 23, 40, 5, 27] := by simpa using Array.mem_of_getElem? ht
        have hall : ([39, 39, 23, 40, 5, 27].all fun u => !Tryd.prog.wantsStandIn u) = true := by kernel_rfl
        exact (show Tryd.prog.wantsStandIn t = false by simpa using List.all_eq_true.1 hall t hm)⟩)
    (by kernel_rfl)
#print axioms proved
end Go.Proofs.YtangljeceohdpaaDoor.ackOne
