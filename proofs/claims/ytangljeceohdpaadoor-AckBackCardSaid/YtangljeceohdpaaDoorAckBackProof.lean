/-
  An acknowledgment that may be is decoded as it was encoded, a beginning of its bytes is none, and what has a byte more behind it neither. No conditions beside the table of math/bits, which the card ties to the program's text.
-/
import Derived.SizedLaws
import Derived.Test.YtangljeceohdpaaDoorTab
import Derived.Test.YtangljeceohdpaaDoorCards
import Derived.Test.YtangljeceohdpaaDoorTie
import Derived.SevenTiedAt
import Derived.Handed
import Derived.Test.YtangljeceohdpaaDoorRows
import Derived.Test.YtangljeceohdpaaDoorRow
import Derived.WalkKit
import Derived.ProofKit
import Derived.OpenShut
import Derived.ShutString
import Derived.ChangeOld
import Derived.Below
import Derived.Test.YtangljeceohdpaaDoorAckAlive
import Derived.Test.YtangljeceohdpaaDoorAckLaw0
namespace Go.Proofs.YtangljeceohdpaaDoor.ackBack
open Go.ChangeShapes Go.WideShapes Go.ChangeAt Go.RowKit
open Go.ChangeMaps (open_string shut_string)
open Go.Proofs.YtangljeceohdpaaDoor.Base
set_option linter.unusedVariables false

theorem own : ownKnob Tryd.prog.godebug = none := by kernel_rfl
theorem laidOut : laidOutB Tryd.prog = true := by kernel_rfl

open Go.Proofs.YtangljeceohdpaaDoor.Ack Go.Proofs.YtangljeceohdpaaDoor.Oct Go.Proofs.YtangljeceohdpaaDoor.OctPlain Go.Proofs.YtangljeceohdpaaDoor.SpanPlain Go.Proofs.YtangljeceohdpaaDoor.Tab
open Go.Proofs.YtangljeceohdpaaDoor.AckPlain (K getAck putAck Fit)
theorem back_facts {x : K} (hm : AckPlain.may x = true) (hf : Fit x) {y : Int} (hy : 0 ≤ y ∧ y ≤ 255) : ∃ (P : List Int) (k : Nat), putAck x = P ∧ P.length = k ∧ 1 ≤ k ∧ k ≤ 2000 ∧ Bytes P ∧ getAck P = (x, 0) ∧ (∀ t, t < k → getAck (P.take t) = (AckPlain.zero, 2)) ∧ getAck (P ++ [y]) = (AckPlain.zero, 3) ∧ x.spans.length ≤ 32 ∧ x.marked.length ≤ 32 := by
  obtain ⟨m1, m2, m3, m4, m5, m6⟩ := AckPlain.may_iff.1 hm
  refine ⟨putAck x, (putAck x).length, rfl, rfl, by unfold putAck; simp, ?_, AckPlain.put_ack_bytes hm, ?_, fun t ht => AckPlain.get_cut hm hf ht, ?_, by omega, by omega⟩
  · have := AckPlain.put_ack_len x
    omega
  · have := AckPlain.get_put hm hf []
    simpa using this
  · have := AckPlain.get_put hm hf [y]
    simpa using this
theorem mod_facts {a : Int} {k : Nat} (h0 : 0 ≤ a) (hk : 1 ≤ k) : ∃ t : Nat, a.tmod (k : Int) = t ∧ t < k := by
  have h1 := Int.emod_nonneg a (show (k : Int) ≠ 0 by omega)
  have h2 := Int.emod_lt_of_pos a (show (0 : Int) < k by omega)
  exact ⟨(a % (k : Int)).toNat, by rw [Int.tmod_eq_emod_of_nonneg h0]; omega, by omega⟩
set_option maxRecDepth 100000 in
set_option maxHeartbeats 2000000 in
theorem walk (a0 : Option Addr) (len0 cap0 : Nat) (z0 : List Int) (a1 : Option Addr) (len1 cap1 : Nat) (z1 : List Int) (a2 : Int) (a3 : Int) (a4 : Bool) (a5 : Int) (a6 : Int)  (w : World) (w0 : Ints .u16 w a0 z0) (n0 : z0.length = len0) (m0 : len0 ≤ cap0) (o0 : cap0 ≤ maxLen) (f0 : ∀ x ∈ z0, (Lit.int .u16 x).wf = true) (b0 : cap0 * 2 ≤ 140737488351232) (e0 : a0 = none → len0 = 0 ∧ cap0 = 0) (w1 : Ints .u16 w a1 z1) (n1 : z1.length = len1) (m1 : len1 ≤ cap1) (o1 : cap1 ≤ maxLen) (f1 : ∀ x ∈ z1, (Lit.int .u16 x).wf = true) (b1 : cap1 * 2 ≤ 140737488351232) (e1 : a1 = none → len1 = 0 ∧ cap1 = 0) (w2 : (Lit.int .u64 a2).wf = true) (w3 : (Lit.int .u64 a3).wf = true) (w5 : (Lit.int .u16 a5).wf = true) (w6 : (Lit.int .u8 a6).wf = true) (hT : Tab.Tab w) :
    Calls Tryd.prog 5 #[.slice a0 len0 cap0, .slice a1 len1 cap1, .int .u64 a2, .int .u64 a3, .bool a4, .int .u16 a5, .int .u8 a6] w fun e w' => e = .returned (.bool true) ∧ Below w.heap.size w w' := by
  obtain ⟨i0, hi0, hz0, hz1, hz2⟩ := info_parts Oct.info
  have u2 := Base.u64_of w2
  have u3 := Base.u64_of w3
  obtain ⟨q50, q51⟩ := Base.u16_of w5
  obtain ⟨q60, q61⟩ := Base.u8_of w6
  have CD := ack_any a0 a1 len0 cap0 len1 cap1 z0 z1 a2 a3 a4 w n0 n1 (by omega) (by omega) f0 f1 u2.1 u2.2 u3.1 u3.2 w0 w1
  clear u2 u3 w2 w3 w5 w6 f0 f1 n0 n1 e0 e1
  have hlen0 : (len0 : Int) ≤ 140737488355328 := by omega
  have hlen1 : (len1 : Int) ≤ 140737488355328 := by omega
  clear b0 b1 m0 m1 o0 o1
  go_enter Tryd.func5, Tryd.ntmps5
  go_wp2_with (first
    | (go_at_call 16; refine CD.mono ?_; rintro e v1 ⟨L1, rfl | ⟨x, s, n, c, t, m, d, rfl, hm, hf, ⟨hn, hs1, hs2, hs3, S1⟩, ⟨hmm, ht1, ht2, ht3, T1⟩⟩⟩ <;> clear CD)
    | (go_at_call 8; refine (alive_ack (v1.alloc _) ((hT.below L1).alloc _)).mono ?_; rintro e v2 ⟨rfl, L2⟩; have B2 := (Blk.new v1 _ _).below L2 (by simp); have N2 := Base.next ((Below.refl v1.heap.size v1).alloc (Nat.le_refl _) _) L2; have M2 := Base.next L1 N2; obtain ⟨p0, p1, p2, p3, p4⟩ := blk5 B2; clear L2)
    | (go_at_call 8; refine (alive_ack v2 (hT.below M2)).mono ?_; rintro e v3 ⟨rfl, L3⟩; have MZ := Base.next M2 L3)
    | (go_at_call 9; obtain ⟨P, k, hP, hk, hk1, hk2, hb, hg, hcut, hmore, hx1, hx2⟩ := back_facts hm hf (y := a6) ⟨q60, q61⟩; have C2 := encode_any x s t n c m d v2 hn hmm hm hf (S1.row.below N2) (T1.row.below N2) (hT.below M2); rw [hP, hk] at C2; refine C2.mono ?_; rintro e v3 ⟨a2', c2, rfl, h1, h2, h3, R3, L3⟩; clear C2 hP hm hf p0 p1 p2 p3 p4; obtain ⟨tt, ht, htk⟩ := mod_facts (a := a5) q50 hk1; have htk' : (tt : Int) < (k : Int) := (by omega); have hk1' : (1 : Int) ≤ (k : Int) := (by omega); have hk2' : (k : Int) ≤ 2000 := (by omega); have B3 := B2.below L3 B2.lt; have N3 := Base.next N2 L3; have M3 := Base.next L1 N3; clear B2 N2 M2 L3)
    | (go_at_call 13; have C := decode_any a2' k c2 P v3 hk h1 (by omega) h3 hb R3.row; unfold AckPost at C; rw [hg] at C; refine C.mono ?_; rintro e v4 ⟨s', n', c', t', m', d', rfl, ⟨i1, _, _, _, S4⟩, ⟨j1, _, _, _, T4⟩, L4⟩; clear C; have B4 := B3.below L4 B3.lt; have N4 := Base.next N3 L4; have R4 := R3.row.below L4; clear B3 R3 L4 N3 M3 hg)
    | (go_at_call 13; have C := fun o => decode_any a2' tt c2 (P.take tt) (v4.alloc o) (by rw [List.length_take]; omega) (by omega) (by omega) (fun e => by have := h3 e; omega) (hb.take tt) (Row.alloc (show Row v4 a2' ((P.take tt).map (Value.int .u8)) by rw [List.map_take]; exact R4.take tt) o); unfold AckPost at C; rw [hcut tt htk] at C; refine (C _).mono ?_; rintro e v5 ⟨s5, n5', c5, t5, m5', d5, rfl, ⟨_, _⟩, ⟨_, _⟩, L5⟩; clear C; have K5 := Base.next ((Below.refl v4.heap.size v4).alloc (Nat.le_refl _) _) L5; have B5 := B4.below K5 B4.lt; have X5 := (Blk.new v4 _ _).below L5 (by simp); have N5 := Base.next N4 K5; have R5 := R4.below K5; have S5 := S4.row.below K5; have T5 := T4.row.below K5; clear B4 R4 L5 S4 T4 K5 N4 hcut)
    | (at_builtin; refine wpl_append_row _ rfl _ (.tmp 80) _ rfl v5.heap.size 5 i0 _ 1 1 Tryd.underlying27 hi0 hz0 hz1 hz2 rfl (by omega) (.slice none 0 0) 0 [] rfl (World.ownsRow_nil _ _ _ _) a2' k c2 (P.map (Value.int .u8)) rfl (by simp [hk]) (Row.alloc R5 _) (ints_oneCell _ _) (by unfold maxLen; omega) (by omega) (by simp) ?_; intro u6 v6 hown6 hg6 hat6; have L6 : Below v5.heap.size v5 v6 := ((Below.refl v5.heap.size v5).alloc (Nat.le_refl _) _).grown hg6 (by simp) (by simp [Value.ownBlock]); clear hg6)
    | (at_builtin; refine wpl_append_row _ rfl (.tmp 81) (.tmp 83) _ rfl v5.heap.size 5 i0 _ 1 1 Tryd.underlying27 hi0 hz0 hz1 hz2 rfl (by omega) u6 (0 + k) ([] ++ P.map (Value.int .u8)) rfl (hown6.alloc _) (some ⟨v6.heap.size, 0, none⟩) 1 1 [.int .u8 a6] rfl rfl (Row.lit v6 _ [.int .u8 a6]) (by simp [Value.oneCell']) (by unfold maxLen; omega) (by omega) (by have := L6.size; simp; omega) ?_; intro u7 v7 hown7 hg7 hat7; have L7 : Below v5.heap.size v5 v7 := (L6.alloc L6.size _).grown hg7 (by have := L6.size; simp; omega) (own_new (B := v5.heap.size) hat6 (by simp) (by simp [Value.ownBlock])); clear hg7 hown6 L6 hat6; obtain ⟨a7, c7, rfl, g1, g2, g3, R7⟩ := rowIn_of_own Nat.one_pos hown7; clear hown7)
    | (go_at_call 13; have C := decode_any a7 (k + 1) c7 (P ++ [a6]) v7 (by rw [List.length_append, hk]; rfl) (by omega) (by omega) (fun e => by have := g3 e; omega) (hb.append (Bytes.cons ⟨q60, q61⟩ Bytes.nil)) (.of R7.row (by simp)); unfold AckPost at C; rw [hmore] at C; (with_reducible refine C.mono ?_); rintro e v8 ⟨s8, n8, c8, t8, m8, d8, rfl, ⟨_, _⟩, ⟨_, _⟩, L8⟩; clear C; have K8 := Base.next0 L7 L7.size L8; have B8 := B5.below K8 B5.lt; have X8 := X5.below K8 X5.lt; have N8 := Base.next N5 K8; have S8 := S5.below K8; have T8 := T5.below K8; obtain ⟨p0, p1, p2, p3, p4⟩ := blk5 B8; obtain ⟨r0, r1, r2, r3, r4⟩ := blk5 X8; have hB8 := B8.lt; have hX8 := X8.lt; clear B5 X5 R7 L7 L8 K8 B8 X8 hmore S5 T5)
    | (go_at_call 15; refine (ref_same_ack x s t s' t' n c m d n' c' m' d' _ hn i1 hmm j1 (by omega) (by omega) (Row.alloc (S1.row.below N8) _) (Row.alloc (T1.row.below N8) _) (Row.alloc S8 _) (Row.alloc T8 _)).mono ?_; rintro e v9 ⟨rfl, L9⟩; have M9 := Base.next (Base.next L1 N8) (Base.next ((Below.refl v8.heap.size v8).alloc (Nat.le_refl _) _) L9)))
  all_goals go_ret
  all_goals first
    | exact ⟨rfl, MZ⟩
    | exact ⟨by simp, M9⟩

theorem of_laid' {W : World} (h : laidMetH Tryd.prog Rows.ackBackRow.laid W) : Tab.Tab W := Tab.of_laid_2 h
theorem door_met (os : Os) (args : Array Value) : laidMetH Tryd.prog Rows.ackBackRow.laid ((World.doorLaid Tryd.prog 19 os).forCall (fun _ _ => 0) ⟨#[], args, []⟩).memory :=
  laidMetH_of_parts3 (fuel := 8) (laidMet_of_run' 8 (by kernel_rfl) (by kernel_rfl)) (by kernel_rfl) (by kernel_rfl)
set_option maxRecDepth 100000 in
theorem lifted (os : Os) (started : os.Started) (H : Type) (enc : TypeId × Value → H) :
    ReturnsInHanded {} Tryd.checked os 5 .any (fun w args => (Rows.ackBackSpec.pre enc Tryd.prog Tryd.f5 [] false w args ∧ laidMetH Tryd.prog Rows.ackBackRow.laid w) ∧ sizedMet enc Tryd.prog Tryd.f5 (OpenSpec.ofChange Rows.ackBackSpec) false w args) (Rows.ackBackSpec.post enc Tryd.prog Tryd.f5 false true false false) := by
  refine returnsInHanded_of_change_and (C := Tryd.checked) (X := fun w _ => laidMetH Tryd.prog Rows.ackBackRow.laid w) (fun _ _ _ hh h => h.of_heap hh) own started (by kernel_rfl) Tryd.func5
    (ChangeSpec.witness_shaped (enc := enc) (C := Tryd.checked) (os := os) (X := fun w _ => laidMetH Tryd.prog Rows.ackBackRow.laid w) false (World.doorLaid Tryd.prog 19 os) #[.slice none 0 0, .slice none 0 0, .int .u64 0, .int .u64 0, .bool false, .int .u16 0, .int .u8 0] 8 rfl (World.shaped_of_RefB (by kernel_rfl) (by kernel_rfl)) (by kernel_rfl) (by kernel_rfl) (by kernel_rfl) (door_met os _)) ?_
  intro W base args ds gs before hval0 hW _ hsz0 hL _
  have hT := of_laid' hL
  have hval : ∀ (j : Nat) t v, Tryd.f5.params[j]? = some t → args[j]? = some v → Value.okWide Tryd.prog W .any base t v := hval0
  have hW' := hW
  obtain ⟨p, q, hA0, hV, rfl, hfz, hnd⟩ := hW
  have hA : DataW.TrodAll enc Tryd.prog W 0 (fun _ => true) true Tryd.f5.params.toList args.toList ds p := hA0
  rw [Tryd.params5] at hA hval
  obtain ⟨v0, vs0, d0, ds0, p0, q0, hargs, rfl, rfl, h0, r0⟩ := trodAll_cons hA
  obtain ⟨v1, vs1, d1, ds1, p1, q1, rfl, rfl, rfl, h1, r1⟩ := trodAll_cons r0
  obtain ⟨v2, vs2, d2, ds2, p2, q2, rfl, rfl, rfl, h2, r2⟩ := trodAll_cons r1
  obtain ⟨v3, vs3, d3, ds3, p3, q3, rfl, rfl, rfl, h3, r3⟩ := trodAll_cons r2
  obtain ⟨v4, vs4, d4, ds4, p4, q4, rfl, rfl, rfl, h4, r4⟩ := trodAll_cons r3
  obtain ⟨v5, vs5, d5, ds5, p5, q5, rfl, rfl, rfl, h5, r5⟩ := trodAll_cons r4
  obtain ⟨v6, vs6, d6, ds6, p6, q6, rfl, rfl, rfl, h6, r6⟩ := trodAll_cons r5
  obtain ⟨rfl, rfl, rfl⟩ := trodAll_nil r6
  obtain rfl : args = #[v0, v1, v2, v3, v4, v5, v6] := by cases args; simp_all
  obtain ⟨rfl, rfl⟩ := trodVars_none hV
  have hsz : (DataW.weightsEach Tryd.prog [39, 39, 23, 23, 4, 40, 5] [d0, d1, d2, d3, d4, d5, d6]).all (· ≤ reachBytes) = true := hsz0
  obtain ⟨a0, len0, cap0, rfl⟩ := okWide_slice Tryd.underlying39 (hval 0 39 v0 rfl rfl)
  have k0 := h0
  have lt0 : ∀ x ∈ p0, x.block < W.heap.size := by obtain ⟨m, hm⟩ := k0; exact DataW.trod_lt m _ _ _ hm
  obtain ⟨z0, w0, n0, m0, o0, f0, b0, e0⟩ : ∃ zs, Ints .u16 W a0 zs ∧ zs.length = len0 ∧ len0 ≤ cap0 ∧ cap0 ≤ maxLen ∧ (∀ x ∈ zs, (Lit.int .u16 x).wf = true) ∧ cap0 * 2 ≤ 140737488351232 ∧ (a0 = none → len0 = 0 ∧ cap0 = 0) := by
    obtain ⟨fuel, hf⟩ := h0
    rcases open_ints Tryd.underlying39 Tryd.underlying40 (by kernel_rfl) hf with ⟨hcs, hx⟩ | ⟨x, l, c, zs, hcs, _, hl, hm, hz, hx, hcell, hwz⟩
    · simp [Value.cells] at hcs
      obtain ⟨rfl, rfl, rfl⟩ := hcs
      exact ⟨[], Row.nil _ _, rfl, Nat.le_refl _, Nat.zero_le _, (fun _ h => by cases h), by decide, fun _ => ⟨rfl, rfl⟩⟩
    · simp [Value.cells] at hcs
      obtain ⟨rfl, rfl, rfl⟩ := hcs
      exact ⟨zs.take len0, ints_of hl (by simpa using hz) hcell, take_len hl (by simpa using hz), hl, hm, (fun x hx => hwz x (List.mem_of_mem_take hx)), by
          have hd := congrArg Prod.fst hx
          dsimp only at hd
          have := sized_slice hsz (j := 0) (t := 39) (e := 40) (elems := lits .u16 (zs.take len0)) (spare := lits .u16 (zs.drop len0)) rfl (by rw [← hd]; rfl) Tryd.underlying39
          rw [show Tryd.prog.bytesOf 40 = 2 by kernel_rfl] at this
          simp only [lits, List.length_map, List.length_take, List.length_drop, reachBytes] at this
          have hz2 : zs.length = cap0 := (by simpa using hz)
          omega, fun e => by cases e⟩
  obtain ⟨a1, len1, cap1, rfl⟩ := okWide_slice Tryd.underlying39 (hval 1 39 v1 rfl rfl)
  have k1 := h1
  have lt1 : ∀ x ∈ p1, x.block < W.heap.size := by obtain ⟨m, hm⟩ := k1; exact DataW.trod_lt m _ _ _ hm
  obtain ⟨z1, w1, n1, m1, o1, f1, b1, e1⟩ : ∃ zs, Ints .u16 W a1 zs ∧ zs.length = len1 ∧ len1 ≤ cap1 ∧ cap1 ≤ maxLen ∧ (∀ x ∈ zs, (Lit.int .u16 x).wf = true) ∧ cap1 * 2 ≤ 140737488351232 ∧ (a1 = none → len1 = 0 ∧ cap1 = 0) := by
    obtain ⟨fuel, hf⟩ := h1
    rcases open_ints Tryd.underlying39 Tryd.underlying40 (by kernel_rfl) hf with ⟨hcs, hx⟩ | ⟨x, l, c, zs, hcs, _, hl, hm, hz, hx, hcell, hwz⟩
    · simp [Value.cells] at hcs
      obtain ⟨rfl, rfl, rfl⟩ := hcs
      exact ⟨[], Row.nil _ _, rfl, Nat.le_refl _, Nat.zero_le _, (fun _ h => by cases h), by decide, fun _ => ⟨rfl, rfl⟩⟩
    · simp [Value.cells] at hcs
      obtain ⟨rfl, rfl, rfl⟩ := hcs
      exact ⟨zs.take len1, ints_of hl (by simpa using hz) hcell, take_len hl (by simpa using hz), hl, hm, (fun x hx => hwz x (List.mem_of_mem_take hx)), by
          have hd := congrArg Prod.fst hx
          dsimp only at hd
          have := sized_slice hsz (j := 1) (t := 39) (e := 40) (elems := lits .u16 (zs.take len1)) (spare := lits .u16 (zs.drop len1)) rfl (by rw [← hd]; rfl) Tryd.underlying39
          rw [show Tryd.prog.bytesOf 40 = 2 by kernel_rfl] at this
          simp only [lits, List.length_map, List.length_take, List.length_drop, reachBytes] at this
          have hz2 : zs.length = cap1 := (by simpa using hz)
          omega, fun e => by cases e⟩
  obtain ⟨a2, rfl, rfl, rfl, w2⟩ := open_int Tryd.underlying23 (hval 2 23 v2 rfl rfl) h2
  obtain ⟨a3, rfl, rfl, rfl, w3⟩ := open_int Tryd.underlying23 (hval 3 23 v3 rfl rfl) h3
  obtain ⟨a4, rfl, rfl, rfl⟩ := open_bool Tryd.underlying4 (hval 4 4 v4 rfl rfl) h4
  obtain ⟨a5, rfl, rfl, rfl, w5⟩ := open_int Tryd.underlying40 (hval 5 40 v5 rfl rfl) h5
  obtain ⟨a6, rfl, rfl, rfl, w6⟩ := open_int Tryd.underlying5 (hval 6 5 v6 rfl rfl) h6
  clear hA0 hval0
  refine (walk a0 len0 cap0 z0 a1 len1 cap1 z1 a2 a3 a4 a5 a6 W w0 n0 m0 o0 f0 b0 e0 w1 n1 m1 o1 f1 b1 e1 w2 w3 w5 w6 hT).mono fun e W' ⟨he, bel⟩ => ?_
  subst he
  exact ⟨_, rfl, _, _, _, [], _, [], hW', trodAll_mk1 (shut_bool Tryd.underlying4 _), (trodAll_cons_mk (Below.trod laidOut (by kernel_rfl) (of_decide_eq_true (by kernel_rfl)) k0 bel lt0) (trodAll_cons_mk (Below.trod laidOut (by kernel_rfl) (of_decide_eq_true (by kernel_rfl)) k1 bel lt1) (trodAll_cons_mk (shut_int Tryd.underlying23 w2) (trodAll_cons_mk (shut_int Tryd.underlying23 w3) (trodAll_cons_mk (shut_bool Tryd.underlying4 _) (trodAll_cons_mk (shut_int Tryd.underlying40 w5) (trodAll_cons_mk (shut_int Tryd.underlying5 w6) trodAll_mk0))))))), rfl, bel.frame _, fun h => by cases h⟩

theorem over : Rows.ackBackRow.holds Tryd.pinned (OpenSpec.ofChange Rows.ackBackSpec) :=
  OpenClaim.holds_of_wide 5 Tryd.f5 rfl rfl rfl rfl rfl rfl rfl ⟨rfl, rfl, rfl, rfl, rfl⟩ rfl rfl rfl rfl rfl (by kernel_rfl) Tryd.func5 (by kernel_rfl)
    (of_decide_eq_true (by kernel_rfl)) (by unfold Func.isWrapper; first | (rw [if_pos (by decide +kernel)]; kernel_rfl) | (rw [if_neg (by decide +kernel)]; exact ⟨rfl, rfl⟩))
    (fun os started H enc _ => lifted os started H enc)

/-- The given statement: the row, its listed variables tied to the program's text. -/
theorem proved : Rows.AckBackCardSaid :=
  Claim7.holds_tied_plain_at .later [] [.data, .data] true (true, "3029f8fbe8449d87556f27ae5c2055b3a3d564e05ae1a39ffa06a42cecf980f6") false
    over (fun _ h => by cases h) (by kernel_rfl) (fun _ h => by cases h) ackBack_row_tie rfl ⟨rfl, rfl⟩ (by kernel_rfl) rfl
    (fun f fn hf hfn => by
      obtain rfl : f = 5 := Option.some.inj ((show Tryd.prog.funcNamed "splittally/splittallylaw9.AckBack" = some 5 by kernel_rfl).symm.trans hf) |>.symm
      obtain rfl : fn = Tryd.f5 := (Option.some.inj (Tryd.func5.symm.trans hfn)).symm
      exact ⟨by kernel_rfl, fun j t ht => by
        rw [Tryd.params5] at ht
        have hm : t ∈ [39, 39, 23, 23, 4, 40, 5] := by simpa using Array.mem_of_getElem? ht
        have hall : ([39, 39, 23, 23, 4, 40, 5].all fun u => !Tryd.prog.wantsStandIn u) = true := by kernel_rfl
        exact (show Tryd.prog.wantsStandIn t = false by simpa using List.all_eq_true.1 hall t hm)⟩)
    (by kernel_rfl)
#print axioms proved
end Go.Proofs.YtangljeceohdpaaDoor.ackBack
