/-
  The packets that the laws are made of.
-/
import Derived.Test.YtbdafmomjboaaaaDoorHead5
namespace Go.Proofs.YtbdafmomjboaaaaDoor.Head
set_option linter.unusedVariables false
open Go.ChangeShapes Go.WideShapes Go.ChangeAt Go.RowKit
open Go.Proofs.YtbdafmomjboaaaaDoor.Base Go.Proofs.YtbdafmomjboaaaaDoor.OctPlain Go.Proofs.YtbdafmomjboaaaaDoor.Tab Go.Proofs.YtbdafmomjboaaaaDoor.Oct Go.Proofs.YtbdafmomjboaaaaDoor.HeadPlain

def bodyL (n : Int) (m : Nat) : List Int := (List.range m).map fun (i : Nat) => (n + 7 * (i : Int)) % 256
theorem bodyL_len (n : Int) (m : Nat) : (bodyL n m).length = m := by simp [bodyL]
theorem bodyL_bytes (n : Int) (m : Nat) : Bytes (bodyL n m) := by
  intro x hx
  simp [bodyL] at hx
  obtain ⟨i, _, rfl⟩ := hx
  omega
def rowL (n : Int) (m j : Nat) : List Int := (bodyL n m).take j ++ List.replicate (m - j) 0
theorem rowL_zero (n : Int) (m : Nat) : rowL n m 0 = List.replicate m 0 := by simp [rowL]
theorem rowL_full (n : Int) (m : Nat) : rowL n m m = bodyL n m := by simp [rowL, List.take_of_length_le, bodyL_len]
theorem rowL_len {n : Int} {m j : Nat} (h : j ≤ m) : (rowL n m j).length = m := by simp [rowL, bodyL_len]; omega
theorem rowL_set {n : Int} {m j : Nat} (h : j < m) : (rowL n m j).set j ((n + 7 * (j : Int)) % 256) = rowL n m (j + 1) := by
  have hg : (bodyL n m)[j]? = some ((n + 7 * (j : Int)) % 256) := by simp [bodyL, h]
  unfold rowL
  rw [List.take_add_one, hg, List.set_append_right _ _ (by simp [bodyL_len]; omega)]
  have hl : ((bodyL n m).take j).length = j := by simp [bodyL_len]; omega
  obtain ⟨q, hq⟩ : ∃ q, m - j = q + 1 := ⟨m - j - 1, by omega⟩
  rw [hl, Nat.sub_self, hq, show m - (j + 1) = q by omega, List.replicate_succ]
  simp
theorem rowL_put {n : Int} {m j : Nat} (h : j < m) (f : Int → Value) : ((rowL n m j).map f).toArray.setIfInBounds j (f ((n + 7 * (j : Int)) % 256)) = ((rowL n m (j + 1)).map f).toArray := by
  rw [← rowL_set h]
  simp [List.map_set]
/-- What Data comes to: a packet that may be. -/
def DataPost (w : World) : Ending → World → Prop := fun e w' => ∃ (d : D) (b m : Nat), e = .returned (.agg #[.int .u64 d.pn, .int .u64 d.least, .int .u64 d.off, .int .u64 d.nonce, .int .i64 d.ecn, .slice (some ⟨b, 0, none⟩) m m]) ∧
  may d = true ∧ Fit d ∧ d.body.length = m ∧ RowIn (fun k => w.heap.size ≤ k) w' (some ⟨b, 0, none⟩) (d.body.map (.int .u8)) ∧ Below w.heap.size w w'
set_option maxHeartbeats 1000000 in
theorem data_any (pn off nonce n coin : Int) (w : World) (p0 : 0 ≤ pn) (p1 : pn ≤ 18446744073709551615) (q0 : 0 ≤ off) (q1 : off ≤ 18446744073709551615) (c0 : 0 ≤ nonce) (c1 : nonce ≤ 18446744073709551615) (n0 : 0 ≤ n) (n1 : n ≤ 65535)
    (k0 : -9223372036854775808 ≤ coin) (k1 : coin ≤ 9223372036854775807) :
    Calls Tryd.prog 17 #[.int .u64 pn, .int .u64 off, .int .u64 nonce, .int .u16 n, .int .i64 coin] w (DataPost w) := by
  obtain ⟨m0, hm0⟩ : ∃ m0 : Nat, n.tmod 200 = (m0 : Int) := ⟨(n.tmod 200).toNat, by rw [Int.tmod_eq_emod_of_nonneg n0]; omega⟩
  have hm1 : m0 < 200 := by rw [Int.tmod_eq_emod_of_nonneg n0] at hm0; omega
  have hmk := run_make_row' (P := Tryd.prog) 23 5 (.int .u8 0) 1 Tryd.underlying23 Oct.info rfl .i64 .i64 (1 + m0) (by omega) (by omega)
  rw [show ((1 + m0 : Nat) : Int) = 1 + (m0 : Int) by omega] at hmk
  go_enter Tryd.func17, Tryd.ntmps17
  go_wp2
  have hz : (madeCells #[Value.int .u8 0] (1 + m0)) = ((rowL n (1 + m0) 0).map (Value.int .u8)).toArray := by
    rw [rowL_zero]
    exact Array.ext (by simp [madeCells]) (fun i h1 h2 => by simp [madeCells, Nat.mod_one])
  rw [hz]
  have hB0 := Blk.new (w.alloc (.cells #[.int .u64 0, .int .u64 0, .int .u64 0, .int .u64 0, .int .i64 0, .slice none 0 0] 25)) ((rowL n (1 + m0) 0).map (Value.int .u8)).toArray 5
  rw [World.size_alloc] at hB0
  have hR0 := (Blk.new w #[.int .u64 0, .int .u64 0, .int .u64 0, .int .u64 0, .int .i64 0, .slice none 0 0] 25).alloc (.cells ((rowL n (1 + m0) 0).map (Value.int .u8)).toArray 5)
  have hL0 : Below w.heap.size w ((w.alloc (.cells #[.int .u64 0, .int .u64 0, .int .u64 0, .int .u64 0, .int .i64 0, .slice none 0 0] 25)).alloc (.cells ((rowL n (1 + m0) 0).map (Value.int .u8)).toArray 5)) := ((Below.refl _ _).alloc (Nat.le_refl _) _).alloc (by simp) _
  generalize (w.alloc (.cells #[.int .u64 0, .int .u64 0, .int .u64 0, .int .u64 0, .int .i64 0, .slice none 0 0] 25)).alloc (.cells ((rowL n (1 + m0) 0).map (Value.int .u8)).toArray 5) = W at hB0 hR0 hL0 ⊢
  clear hz hmk
  go_loopw [20] (fun i wr => ∃ j : Nat, j ≤ 1 + m0 ∧ i = .int .i64 j ∧ Blk wr (w.heap.size + 1) ((rowL n (1 + m0) j).map (Value.int .u8)).toArray 5 ∧ Blk wr w.heap.size #[.int .u64 0, .int .u64 0, .int .u64 0, .int .u64 0, .int .i64 0, .slice none 0 0] 25 ∧ Below w.heap.size w wr) (fun i _ => 1 + m0 - (intOf i).toNat)
  case atStart => exact ⟨0, Nat.zero_le _, rfl, hB0, hR0, hL0⟩
  case round =>
    obtain ⟨j, hj, rfl, hB, hR, hL⟩ := hrel
    clear hB0 hR0 hL0
    by_cases hlt : j < 1 + m0
    · have hf := hB.free j
      obtain ⟨u, hu⟩ : ∃ u, wr.cell? ⟨w.heap.size + 1, j, none⟩ = some u := ⟨_, by rw [hB.cell]; exact Array.getElem?_eq_getElem (by simp [rowL_len (n := n) hj, hlt])⟩
      have hs := rowL_put (n := n) hlt (Value.int .u8)
      have hw : IntKind.u8.wrap (n + 7 * (j : Int)) = (n + 7 * (j : Int)) % 256 := by rw [IntKind.wrap_u8]
      have hI : (j : Int) < 1 + (m0 : Int) := by omega
      have hm : (m0 : Int) < 200 := by omega
      clear hm1 hj
      go_wp2
      all_goals go_roundw
      case rel =>
        have h2 := hB.set j (.int .u8 ((n + 7 * (j : Int)) % 256))
        rw [hs] at h2
        have F : Fr (fun i => i = w.heap.size + 1) wr (wr.setCell ⟨w.heap.size + 1, j, none⟩ (.int .u8 ((n + 7 * (j : Int)) % 256))) := Fr.setCell (S := fun i => i = w.heap.size + 1) (Fr.refl _ _) (p := ⟨w.heap.size + 1, j, none⟩) (fun _ => rfl) _
        exact ⟨j + 1, by omega, by go_num, h2, hR.kept F (by omega), F.below hL hL.size (fun _ h => by omega)⟩
      case measure => simp [intOf]; omega
    · obtain rfl : j = 1 + m0 := by omega
      rw [rowL_full] at hB
      have r0 : wr.cell? ⟨w.heap.size, 0, none⟩ = some (.int .u64 0) := hR.cell 0
      have r1 : wr.cell? ⟨w.heap.size, 1, none⟩ = some (.int .u64 0) := hR.cell 1
      have r2 : wr.cell? ⟨w.heap.size, 2, none⟩ = some (.int .u64 0) := hR.cell 2
      have r3 : wr.cell? ⟨w.heap.size, 3, none⟩ = some (.int .u64 0) := hR.cell 3
      have r4 : wr.cell? ⟨w.heap.size, 4, none⟩ = some (.int .i64 0) := hR.cell 4
      have r5 : wr.cell? ⟨w.heap.size, 5, none⟩ = some (.slice none 0 0) := hR.cell 5
      have x0 := hR.free 0
      have x1 := hR.free 1
      have x2 := hR.free 2
      have x3 := hR.free 3
      have x4 := hR.free 4
      have x5 := hR.free 5
      obtain ⟨ec, hec, ec0, ec1⟩ : ∃ ec : Int, (wrap64 (coin.tmod 3 + 3)).tmod 3 = ec ∧ 0 ≤ ec ∧ ec ≤ 2 := by
        have h1 := Int.tmod_lt_of_pos coin (show (0 : Int) < 3 by decide)
        have h2 := Int.lt_tmod_of_pos coin (show (0 : Int) < 3 by decide)
        have h3 : wrap64 (coin.tmod 3 + 3) = coin.tmod 3 + 3 := by unfold wrap64; omega
        rw [h3]
        have h4 : (coin.tmod 3 + 3).tmod 3 = (coin.tmod 3 + 3) % 3 := Int.tmod_eq_emod_of_nonneg (by omega)
        exact ⟨_, rfl, by rw [h4]; omega, by rw [h4]; omega⟩
      have hp0 : 0 ≤ pn % 4611686018427387904 := by omega
      have hp1 : pn % 4611686018427387904 ≤ 4611686018427387903 := by omega
      have ho0 : 0 ≤ off % 4611686018427387703 := by omega
      have ho1 : off % 4611686018427387703 ≤ 4611686018427387702 := by omega
      generalize hP : pn % 4611686018427387904 = P at *
      generalize hO : off % 4611686018427387703 = O at *
      have hl0 : 0 ≤ nonce % (P + 1) := Int.emod_nonneg _ (by omega)
      have hl1 : nonce % (P + 1) ≤ P := by have := Int.emod_lt_of_pos nonce (show 0 < P + 1 by omega); omega
      generalize hLs : nonce % (P + 1) = L at *
      have hlb := bodyL_len n (1 + m0)
      have hbb := bodyL_bytes n (1 + m0)
      generalize bodyL n (1 + m0) = body at *
      have HB := Lib.hid hlb
      clear hlb hlt hj
      have hm : (m0 : Int) < 200 := by omega
      clear hm1
      go_wp2
      refine bodyPost_ret (results_cell_row rfl _ _ w.heap.size 25 #[.int .u64 P, .int .u64 L, .int .u64 O, .int .u64 nonce, .int .i64 (1 + ec), .slice (some ⟨w.heap.size + 1, 0, none⟩) (1 + m0) (1 + m0)] (0, 0) _ rfl (set6_blk hR _ _ _ _ _ _) Tryd.underlying25 rfl (by kernel_rfl)) rfl ?_
      have F := set6_fr wr w.heap.size (.int .u64 P) (.int .u64 L) (.int .u64 O) (.int .u64 nonce) (.int .i64 (1 + ec)) (.slice (some ⟨w.heap.size + 1, 0, none⟩) (1 + m0) (1 + m0))
      have hlen : (body.length : Int) = 1 + (m0 : Int) := by rw [HB.out]; omega
      refine ⟨⟨P, L, O, nonce, 1 + ec, body⟩, w.heap.size + 1, 1 + m0, rfl, ?_, ⟨hp0, hl0, ho0, c0, c1, hbb⟩, HB.out, ?_, F.below hL hL.size (by rintro k rfl; exact Nat.le_refl _)⟩
      · rw [may_iff]
        unfold M
        dsimp only
        omega
      · exact (rowIn_blk (S := fun k => w.heap.size ≤ k ∧ k ≠ w.heap.size) hB ⟨by omega, by omega⟩).kept F (fun k hk e => hk.2 e) |>.mono (fun k _ hk => hk.1)
end Go.Proofs.YtbdafmomjboaaaaDoor.Head
