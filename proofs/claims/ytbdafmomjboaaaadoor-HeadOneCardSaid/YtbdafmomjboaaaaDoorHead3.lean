/-
  The contract of the reference's reading of a packet.
-/
import Derived.Test.YtbdafmomjboaaaaDoorHead2
import Derived.Test.YtbdafmomjboaaaaDoorOctRef
import Derived.Deep.Cut
namespace Go.Proofs.YtbdafmomjboaaaaDoor.Head
set_option linter.unusedVariables false
open Go.ChangeShapes Go.WideShapes Go.ChangeAt Go.RowKit
open Go.Proofs.YtbdafmomjboaaaaDoor.Base Go.Proofs.YtbdafmomjboaaaaDoor.OctPlain Go.Proofs.YtbdafmomjboaaaaDoor.Tab Go.Proofs.YtbdafmomjboaaaaDoor.Oct Go.Proofs.YtbdafmomjboaaaaDoor.HeadPlain

theorem ref_wrd (a : Option Addr) (len cap t : Nat) (s : Int) (l : List Int) (w : World) (hl : l.length = len) (hs : s = t) (ht : t ≤ len) (hm : len ≤ 140737488355328) (hb : Bytes l) (hI : Ints .u8 w a l) :
    Calls Tryd.prog 36 #[.slice a len cap, .int .i64 s] w fun e w' => e = .returned (.tuple #[.int .u64 (wrd (l.drop t)).1, .int .i64 ((t : Int) + ((wrd (l.drop t)).2.1 : Int)), .int .i64 (wrd (l.drop t)).2.2]) ∧ w = w' := by
  have hd : (l.drop t).length = len - t := by rw [List.length_drop, hl]
  by_cases h8 : len < t + 8
  · have e : wrd (l.drop t) = (0, 0, 2) := if_pos (by omega)
    rw [e]
    have := ref_word_short a len cap t s w hs ht hm h8
    simpa using this
  · have e : wrd (l.drop t) = (val ((l.drop t).take 8), 8, 0) := if_neg (by omega)
    rw [e]
    exact ref_word_at a len cap t s l w hl hs (by omega) hm hb hI
/-- The packet being read by places: its variable at block dd, the result's at block rr. -/
structure Got (w0 w : World) (dd rr : Nat) (v0 v1 v2 v3 v4 v5 : Value) : Prop where
  blk : Blk w dd #[v0, v1, v2, v3, v4, v5] 25
  res : Blk w rr #[.int .u64 0, .int .u64 0, .int .u64 0, .int .u64 0, .int .i64 0, .slice none 0 0] 25
  below : Below w0.heap.size w0 w
  dnew : w0.heap.size ≤ dd ∧ dd ≠ rr
section
variable {w0 w w' : World} {dd rr : Nat} {v0 v1 v2 v3 v4 v5 : Value}
theorem Got.put (h : Got w0 w dd rr v0 v1 v2 v3 v4 v5) (i : Nat) (u : Value) :
    Blk (w.setCell ⟨dd, i, none⟩ u) dd (#[v0, v1, v2, v3, v4, v5].setIfInBounds i u) 25 ∧
    Blk (w.setCell ⟨dd, i, none⟩ u) rr #[.int .u64 0, .int .u64 0, .int .u64 0, .int .u64 0, .int .i64 0, .slice none 0 0] 25 ∧ Below w0.heap.size w0 (w.setCell ⟨dd, i, none⟩ u) := by
  have hF : Fr (fun k => k = dd) w (w.setCell ⟨dd, i, none⟩ u) := Fr.setCell (S := fun k => k = dd) (Fr.refl _ _) (p := ⟨dd, i, none⟩) (fun _ => rfl) _
  have hd := h.dnew
  exact ⟨h.blk.set i u, h.res.kept hF (by omega), hF.below h.below h.below.size (by omega)⟩
theorem Got.put0 (h : Got w0 w dd rr v0 v1 v2 v3 v4 v5) (u : Value) : Got w0 (w.setCell ⟨dd, 0, none⟩ u) dd rr u v1 v2 v3 v4 v5 := by
  obtain ⟨p1, p2, p3⟩ := h.put 0 u
  exact ⟨p1, p2, p3, h.dnew⟩
theorem Got.put1 (h : Got w0 w dd rr v0 v1 v2 v3 v4 v5) (u : Value) : Got w0 (w.setCell ⟨dd, 1, none⟩ u) dd rr v0 u v2 v3 v4 v5 := by
  obtain ⟨p1, p2, p3⟩ := h.put 1 u
  exact ⟨p1, p2, p3, h.dnew⟩
theorem Got.put2 (h : Got w0 w dd rr v0 v1 v2 v3 v4 v5) (u : Value) : Got w0 (w.setCell ⟨dd, 2, none⟩ u) dd rr v0 v1 u v3 v4 v5 := by
  obtain ⟨p1, p2, p3⟩ := h.put 2 u
  exact ⟨p1, p2, p3, h.dnew⟩
theorem Got.put3 (h : Got w0 w dd rr v0 v1 v2 v3 v4 v5) (u : Value) : Got w0 (w.setCell ⟨dd, 3, none⟩ u) dd rr v0 v1 v2 u v4 v5 := by
  obtain ⟨p1, p2, p3⟩ := h.put 3 u
  exact ⟨p1, p2, p3, h.dnew⟩
theorem Got.put4 (h : Got w0 w dd rr v0 v1 v2 v3 v4 v5) (u : Value) : Got w0 (w.setCell ⟨dd, 4, none⟩ u) dd rr v0 v1 v2 v3 u v5 := by
  obtain ⟨p1, p2, p3⟩ := h.put 4 u
  exact ⟨p1, p2, p3, h.dnew⟩
theorem Got.put5 (h : Got w0 w dd rr v0 v1 v2 v3 v4 v5) (u : Value) : Got w0 (w.setCell ⟨dd, 5, none⟩ u) dd rr v0 v1 v2 v3 v4 u := by
  obtain ⟨p1, p2, p3⟩ := h.put 5 u
  exact ⟨p1, p2, p3, h.dnew⟩
theorem Got.c0 (h : Got w0 w dd rr v0 v1 v2 v3 v4 v5) : w.cell? ⟨dd, 0, none⟩ = some v0 := h.blk.cell 0
theorem Got.c1 (h : Got w0 w dd rr v0 v1 v2 v3 v4 v5) : w.cell? ⟨dd, 1, none⟩ = some v1 := h.blk.cell 1
theorem Got.c2 (h : Got w0 w dd rr v0 v1 v2 v3 v4 v5) : w.cell? ⟨dd, 2, none⟩ = some v2 := h.blk.cell 2
theorem Got.c3 (h : Got w0 w dd rr v0 v1 v2 v3 v4 v5) : w.cell? ⟨dd, 3, none⟩ = some v3 := h.blk.cell 3
theorem Got.c4 (h : Got w0 w dd rr v0 v1 v2 v3 v4 v5) : w.cell? ⟨dd, 4, none⟩ = some v4 := h.blk.cell 4
theorem Got.c5 (h : Got w0 w dd rr v0 v1 v2 v3 v4 v5) : w.cell? ⟨dd, 5, none⟩ = some v5 := h.blk.cell 5
theorem Got.g (h : Got w0 w dd rr v0 v1 v2 v3 v4 v5) (i : Nat) : w.frozen? ⟨dd, i, none⟩ = false := h.blk.free i
theorem Got.r0 (h : Got w0 w dd rr v0 v1 v2 v3 v4 v5) : w.cell? ⟨rr, 0, none⟩ = some (.int .u64 0) := h.res.cell 0
theorem Got.r1 (h : Got w0 w dd rr v0 v1 v2 v3 v4 v5) : w.cell? ⟨rr, 1, none⟩ = some (.int .u64 0) := h.res.cell 1
theorem Got.r2 (h : Got w0 w dd rr v0 v1 v2 v3 v4 v5) : w.cell? ⟨rr, 2, none⟩ = some (.int .u64 0) := h.res.cell 2
theorem Got.r3 (h : Got w0 w dd rr v0 v1 v2 v3 v4 v5) : w.cell? ⟨rr, 3, none⟩ = some (.int .u64 0) := h.res.cell 3
theorem Got.r4 (h : Got w0 w dd rr v0 v1 v2 v3 v4 v5) : w.cell? ⟨rr, 4, none⟩ = some (.int .i64 0) := h.res.cell 4
theorem Got.r5 (h : Got w0 w dd rr v0 v1 v2 v3 v4 v5) : w.cell? ⟨rr, 5, none⟩ = some (.slice none 0 0) := h.res.cell 5
theorem Got.q (h : Got w0 w dd rr v0 v1 v2 v3 v4 v5) (i : Nat) : w.frozen? ⟨rr, i, none⟩ = false := h.res.free i
end
theorem got_start (w : World) {o1 o2 : Obj} (h1 : o1 = .cells #[.int .u64 0, .int .u64 0, .int .u64 0, .int .u64 0, .int .i64 0, .slice none 0 0] 25) (h2 : o2 = .cells #[.int .u64 0, .int .u64 0, .int .u64 0, .int .u64 0, .int .i64 0, .slice none 0 0] 25) :
    Got w ((w.alloc o1).alloc o2) (w.heap.size + 1) w.heap.size (.int .u64 0) (.int .u64 0) (.int .u64 0) (.int .u64 0) (.int .i64 0) (.slice none 0 0) := by
  subst h1 h2
  have B2 := Blk.new (w.alloc (.cells #[.int .u64 0, .int .u64 0, .int .u64 0, .int .u64 0, .int .i64 0, .slice none 0 0] 25)) #[.int .u64 0, .int .u64 0, .int .u64 0, .int .u64 0, .int .i64 0, .slice none 0 0] 25
  rw [World.size_alloc] at B2
  exact ⟨B2, (Blk.new w _ _).alloc _, ((Below.refl w.heap.size w).alloc (Nat.le_refl _) _).alloc (by simp) _, by omega, by omega⟩
/-- What comes out where there is an error. -/
theorem got_bad {w w' : World} {e : Int} {l : List Int} (h : getData l = (zero, e)) {dd : Nat} {v0 v1 v2 v3 v4 v5 : Value} (hG : Got w w' dd w.heap.size v0 v1 v2 v3 v4 v5) :
    ∃ a' m c, Ending.returned (.tuple #[.agg #[.int .u64 0, .int .u64 0, .int .u64 0, .int .u64 0, .int .i64 0, .slice none 0 0], .int .i64 e]) = .returned (.tuple #[.agg #[.int .u64 (getData l).1.pn, .int .u64 (getData l).1.least, .int .u64 (getData l).1.off, .int .u64 (getData l).1.nonce, .int .i64 (getData l).1.ecn, .slice a' m c], .int .i64 (getData l).2]) ∧
      (getData l).1.body.length = m ∧ m ≤ c ∧ c ≤ maxLen ∧ (a' = none → m = 0 ∧ c = 0) ∧ RowIn (fun k => w.heap.size ≤ k) (set6 w' w.heap.size (.int .u64 0) (.int .u64 0) (.int .u64 0) (.int .u64 0) (.int .i64 0) (.slice none 0 0)) a' ((getData l).1.body.map (.int .u8)) ∧
      Below w.heap.size w (set6 w' w.heap.size (.int .u64 0) (.int .u64 0) (.int .u64 0) (.int .u64 0) (.int .i64 0) (.slice none 0 0)) := by
  rw [h]
  exact ⟨none, 0, 0, rfl, rfl, Nat.le_refl _, Nat.zero_le _, (fun _ => ⟨rfl, rfl⟩), RowIn.nil _ _ _, (set6_fr _ _ _ _ _ _ _ _).below hG.below hG.below.size (by rintro k rfl; exact Nat.le_refl _)⟩
theorem info : (Tryd.prog.info? 5).map (fun i => (i.zero, i.size, i.bytes)) = some (some (.int .u8 0), 1, 1) := by kernel_rfl
theorem Got.under {w0 w w' : World} {dd rr : Nat} {v0 v1 v2 v3 v4 v5 : Value} (h : Got w0 w dd rr v0 v1 v2 v3 v4 v5) (hb : Below w.heap.size w w') : Got w0 w' dd rr v0 v1 v2 v3 v4 v5 :=
  ⟨h.blk.below hb h.blk.lt, h.res.below hb h.res.lt, Base.next0 h.below h.below.size hb, h.dnew⟩
/-- What a reading comes to. -/
def GotPost (w : World) (l : List Int) : Ending → World → Prop := fun e w' => ∃ a' m c, e = .returned (.tuple #[.agg #[.int .u64 (getData l).1.pn, .int .u64 (getData l).1.least, .int .u64 (getData l).1.off, .int .u64 (getData l).1.nonce, .int .i64 (getData l).1.ecn, .slice a' m c], .int .i64 (getData l).2]) ∧
      (getData l).1.body.length = m ∧ m ≤ c ∧ c ≤ maxLen ∧ (a' = none → m = 0 ∧ c = 0) ∧ RowIn (fun k => w.heap.size ≤ k) w' a' ((getData l).1.body.map (.int .u8)) ∧ Below w.heap.size w w'
set_option maxHeartbeats 1000000 in
set_option maxRecDepth 100000 in
theorem ref_get_full (a : Option Addr) (n cap : Nat) (l : List Int) (w : World) (x y : Int) (q : List Int) (hl : l = x :: y :: q) (hx : x = 1) (hy : 1 ≤ y ∧ y ≤ 3) (hn : l.length = n) (hc : n ≤ cap) (hcm : cap ≤ maxLen) (hr : n ≤ 140737488355328) (hb : Bytes l) (hz : Ints .u8 w a l) :
    Calls Tryd.prog 15 #[.slice a n cap] w (GotPost w l) := by
  obtain ⟨⟨pn, k1, e1⟩, h1⟩ : ∃ r, num (l.drop 2) = r := ⟨_, rfl⟩
  obtain ⟨t1, u1⟩ : ∃ t, t = 2 + k1 := ⟨_, rfl⟩
  obtain ⟨⟨least, k2, e2⟩, h2⟩ : ∃ r, num (l.drop t1) = r := ⟨_, rfl⟩
  obtain ⟨t2, u2⟩ : ∃ t, t = t1 + k2 := ⟨_, rfl⟩
  obtain ⟨⟨off, k3, e3⟩, h3⟩ : ∃ r, num (l.drop t2) = r := ⟨_, rfl⟩
  obtain ⟨t3, u3⟩ : ∃ t, t = t2 + k3 := ⟨_, rfl⟩
  obtain ⟨⟨nonce, k4, e4⟩, h4⟩ : ∃ r, wrd (l.drop t3) = r := ⟨_, rfl⟩
  obtain ⟨t4, u4⟩ : ∃ t, t = t3 + k4 := ⟨_, rfl⟩
  obtain ⟨⟨size, k5, e5⟩, h5⟩ : ∃ r, num (l.drop t4) = r := ⟨_, rfl⟩
  obtain ⟨t5, u5⟩ : ∃ t, t = t4 + k5 := ⟨_, rfl⟩
  have HD := Lib.hid (HeadPlain.get_at hl h1 u1 h2 u2 h3 u3 h4 u4 h5 u5 hx hy)
  have h2n : 2 ≤ n := by rw [← hn, hl]; simp only [List.length_cons]; omega
  have m1 : t1 ≤ n := by have := num_len (l.drop 2); rw [h1, List.length_drop, hn] at this; dsimp only at this; omega
  have m2 : t2 ≤ n := by have := num_len (l.drop t1); rw [h2, List.length_drop, hn] at this; dsimp only at this; omega
  have m3 : t3 ≤ n := by have := num_len (l.drop t2); rw [h3, List.length_drop, hn] at this; dsimp only at this; omega
  have m4 : t4 ≤ n := by have := wrd_len (l.drop t3); rw [h4, List.length_drop, hn] at this; dsimp only at this; omega
  have m5 : t5 ≤ n := by have := num_len (l.drop t4); rw [h5, List.length_drop, hn] at this; dsimp only at this; omega
  have p1 := num_bd (hb.drop 2)
  have p2 := num_bd (hb.drop t1)
  have p3 := num_bd (hb.drop t2)
  have p4 := wrd_bd (hb.drop t3)
  have p5 := num_bd (hb.drop t4)
  rw [h1] at p1
  rw [h2] at p2
  rw [h3] at p3
  rw [h4] at p4
  rw [h5] at p5
  obtain ⟨p10, p11⟩ : 0 ≤ pn ∧ pn ≤ 4611686018427387903 := p1
  obtain ⟨p20, p21⟩ : 0 ≤ least ∧ least ≤ 4611686018427387903 := p2
  obtain ⟨p30, p31⟩ : 0 ≤ off ∧ off ≤ 4611686018427387903 := p3
  obtain ⟨p40, p41⟩ : 0 ≤ nonce ∧ nonce ≤ 18446744073709551615 := p4
  obtain ⟨p50, p51⟩ : 0 ≤ size ∧ size ≤ 4611686018427387903 := p5
  have C1 := fun W hI => ref_num_at a n cap 2 2 l W hn rfl h2n hr hb hI
  have C2 := fun W hI => ref_num_at a n cap t1 t1 l W hn rfl m1 hr hb hI
  have C3 := fun W hI => ref_num_at a n cap t2 t2 l W hn rfl m2 hr hb hI
  have C4 := fun W hI => ref_wrd a n cap t3 t3 l W hn rfl m3 hr hb hI
  have C5 := fun W hI => ref_num_at a n cap t4 t4 l W hn rfl m4 hr hb hI
  rw [h1] at C1
  rw [h2] at C2
  rw [h3] at C3
  rw [h4] at C4
  rw [h5] at C5
  dsimp only at C1 C2 C3 C4 C5
  rw [show ((2 : Nat) : Int) + (k1 : Int) = (t1 : Int) by omega] at C1
  rw [show (t1 : Int) + (k2 : Int) = (t2 : Int) by omega] at C2
  rw [show (t2 : Int) + (k3 : Int) = (t3 : Int) by omega] at C3
  rw [show (t3 : Int) + (k4 : Int) = (t4 : Int) by omega] at C4
  rw [show (t4 : Int) + (k5 : Int) = (t5 : Int) by omega] at C5
  have hdl : ((l.drop t5).length : Int) = (n : Int) - (t5 : Int) := by rw [List.length_drop, hn]; omega
  obtain ⟨Z, hZ⟩ : ∃ Z, l.drop t5 = Z := ⟨_, rfl⟩
  rw [hZ] at HD hdl
  have hzZ : (l.drop t5).map (Value.int .u8) = Z.map (Value.int .u8) := by rw [hZ]
  obtain ⟨g, go, rfl, hgl, cx⟩ := hz 0 (.int .u8 x) (by rw [hl]; rfl)
  obtain ⟨g', go', eg, _, cy⟩ := hz 1 (.int .u8 y) (by rw [hl]; rfl)
  cases eg
  have hrow : Row w (some ⟨g, go + t5, none⟩) (Z.map (Value.int .u8)) := by
    have := (RowIn.drop (Row.in_ hz) t5).row
    rw [← List.map_drop, hzZ] at this
    exact this
  obtain ⟨i0, hi0, hz0, hz1, hz2⟩ := info_parts info
  unfold maxLen at hcm
  subst hx
  obtain ⟨y0, y1⟩ := hy
  clear h1 h2 h3 h4 h5 u1 u2 u3 u4 u5 hl hzZ hZ
  go_enter Tryd.func15, Tryd.ntmps15
  go_upto_region 2 with fail
  have G0 := got_start w (o1 := .cells #[.int .u64 0, .int .u64 0, .int .u64 0, .int .u64 0, .int .i64 0, .slice none 0 0] 25) (o2 := .cells #[.int .u64 0, .int .u64 0, .int .u64 0, .int .u64 0, .int .i64 0, .slice none 0 0] 25) rfl rfl
  generalize (w.alloc (.cells #[.int .u64 0, .int .u64 0, .int .u64 0, .int .u64 0, .int .i64 0, .slice none 0 0] 25)).alloc (.cells #[.int .u64 0, .int .u64 0, .int .u64 0, .int .u64 0, .int .i64 0, .slice none 0 0] 25) = W at G0 ⊢
  have cx' : W.cell? ⟨g, go, none⟩ = some (.int .u8 1) := (G0.below.cell (p := ⟨g, go, none⟩) hgl).trans cx
  have cy' : W.cell? ⟨g, go + 1, none⟩ = some (.int .u8 y) := (G0.below.cell (p := ⟨g, go + 1, none⟩) hgl).trans cy
  have c0 := G0.c0
  have c1 := G0.c1
  have c2 := G0.c2
  have c3 := G0.c3
  have c4 := G0.c4
  have c5 := G0.c5
  have g0 := G0.g 0
  have g1 := G0.g 1
  have g2 := G0.g 2
  have g3 := G0.g 3
  have g4 := G0.g 4
  have g5 := G0.g 5
  have r0 := G0.r0
  have r1 := G0.r1
  have r2 := G0.r2
  have r3 := G0.r3
  have r4 := G0.r4
  have r5 := G0.r5
  have q0 := G0.q 0
  have q1 := G0.q 1
  have q2 := G0.q 2
  have q3 := G0.q 3
  have q4 := G0.q 4
  have q5 := G0.q 5
  have hgd : ¬ g = w.heap.size + 1 := by omega
  have hgr : ¬ g = w.heap.size := by omega
  go_upto_region 12 with fail
  have G1 := G0.put4 (.int .i64 y)
  generalize W.setCell ⟨w.heap.size + 1, 4, none⟩ (.int .i64 y) = W1 at G1 ⊢
  clear G0 c0 c1 c2 c3 c4 c5 g0 g1 g2 g3 g4 g5 r0 r1 r2 r3 r4 r5 q0 q1 q2 q3 q4 q5 cx' cy'
  have c0 := G1.c0
  have c1 := G1.c1
  have c2 := G1.c2
  have c3 := G1.c3
  have c4 := G1.c4
  have c5 := G1.c5
  have g0 := G1.g 0
  have g1 := G1.g 1
  have g2 := G1.g 2
  have g3 := G1.g 3
  have g4 := G1.g 4
  have g5 := G1.g 5
  have r0 := G1.r0
  have r1 := G1.r1
  have r2 := G1.r2
  have r3 := G1.r3
  have r4 := G1.r4
  have r5 := G1.r5
  have q0 := G1.q 0
  have q1 := G1.q 1
  have q2 := G1.q 2
  have q3 := G1.q 3
  have q4 := G1.q 4
  have q5 := G1.q 5
  go_upto_region 13 with ((with_reducible refine (C1 _ (hz.below G1.below)).mono ?_); rintro e w' ⟨rfl, rfl⟩; clear C1)
  have G2 := G1.put0 (.int .u64 pn)
  generalize W1.setCell ⟨w.heap.size + 1, 0, none⟩ (.int .u64 pn) = W2 at G2 ⊢
  clear G1 c0 c1 c2 c3 c4 c5 g0 g1 g2 g3 g4 g5 r0 r1 r2 r3 r4 r5 q0 q1 q2 q3 q4 q5
  have c0 := G2.c0
  have c1 := G2.c1
  have c2 := G2.c2
  have c3 := G2.c3
  have c4 := G2.c4
  have c5 := G2.c5
  have g0 := G2.g 0
  have g1 := G2.g 1
  have g2 := G2.g 2
  have g3 := G2.g 3
  have g4 := G2.g 4
  have g5 := G2.g 5
  have r0 := G2.r0
  have r1 := G2.r1
  have r2 := G2.r2
  have r3 := G2.r3
  have r4 := G2.r4
  have r5 := G2.r5
  have q0 := G2.q 0
  have q1 := G2.q 1
  have q2 := G2.q 2
  have q3 := G2.q 3
  have q4 := G2.q 4
  have q5 := G2.q 5
  go_upto_region 15 with fail
  · refine bodyPost_ret (results_row2 rfl _ _ w.heap.size 25 #[.int .u64 0, .int .u64 0, .int .u64 0, .int .u64 0, .int .i64 0, .slice none 0 0] _ rfl (set6_blk G2.res _ _ _ _ _ _) Tryd.underlying25 rfl (by kernel_rfl)) rfl ?_
    exact got_bad (e := e1) (HD.out.trans (if_pos (by simpa using (show (e1 != 0) = true by assumption)))) G2
  obtain rfl : e1 = 0 := by simpa using (show (e1 != 0) = false by assumption)
  have HD := Lib.hid (HD.out.trans (if_neg (by simp)))
  go_upto_region 16 with ((with_reducible refine (C2 _ (hz.below G2.below)).mono ?_); rintro e w' ⟨rfl, rfl⟩; clear C2)
  have G3 := G2.put1 (.int .u64 least)
  generalize W2.setCell ⟨w.heap.size + 1, 1, none⟩ (.int .u64 least) = W3 at G3 ⊢
  clear G2 c0 c1 c2 c3 c4 c5 g0 g1 g2 g3 g4 g5 r0 r1 r2 r3 r4 r5 q0 q1 q2 q3 q4 q5
  have c0 := G3.c0
  have c1 := G3.c1
  have c2 := G3.c2
  have c3 := G3.c3
  have c4 := G3.c4
  have c5 := G3.c5
  have g0 := G3.g 0
  have g1 := G3.g 1
  have g2 := G3.g 2
  have g3 := G3.g 3
  have g4 := G3.g 4
  have g5 := G3.g 5
  have r0 := G3.r0
  have r1 := G3.r1
  have r2 := G3.r2
  have r3 := G3.r3
  have r4 := G3.r4
  have r5 := G3.r5
  have q0 := G3.q 0
  have q1 := G3.q 1
  have q2 := G3.q 2
  have q3 := G3.q 3
  have q4 := G3.q 4
  have q5 := G3.q 5
  go_upto_region 18 with fail
  · refine bodyPost_ret (results_row2 rfl _ _ w.heap.size 25 #[.int .u64 0, .int .u64 0, .int .u64 0, .int .u64 0, .int .i64 0, .slice none 0 0] _ rfl (set6_blk G3.res _ _ _ _ _ _) Tryd.underlying25 rfl (by kernel_rfl)) rfl ?_
    exact got_bad (e := e2) (HD.out.trans (if_pos (by simpa using (show (e2 != 0) = true by assumption)))) G3
  obtain rfl : e2 = 0 := by simpa using (show (e2 != 0) = false by assumption)
  have HD := Lib.hid (HD.out.trans (if_neg (by simp)))
  go_upto_region 20 with fail
  · refine bodyPost_ret (results_row2 rfl _ _ w.heap.size 25 #[.int .u64 0, .int .u64 0, .int .u64 0, .int .u64 0, .int .i64 0, .slice none 0 0] _ rfl (set6_blk G3.res _ _ _ _ _ _) Tryd.underlying25 rfl (by kernel_rfl)) rfl ?_
    exact got_bad (e := 5) (HD.out.trans (if_pos (by omega))) G3
  have HD := Lib.hid (HD.out.trans (if_neg (by omega)))
  go_upto_region 21 with ((with_reducible refine (C3 _ (hz.below G3.below)).mono ?_); rintro e w' ⟨rfl, rfl⟩; clear C3)
  have G4 := G3.put2 (.int .u64 off)
  generalize W3.setCell ⟨w.heap.size + 1, 2, none⟩ (.int .u64 off) = W4 at G4 ⊢
  clear G3 c0 c1 c2 c3 c4 c5 g0 g1 g2 g3 g4 g5 r0 r1 r2 r3 r4 r5 q0 q1 q2 q3 q4 q5
  have c0 := G4.c0
  have c1 := G4.c1
  have c2 := G4.c2
  have c3 := G4.c3
  have c4 := G4.c4
  have c5 := G4.c5
  have g0 := G4.g 0
  have g1 := G4.g 1
  have g2 := G4.g 2
  have g3 := G4.g 3
  have g4 := G4.g 4
  have g5 := G4.g 5
  have r0 := G4.r0
  have r1 := G4.r1
  have r2 := G4.r2
  have r3 := G4.r3
  have r4 := G4.r4
  have r5 := G4.r5
  have q0 := G4.q 0
  have q1 := G4.q 1
  have q2 := G4.q 2
  have q3 := G4.q 3
  have q4 := G4.q 4
  have q5 := G4.q 5
  go_upto_region 23 with fail
  · refine bodyPost_ret (results_row2 rfl _ _ w.heap.size 25 #[.int .u64 0, .int .u64 0, .int .u64 0, .int .u64 0, .int .i64 0, .slice none 0 0] _ rfl (set6_blk G4.res _ _ _ _ _ _) Tryd.underlying25 rfl (by kernel_rfl)) rfl ?_
    exact got_bad (e := e3) (HD.out.trans (if_pos (by simpa using (show (e3 != 0) = true by assumption)))) G4
  obtain rfl : e3 = 0 := by simpa using (show (e3 != 0) = false by assumption)
  have HD := Lib.hid (HD.out.trans (if_neg (by simp)))
  go_upto_region 24 with ((with_reducible refine (C4 _ (hz.below G4.below)).mono ?_); rintro e w' ⟨rfl, rfl⟩; clear C4)
  have G5 := G4.put3 (.int .u64 nonce)
  generalize W4.setCell ⟨w.heap.size + 1, 3, none⟩ (.int .u64 nonce) = W5 at G5 ⊢
  clear G4 c0 c1 c2 c3 c4 c5 g0 g1 g2 g3 g4 g5 r0 r1 r2 r3 r4 r5 q0 q1 q2 q3 q4 q5
  have c0 := G5.c0
  have c1 := G5.c1
  have c2 := G5.c2
  have c3 := G5.c3
  have c4 := G5.c4
  have c5 := G5.c5
  have g0 := G5.g 0
  have g1 := G5.g 1
  have g2 := G5.g 2
  have g3 := G5.g 3
  have g4 := G5.g 4
  have g5 := G5.g 5
  have r0 := G5.r0
  have r1 := G5.r1
  have r2 := G5.r2
  have r3 := G5.r3
  have r4 := G5.r4
  have r5 := G5.r5
  have q0 := G5.q 0
  have q1 := G5.q 1
  have q2 := G5.q 2
  have q3 := G5.q 3
  have q4 := G5.q 4
  have q5 := G5.q 5
  go_upto_region 26 with fail
  · refine bodyPost_ret (results_row2 rfl _ _ w.heap.size 25 #[.int .u64 0, .int .u64 0, .int .u64 0, .int .u64 0, .int .i64 0, .slice none 0 0] _ rfl (set6_blk G5.res _ _ _ _ _ _) Tryd.underlying25 rfl (by kernel_rfl)) rfl ?_
    exact got_bad (e := e4) (HD.out.trans (if_pos (by simpa using (show (e4 != 0) = true by assumption)))) G5
  obtain rfl : e4 = 0 := by simpa using (show (e4 != 0) = false by assumption)
  have HD := Lib.hid (HD.out.trans (if_neg (by simp)))
  go_upto_region 28 with ((with_reducible refine (C5 _ (hz.below G5.below)).mono ?_); rintro e w' ⟨rfl, rfl⟩; clear C5)
  go_upto_region 30 with fail
  · refine bodyPost_ret (results_row2 rfl _ _ w.heap.size 25 #[.int .u64 0, .int .u64 0, .int .u64 0, .int .u64 0, .int .i64 0, .slice none 0 0] _ rfl (set6_blk G5.res _ _ _ _ _ _) Tryd.underlying25 rfl (by kernel_rfl)) rfl ?_
    exact got_bad (e := e5) (HD.out.trans (if_pos (by simpa using (show (e5 != 0) = true by assumption)))) G5
  obtain rfl : e5 = 0 := by simpa using (show (e5 != 0) = false by assumption)
  have HD := Lib.hid (HD.out.trans (if_neg (by simp)))
  go_upto_region 32 with fail
  · refine bodyPost_ret (results_row2 rfl _ _ w.heap.size 25 #[.int .u64 0, .int .u64 0, .int .u64 0, .int .u64 0, .int .i64 0, .slice none 0 0] _ rfl (set6_blk G5.res _ _ _ _ _ _) Tryd.underlying25 rfl (by kernel_rfl)) rfl ?_
    exact got_bad (e := 5) (HD.out.trans (if_pos (by unfold M; omega))) G5
  rotate_left
  · refine bodyPost_ret (results_row2 rfl _ _ w.heap.size 25 #[.int .u64 0, .int .u64 0, .int .u64 0, .int .u64 0, .int .i64 0, .slice none 0 0] _ rfl (set6_blk G5.res _ _ _ _ _ _) Tryd.underlying25 rfl (by kernel_rfl)) rfl ?_
    exact got_bad (e := 5) (HD.out.trans (if_pos (by unfold M; omega))) G5
  · refine bodyPost_ret (results_row2 rfl _ _ w.heap.size 25 #[.int .u64 0, .int .u64 0, .int .u64 0, .int .u64 0, .int .i64 0, .slice none 0 0] _ rfl (set6_blk G5.res _ _ _ _ _ _) Tryd.underlying25 rfl (by kernel_rfl)) rfl ?_
    exact got_bad (e := 5) (HD.out.trans (if_pos (by unfold M; omega))) G5
  have HD := Lib.hid (HD.out.trans (if_neg (by unfold M; omega)))
  go_upto_region 34 with fail
  · refine bodyPost_ret (results_row2 rfl _ _ w.heap.size 25 #[.int .u64 0, .int .u64 0, .int .u64 0, .int .u64 0, .int .i64 0, .slice none 0 0] _ rfl (set6_blk G5.res _ _ _ _ _ _) Tryd.underlying25 rfl (by kernel_rfl)) rfl ?_
    exact got_bad (e := 2) (HD.out.trans (if_pos (by omega))) G5
  have HD := Lib.hid (HD.out.trans (if_neg (by omega)))
  go_upto_region 36 with fail
  · refine bodyPost_ret (results_row2 rfl _ _ w.heap.size 25 #[.int .u64 0, .int .u64 0, .int .u64 0, .int .u64 0, .int .i64 0, .slice none 0 0] _ rfl (set6_blk G5.res _ _ _ _ _ _) Tryd.underlying25 rfl (by kernel_rfl)) rfl ?_
    exact got_bad (e := 3) (HD.out.trans (if_pos (by omega))) G5
  have HD := Lib.hid (HD.out.trans (if_neg (by omega)))
  have hlt : t5 < n := by omega
  have hZl : Z.length = n - t5 := by omega
  have hcc : (t5 : Int) < (cap : Int) := by omega
  have hcn : ¬ cap = t5 := by omega
  have hcz : n - t5 ≤ 1500 := by omega
  clear hdl hn
  go_wp2_with (at_builtin; refine wpl_append_row _ rfl _ (.tmp 132) _ rfl W5.heap.size 5 i0 _ 1 1 Tryd.underlying23 hi0 hz0 hz1 hz2 rfl (by omega) (.slice none 0 0) 0 [] rfl (World.ownsRow_nil _ _ _ _) (some ⟨g, go + t5, none⟩) (n - t5) (cap - t5) (Z.map (Value.int .u8)) rfl (by simp [hZl]) (hrow.below G5.below) (ints_oneCell _ _) (by unfold maxLen; omega) (by omega) (Nat.le_refl _) ?_; intro v6 W6 hown6 hg6 hat6; have L6 : Below W5.heap.size W5 W6 := (Below.refl _ _).grown hg6 (Nat.le_refl _) (by simp [Value.ownBlock]); have G6 := G5.under L6; clear c0 c1 c2 c3 c4 c5 g0 g1 g2 g3 g4 g5 r0 r1 r2 r3 r4 r5 q0 q1 q2 q3 q4 q5; obtain ⟨a6, cap6, rfl, j1, j2, j3, R6⟩ := rowIn_of_own Nat.one_pos hown6; have c0 := G6.c0; have c1 := G6.c1; have c2 := G6.c2; have c3 := G6.c3; have c4 := G6.c4; have c5 := G6.c5; have g0 := G6.g 0; have g1 := G6.g 1; have g2 := G6.g 2; have g3 := G6.g 3; have g4 := G6.g 4; have g5 := G6.g 5; have r0 := G6.r0; have r1 := G6.r1; have r2 := G6.r2; have r3 := G6.r3; have r4 := G6.r4; have r5 := G6.r5; have q0 := G6.q 0; have q1 := G6.q 1; have q2 := G6.q 2; have q3 := G6.q 3; have q4 := G6.q 4; have q5 := G6.q 5)
  refine bodyPost_ret (results_row2 rfl _ _ w.heap.size 25 #[.int .u64 pn, .int .u64 least, .int .u64 off, .int .u64 nonce, .int .i64 y, .slice a6 (n - t5) cap6] _ rfl (set6_blk (G6.put5 _).res _ _ _ _ _ _) Tryd.underlying25 rfl (by kernel_rfl)) rfl ?_
  have hd := G5.blk.lt
  have G7 := G6.put5 (.slice a6 (n - t5) cap6)
  have F6 : Fr (fun k => k = w.heap.size + 1) W6 (W6.setCell ⟨w.heap.size + 1, 5, none⟩ (.slice a6 (n - t5) cap6)) := Fr.setCell (S := fun k => k = w.heap.size + 1) (Fr.refl _ _) (p := ⟨w.heap.size + 1, 5, none⟩) (fun _ => rfl) _
  have FF : Fr (fun k => k = w.heap.size + 1 ∨ k = w.heap.size) W6 (set6 (W6.setCell ⟨w.heap.size + 1, 5, none⟩ (.slice a6 (n - t5) cap6)) w.heap.size (.int .u64 pn) (.int .u64 least) (.int .u64 off) (.int .u64 nonce) (.int .i64 y) (.slice a6 (n - t5) cap6)) :=
    (F6.mono fun k _ h => Or.inl h).trans (set6_fr _ _ _ _ _ _ _ _) (fun k _ h => Or.inr h)
  unfold GotPost
  rw [HD.out]
  exact ⟨a6, n - t5, cap6, rfl, hZl, by omega, j2, (fun e => by have := j3 e; omega), (R6.kept FF (fun k hk h => by omega)).mono (fun k _ hk => by omega), (set6_fr _ _ _ _ _ _ _ _).below G7.below G7.below.size (by rintro k rfl; exact Nat.le_refl _)⟩
theorem ref_get_nil (a : Option Addr) (n cap : Nat) (l : List Int) (w : World) (hl : l = []) (hn : l.length = n) (hc : n ≤ cap) (hr : n ≤ 140737488355328) (hz : Ints .u8 w a l) :
    Calls Tryd.prog 15 #[.slice a n cap] w (GotPost w l) := by
  have HD : getData l = (zero, 2) := by
    rw [hl]; rfl
  have hn0 : n = 0 := by rw [← hn, hl]; rfl
  subst hn0
  clear hl
  go_enter Tryd.func15, Tryd.ntmps15
  go_upto_region 2 with fail
  have G0 := got_start w (o1 := .cells #[.int .u64 0, .int .u64 0, .int .u64 0, .int .u64 0, .int .i64 0, .slice none 0 0] 25) (o2 := .cells #[.int .u64 0, .int .u64 0, .int .u64 0, .int .u64 0, .int .i64 0, .slice none 0 0] 25) rfl rfl
  generalize (w.alloc (.cells #[.int .u64 0, .int .u64 0, .int .u64 0, .int .u64 0, .int .i64 0, .slice none 0 0] 25)).alloc (.cells #[.int .u64 0, .int .u64 0, .int .u64 0, .int .u64 0, .int .i64 0, .slice none 0 0] 25) = W at G0 ⊢
  have c0 := G0.c0
  have c1 := G0.c1
  have c2 := G0.c2
  have c3 := G0.c3
  have c4 := G0.c4
  have c5 := G0.c5
  have g0 := G0.g 0
  have g1 := G0.g 1
  have g2 := G0.g 2
  have g3 := G0.g 3
  have g4 := G0.g 4
  have g5 := G0.g 5
  have r0 := G0.r0
  have r1 := G0.r1
  have r2 := G0.r2
  have r3 := G0.r3
  have r4 := G0.r4
  have r5 := G0.r5
  have q0 := G0.q 0
  have q1 := G0.q 1
  have q2 := G0.q 2
  have q3 := G0.q 3
  have q4 := G0.q 4
  have q5 := G0.q 5
  go_wp2
  all_goals refine bodyPost_ret (results_row2 rfl _ _ w.heap.size 25 #[.int .u64 0, .int .u64 0, .int .u64 0, .int .u64 0, .int .i64 0, .slice none 0 0] _ rfl (set6_blk G0.res _ _ _ _ _ _) Tryd.underlying25 rfl (by kernel_rfl)) rfl ?_
  all_goals exact got_bad HD G0
theorem ref_get_kind (a : Option Addr) (n cap : Nat) (l : List Int) (w : World) (x : Int) (q : List Int) (hl : l = x :: q) (hx : ¬ x = 1) (hn : l.length = n) (hc : n ≤ cap) (hr : n ≤ 140737488355328) (hz : Ints .u8 w a l) :
    Calls Tryd.prog 15 #[.slice a n cap] w (GotPost w l) := by
  have HD : getData l = (zero, 4) := by
    rw [hl]
    cases q with
    | nil => exact if_pos hx
    | cons y q => exact if_pos hx
  have hn1 : 1 ≤ n := by rw [← hn, hl]; simp only [List.length_cons]; omega
  obtain ⟨g, go, rfl, hgl, cx⟩ := hz 0 (.int .u8 x) (by rw [hl]; rfl)
  clear hl
  go_enter Tryd.func15, Tryd.ntmps15
  go_upto_region 2 with fail
  have G0 := got_start w (o1 := .cells #[.int .u64 0, .int .u64 0, .int .u64 0, .int .u64 0, .int .i64 0, .slice none 0 0] 25) (o2 := .cells #[.int .u64 0, .int .u64 0, .int .u64 0, .int .u64 0, .int .i64 0, .slice none 0 0] 25) rfl rfl
  generalize (w.alloc (.cells #[.int .u64 0, .int .u64 0, .int .u64 0, .int .u64 0, .int .i64 0, .slice none 0 0] 25)).alloc (.cells #[.int .u64 0, .int .u64 0, .int .u64 0, .int .u64 0, .int .i64 0, .slice none 0 0] 25) = W at G0 ⊢
  have cx' : W.cell? ⟨g, go, none⟩ = some (.int .u8 x) := (G0.below.cell (p := ⟨g, go, none⟩) hgl).trans cx
  have c0 := G0.c0
  have c1 := G0.c1
  have c2 := G0.c2
  have c3 := G0.c3
  have c4 := G0.c4
  have c5 := G0.c5
  have g0 := G0.g 0
  have g1 := G0.g 1
  have g2 := G0.g 2
  have g3 := G0.g 3
  have g4 := G0.g 4
  have g5 := G0.g 5
  have r0 := G0.r0
  have r1 := G0.r1
  have r2 := G0.r2
  have r3 := G0.r3
  have r4 := G0.r4
  have r5 := G0.r5
  have q0 := G0.q 0
  have q1 := G0.q 1
  have q2 := G0.q 2
  have q3 := G0.q 3
  have q4 := G0.q 4
  have q5 := G0.q 5
  go_wp2
  all_goals refine bodyPost_ret (results_row2 rfl _ _ w.heap.size 25 #[.int .u64 0, .int .u64 0, .int .u64 0, .int .u64 0, .int .i64 0, .slice none 0 0] _ rfl (set6_blk G0.res _ _ _ _ _ _) Tryd.underlying25 rfl (by kernel_rfl)) rfl ?_
  all_goals exact got_bad HD G0
theorem ref_get_one (a : Option Addr) (n cap : Nat) (l : List Int) (w : World) (hl : l = [1]) (hn : l.length = n) (hc : n ≤ cap) (hr : n ≤ 140737488355328) (hz : Ints .u8 w a l) :
    Calls Tryd.prog 15 #[.slice a n cap] w (GotPost w l) := by
  have HD : getData l = (zero, 2) := by
    rw [hl]; rfl
  have hn1 : n = 1 := by rw [← hn, hl]; rfl
  subst hn1
  obtain ⟨g, go, rfl, hgl, cx⟩ := hz 0 (.int .u8 1) (by rw [hl]; rfl)
  clear hl
  go_enter Tryd.func15, Tryd.ntmps15
  go_upto_region 2 with fail
  have G0 := got_start w (o1 := .cells #[.int .u64 0, .int .u64 0, .int .u64 0, .int .u64 0, .int .i64 0, .slice none 0 0] 25) (o2 := .cells #[.int .u64 0, .int .u64 0, .int .u64 0, .int .u64 0, .int .i64 0, .slice none 0 0] 25) rfl rfl
  generalize (w.alloc (.cells #[.int .u64 0, .int .u64 0, .int .u64 0, .int .u64 0, .int .i64 0, .slice none 0 0] 25)).alloc (.cells #[.int .u64 0, .int .u64 0, .int .u64 0, .int .u64 0, .int .i64 0, .slice none 0 0] 25) = W at G0 ⊢
  have cx' : W.cell? ⟨g, go, none⟩ = some (.int .u8 1) := (G0.below.cell (p := ⟨g, go, none⟩) hgl).trans cx
  have c0 := G0.c0
  have c1 := G0.c1
  have c2 := G0.c2
  have c3 := G0.c3
  have c4 := G0.c4
  have c5 := G0.c5
  have g0 := G0.g 0
  have g1 := G0.g 1
  have g2 := G0.g 2
  have g3 := G0.g 3
  have g4 := G0.g 4
  have g5 := G0.g 5
  have r0 := G0.r0
  have r1 := G0.r1
  have r2 := G0.r2
  have r3 := G0.r3
  have r4 := G0.r4
  have r5 := G0.r5
  have q0 := G0.q 0
  have q1 := G0.q 1
  have q2 := G0.q 2
  have q3 := G0.q 3
  have q4 := G0.q 4
  have q5 := G0.q 5
  go_wp2
  all_goals refine bodyPost_ret (results_row2 rfl _ _ w.heap.size 25 #[.int .u64 0, .int .u64 0, .int .u64 0, .int .u64 0, .int .i64 0, .slice none 0 0] _ rfl (set6_blk G0.res _ _ _ _ _ _) Tryd.underlying25 rfl (by kernel_rfl)) rfl ?_
  all_goals exact got_bad HD G0
theorem ref_get_form (a : Option Addr) (n cap : Nat) (l : List Int) (w : World) (y : Int) (q : List Int) (hl : l = 1 :: y :: q) (hy : y < 1 ∨ 3 < y) (hyb : 0 ≤ y ∧ y ≤ 255) (hn : l.length = n) (hc : n ≤ cap) (hr : n ≤ 140737488355328) (hz : Ints .u8 w a l) :
    Calls Tryd.prog 15 #[.slice a n cap] w (GotPost w l) := by
  have HD : getData l = (zero, 5) := by
    rw [hl]
    unfold getData
    dsimp only
    rw [if_neg (show ¬ (1 : Int) ≠ 1 by simp), if_pos hy]
  have hn1 : 2 ≤ n := by rw [← hn, hl]; simp only [List.length_cons]; omega
  obtain ⟨g, go, rfl, hgl, cx⟩ := hz 0 (.int .u8 1) (by rw [hl]; rfl)
  obtain ⟨g', go', eg, _, cy⟩ := hz 1 (.int .u8 y) (by rw [hl]; rfl)
  cases eg
  obtain ⟨y0, y1⟩ := hyb
  clear hl
  go_enter Tryd.func15, Tryd.ntmps15
  go_upto_region 2 with fail
  have G0 := got_start w (o1 := .cells #[.int .u64 0, .int .u64 0, .int .u64 0, .int .u64 0, .int .i64 0, .slice none 0 0] 25) (o2 := .cells #[.int .u64 0, .int .u64 0, .int .u64 0, .int .u64 0, .int .i64 0, .slice none 0 0] 25) rfl rfl
  generalize (w.alloc (.cells #[.int .u64 0, .int .u64 0, .int .u64 0, .int .u64 0, .int .i64 0, .slice none 0 0] 25)).alloc (.cells #[.int .u64 0, .int .u64 0, .int .u64 0, .int .u64 0, .int .i64 0, .slice none 0 0] 25) = W at G0 ⊢
  have cx' : W.cell? ⟨g, go, none⟩ = some (.int .u8 1) := (G0.below.cell (p := ⟨g, go, none⟩) hgl).trans cx
  have cy' : W.cell? ⟨g, go + 1, none⟩ = some (.int .u8 y) := (G0.below.cell (p := ⟨g, go + 1, none⟩) hgl).trans cy
  have hgd : ¬ g = w.heap.size + 1 := by omega
  have G1 := G0.put4 (.int .i64 y)
  have c0 := G0.c0
  have c1 := G0.c1
  have c2 := G0.c2
  have c3 := G0.c3
  have c4 := G0.c4
  have c5 := G0.c5
  have g0 := G0.g 0
  have g1 := G0.g 1
  have g2 := G0.g 2
  have g3 := G0.g 3
  have g4 := G0.g 4
  have g5 := G0.g 5
  have r0 := G0.r0
  have r1 := G0.r1
  have r2 := G0.r2
  have r3 := G0.r3
  have r4 := G0.r4
  have r5 := G0.r5
  have q0 := G0.q 0
  have q1 := G0.q 1
  have q2 := G0.q 2
  have q3 := G0.q 3
  have q4 := G0.q 4
  have q5 := G0.q 5
  go_wp2
  all_goals refine bodyPost_ret (results_row2 rfl _ _ w.heap.size 25 #[.int .u64 0, .int .u64 0, .int .u64 0, .int .u64 0, .int .i64 0, .slice none 0 0] _ rfl (set6_blk G1.res _ _ _ _ _ _) Tryd.underlying25 rfl (by kernel_rfl)) rfl ?_
  all_goals exact got_bad HD G1
theorem ref_get (a : Option Addr) (n cap : Nat) (l : List Int) (w : World) (hn : l.length = n) (hc : n ≤ cap) (hcm : cap ≤ maxLen) (hr : n ≤ 140737488355328) (hb : Bytes l) (hz : Ints .u8 w a l) :
    Calls Tryd.prog 15 #[.slice a n cap] w (GotPost w l) := by
  match l, hn, hb, hz with
  | [], hn, hb, hz => exact ref_get_nil a n cap _ w rfl hn hc hr hz
  | x :: q, hn, hb, hz =>
    by_cases hx : x = 1
    · subst hx
      match q, hn, hb, hz with
      | [], hn, hb, hz => exact ref_get_one a n cap _ w rfl hn hc hr hz
      | y :: q, hn, hb, hz =>
        by_cases hy : 1 ≤ y ∧ y ≤ 3
        · exact ref_get_full a n cap _ w 1 y q rfl rfl hy hn hc hcm hr hb hz
        · exact ref_get_form a n cap _ w y q rfl (by omega) hb.tail.head hn hc hr hz
    · exact ref_get_kind a n cap _ w x q rfl hx hn hc hr hz
end Go.Proofs.YtbdafmomjboaaaaDoor.Head
