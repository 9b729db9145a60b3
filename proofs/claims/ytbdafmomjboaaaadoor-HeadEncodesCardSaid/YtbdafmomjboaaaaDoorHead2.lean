/-
  Contracts of head.Decode and of the reference's reading of a packet.
-/
import Derived.Test.YtbdafmomjboaaaaDoorHead
import Derived.Laws.ResultCell
namespace Go.Proofs.YtbdafmomjboaaaaDoor.Head
set_option linter.unusedVariables false
open Go.ChangeShapes Go.WideShapes Go.ChangeAt Go.RowKit
open Go.Proofs.YtbdafmomjboaaaaDoor.Base Go.Proofs.YtbdafmomjboaaaaDoor.OctPlain Go.Proofs.YtbdafmomjboaaaaDoor.Tab Go.Proofs.YtbdafmomjboaaaaDoor.Oct Go.Proofs.YtbdafmomjboaaaaDoor.HeadPlain

/-- A packet being read: its variable at block dd, the result's at block rr. -/
structure Dec (w0 w : World) (S : Nat → Prop) (b rb dd rr : Nat) (s : St) (v0 v1 v2 v3 v4 v5 : Value) : Prop where
  fd : Fd S w b rb s
  blk : Blk w dd #[v0, v1, v2, v3, v4, v5] 25
  res : Blk w rr #[.int .u64 0, .int .u64 0, .int .u64 0, .int .u64 0, .int .i64 0, .slice none 0 0] 25
  below : Below w0.heap.size w0 w
  new : ∀ k, S k → w0.heap.size ≤ k ∧ k ≠ dd ∧ k ≠ rr
  bnew : w0.heap.size ≤ b ∧ b ≠ dd ∧ b ≠ rr
  dnew : w0.heap.size ≤ dd ∧ dd ≠ rr
section
variable {w0 w w' : World} {S : Nat → Prop} {b rb dd rr : Nat} {s s' : St} {v0 v1 v2 v3 v4 v5 : Value}
theorem Dec.call (h : Dec w0 w S b rb dd rr s v0 v1 v2 v3 v4 v5) (hf : Fd S w' b rb s') (hF : Fr (fun k => k = b ∨ k = rb) w w') : Dec w0 w' S b rb dd rr s' v0 v1 v2 v3 v4 v5 := by
  have hr := h.new rb h.fd.2.2.1
  have hb := h.bnew
  exact ⟨hf, h.blk.kept hF (by omega), h.res.kept hF (by omega), hF.below h.below h.below.size (by omega), h.new, h.bnew, h.dnew⟩
theorem Dec.put (h : Dec w0 w S b rb dd rr s v0 v1 v2 v3 v4 v5) (i : Nat) (u : Value) :
    Fd S (w.setCell ⟨dd, i, none⟩ u) b rb s ∧ Blk (w.setCell ⟨dd, i, none⟩ u) dd (#[v0, v1, v2, v3, v4, v5].setIfInBounds i u) 25 ∧
    Blk (w.setCell ⟨dd, i, none⟩ u) rr #[.int .u64 0, .int .u64 0, .int .u64 0, .int .u64 0, .int .i64 0, .slice none 0 0] 25 ∧ Below w0.heap.size w0 (w.setCell ⟨dd, i, none⟩ u) := by
  have hF : Fr (fun k => k = dd) w (w.setCell ⟨dd, i, none⟩ u) := Fr.setCell (S := fun k => k = dd) (Fr.refl _ _) (p := ⟨dd, i, none⟩) (fun _ => rfl) _
  have hd := h.dnew
  have hb := h.bnew
  exact ⟨h.fd.kept hF (fun k hk => by have := h.new k hk; omega) (by omega), h.blk.set i u, h.res.kept hF (by omega), hF.below h.below h.below.size (by omega)⟩
theorem Dec.put0 (h : Dec w0 w S b rb dd rr s v0 v1 v2 v3 v4 v5) (u : Value) : Dec w0 (w.setCell ⟨dd, 0, none⟩ u) S b rb dd rr s u v1 v2 v3 v4 v5 := by
  obtain ⟨p1, p2, p3, p4⟩ := h.put 0 u
  exact ⟨p1, p2, p3, p4, h.new, h.bnew, h.dnew⟩
theorem Dec.put1 (h : Dec w0 w S b rb dd rr s v0 v1 v2 v3 v4 v5) (u : Value) : Dec w0 (w.setCell ⟨dd, 1, none⟩ u) S b rb dd rr s v0 u v2 v3 v4 v5 := by
  obtain ⟨p1, p2, p3, p4⟩ := h.put 1 u
  exact ⟨p1, p2, p3, p4, h.new, h.bnew, h.dnew⟩
theorem Dec.put2 (h : Dec w0 w S b rb dd rr s v0 v1 v2 v3 v4 v5) (u : Value) : Dec w0 (w.setCell ⟨dd, 2, none⟩ u) S b rb dd rr s v0 v1 u v3 v4 v5 := by
  obtain ⟨p1, p2, p3, p4⟩ := h.put 2 u
  exact ⟨p1, p2, p3, p4, h.new, h.bnew, h.dnew⟩
theorem Dec.put3 (h : Dec w0 w S b rb dd rr s v0 v1 v2 v3 v4 v5) (u : Value) : Dec w0 (w.setCell ⟨dd, 3, none⟩ u) S b rb dd rr s v0 v1 v2 u v4 v5 := by
  obtain ⟨p1, p2, p3, p4⟩ := h.put 3 u
  exact ⟨p1, p2, p3, p4, h.new, h.bnew, h.dnew⟩
theorem Dec.put4 (h : Dec w0 w S b rb dd rr s v0 v1 v2 v3 v4 v5) (u : Value) : Dec w0 (w.setCell ⟨dd, 4, none⟩ u) S b rb dd rr s v0 v1 v2 v3 u v5 := by
  obtain ⟨p1, p2, p3, p4⟩ := h.put 4 u
  exact ⟨p1, p2, p3, p4, h.new, h.bnew, h.dnew⟩
theorem Dec.put5 (h : Dec w0 w S b rb dd rr s v0 v1 v2 v3 v4 v5) (u : Value) : Dec w0 (w.setCell ⟨dd, 5, none⟩ u) S b rb dd rr s v0 v1 v2 v3 v4 u := by
  obtain ⟨p1, p2, p3, p4⟩ := h.put 5 u
  exact ⟨p1, p2, p3, p4, h.new, h.bnew, h.dnew⟩
theorem Dec.c0 (h : Dec w0 w S b rb dd rr s v0 v1 v2 v3 v4 v5) : w.cell? ⟨dd, 0, none⟩ = some v0 := h.blk.cell 0
theorem Dec.c1 (h : Dec w0 w S b rb dd rr s v0 v1 v2 v3 v4 v5) : w.cell? ⟨dd, 1, none⟩ = some v1 := h.blk.cell 1
theorem Dec.c2 (h : Dec w0 w S b rb dd rr s v0 v1 v2 v3 v4 v5) : w.cell? ⟨dd, 2, none⟩ = some v2 := h.blk.cell 2
theorem Dec.c3 (h : Dec w0 w S b rb dd rr s v0 v1 v2 v3 v4 v5) : w.cell? ⟨dd, 3, none⟩ = some v3 := h.blk.cell 3
theorem Dec.c4 (h : Dec w0 w S b rb dd rr s v0 v1 v2 v3 v4 v5) : w.cell? ⟨dd, 4, none⟩ = some v4 := h.blk.cell 4
theorem Dec.c5 (h : Dec w0 w S b rb dd rr s v0 v1 v2 v3 v4 v5) : w.cell? ⟨dd, 5, none⟩ = some v5 := h.blk.cell 5
theorem Dec.g (h : Dec w0 w S b rb dd rr s v0 v1 v2 v3 v4 v5) (i : Nat) : w.frozen? ⟨dd, i, none⟩ = false := h.blk.free i
theorem Dec.r0 (h : Dec w0 w S b rb dd rr s v0 v1 v2 v3 v4 v5) : w.cell? ⟨rr, 0, none⟩ = some (.int .u64 0) := h.res.cell 0
theorem Dec.r1 (h : Dec w0 w S b rb dd rr s v0 v1 v2 v3 v4 v5) : w.cell? ⟨rr, 1, none⟩ = some (.int .u64 0) := h.res.cell 1
theorem Dec.r2 (h : Dec w0 w S b rb dd rr s v0 v1 v2 v3 v4 v5) : w.cell? ⟨rr, 2, none⟩ = some (.int .u64 0) := h.res.cell 2
theorem Dec.r3 (h : Dec w0 w S b rb dd rr s v0 v1 v2 v3 v4 v5) : w.cell? ⟨rr, 3, none⟩ = some (.int .u64 0) := h.res.cell 3
theorem Dec.r4 (h : Dec w0 w S b rb dd rr s v0 v1 v2 v3 v4 v5) : w.cell? ⟨rr, 4, none⟩ = some (.int .i64 0) := h.res.cell 4
theorem Dec.r5 (h : Dec w0 w S b rb dd rr s v0 v1 v2 v3 v4 v5) : w.cell? ⟨rr, 5, none⟩ = some (.slice none 0 0) := h.res.cell 5
theorem Dec.q (h : Dec w0 w S b rb dd rr s v0 v1 v2 v3 v4 v5) (i : Nat) : w.frozen? ⟨rr, i, none⟩ = false := h.res.free i
theorem Dec.f0 (h : Dec w0 w S b rb dd rr s v0 v1 v2 v3 v4 v5) : w.cell? ⟨b, 0, none⟩ = some (.pointer (some ⟨rb, 0, none⟩)) := h.fd.2.1.cell 0
theorem Dec.f1 (h : Dec w0 w S b rb dd rr s v0 v1 v2 v3 v4 v5) : w.cell? ⟨b, 1, none⟩ = some (.int .i64 s.2) := h.fd.2.1.cell 1
theorem Dec.one (h : Dec w0 w S b rb dd rr s v0 v1 v2 v3 v4 v5) (hr : s.1.length ≤ 140737488355328) :
    Calls Tryd.prog 30 #[.pointer (some ⟨b, 0, none⟩)] w fun e w' => e = .returned (.int .u8 (oneV s)) ∧ Dec w0 w' S b rb dd rr (oneS s) v0 v1 v2 v3 v4 v5 :=
  (one_f h.fd hr).mono fun e w' ⟨he, h1, h2⟩ => ⟨he, h.call h1 h2⟩
theorem Dec.num (h : Dec w0 w S b rb dd rr s v0 v1 v2 v3 v4 v5) (hb : Bytes s.1) (hr : s.1.length ≤ 140737488355328) :
    Calls Tryd.prog 31 #[.pointer (some ⟨b, 0, none⟩)] w fun e w' => e = .returned (.int .u64 (numV s)) ∧ Dec w0 w' S b rb dd rr (numS s) v0 v1 v2 v3 v4 v5 :=
  (num_f h.fd hb hr).mono fun e w' ⟨he, h1, h2⟩ => ⟨he, h.call h1 h2⟩
theorem Dec.word (h : Dec w0 w S b rb dd rr s v0 v1 v2 v3 v4 v5) (hb : Bytes s.1) (hr : s.1.length ≤ 140737488355328) :
    Calls Tryd.prog 32 #[.pointer (some ⟨b, 0, none⟩)] w fun e w' => e = .returned (.int .u64 (wordV s)) ∧ Dec w0 w' S b rb dd rr (wordS s) v0 v1 v2 v3 v4 v5 :=
  (word_f h.fd hb hr).mono fun e w' ⟨he, h1, h2⟩ => ⟨he, h.call h1 h2⟩
theorem Dec.need (h : Dec w0 w S b rb dd rr s v0 v1 v2 v3 v4 v5) (ok : Bool) (er : Int) :
    Calls Tryd.prog 29 #[.pointer (some ⟨b, 0, none⟩), .bool ok, .int .i64 er] w fun e w' => e = .returned (.tuple #[]) ∧ Dec w0 w' S b rb dd rr (HeadPlain.need ok er s) v0 v1 v2 v3 v4 v5 ∧ Fr (fun k => k = b ∨ k = rb) w w' :=
  (need_any h.fd ok er).mono fun e w' ⟨he, h1, h2⟩ => ⟨he, h.call h1 h2, h2⟩
theorem Dec.take (h : Dec w0 w S b rb dd rr s v0 v1 v2 v3 v4 v5) (hr : s.1.length ≤ 140737488355328) (n : Int) (n0 : 0 ≤ n) (n1 : n ≤ 4611686018427387903) :
    Calls Tryd.prog 33 #[.pointer (some ⟨b, 0, none⟩), .int .u64 n] w fun e w' => ∃ a cap, e = .returned (.slice a (takeV n s).length cap) ∧
      (takeV n s).length ≤ cap ∧ cap ≤ maxLen ∧ (a = none → (takeV n s).length = 0 ∧ cap = 0) ∧ RowIn (fun k => w.heap.size ≤ k) w' a ((takeV n s).map (.int .u8)) ∧ Dec w0 w' S b rb dd rr (takeS n s) v0 v1 v2 v3 v4 v5 :=
  (take_f h.fd hr n n0 n1).mono fun e w' ⟨a, cap, he, h1, h2, h3, h4, h5, h6⟩ => ⟨a, cap, he, h1, h2, h3, h4, h.call h5 h6⟩
theorem Dec.left (h : Dec w0 w S b rb dd rr s v0 v1 v2 v3 v4 v5) :
    Calls Tryd.prog 34 #[.pointer (some ⟨rb, 0, none⟩)] w fun e w' => e = .returned (.int .i64 s.1.length) ∧ w = w' := left_any h.fd.2.2
end
theorem dec_start {w w1 : World} {rb : Nat} {l : List Int} {o1 o2 : Obj} (h1 : o1 = .cells #[.int .u64 0, .int .u64 0, .int .u64 0, .int .u64 0, .int .i64 0, .slice none 0 0] 25) (h2 : o2 = .cells #[.int .u64 0, .int .u64 0, .int .u64 0, .int .u64 0, .int .i64 0, .slice none 0 0] 25)
    (H : Rd (fun k => ((w.alloc o1).alloc o2).heap.size ≤ k ∧ k < w1.heap.size) w1 rb l) (L : Below ((w.alloc o1).alloc o2).heap.size ((w.alloc o1).alloc o2) w1) :
    Dec w (w1.alloc (.cells #[.pointer (some ⟨rb, 0, none⟩), .int .i64 0] 58)) (fun k => w.heap.size + 2 ≤ k ∧ k < w1.heap.size) w1.heap.size rb (w.heap.size + 1) w.heap.size (l, 0) (.int .u64 0) (.int .u64 0) (.int .u64 0) (.int .u64 0) (.int .i64 0) (.slice none 0 0) := by
  subst h1 h2
  have hs := L.size
  simp only [World.size_alloc] at hs H
  have F : Fr (fun _ => False) w1 (w1.alloc (.cells #[.pointer (some ⟨rb, 0, none⟩), .int .i64 0] 58)) := Fr.alloc (Fr.refl _ _) _
  have B1 : Blk w1 w.heap.size #[.int .u64 0, .int .u64 0, .int .u64 0, .int .u64 0, .int .i64 0, .slice none 0 0] 25 := ((Blk.new w _ _).alloc _).below L (by simp only [World.size_alloc]; omega)
  have B2 : Blk w1 (w.heap.size + 1) #[.int .u64 0, .int .u64 0, .int .u64 0, .int .u64 0, .int .i64 0, .slice none 0 0] 25 := by
    have := Blk.new (w.alloc (.cells #[.int .u64 0, .int .u64 0, .int .u64 0, .int .u64 0, .int .i64 0, .slice none 0 0] 25)) #[.int .u64 0, .int .u64 0, .int .u64 0, .int .u64 0, .int .i64 0, .slice none 0 0] 25
    rw [World.size_alloc] at this
    exact this.below L (by simp only [World.size_alloc]; omega)
  refine ⟨⟨by omega, Blk.new _ _ _, ?_⟩, B2.kept F (fun h => h), B1.kept F (fun h => h), ?_, fun k hk => by omega, by omega, by omega⟩
  · exact H.kept F fun _ _ h => h
  · refine Below.alloc ?_ (by omega) _
    exact (((Below.refl w.heap.size w).alloc (Nat.le_refl _) _).alloc (by simp) _).trans (L.mono (by simp only [World.size_alloc]; omega))
theorem results_row2 {P : Program} {fn : Func} {p u : Tmp} {ty : TypeId} (h : fn.results = #[.cell p ty, .tmp u]) (tmps : Array Value) (w : World) (g : Nat) (t : TypeId) (cs : Array Value) (d : TypeDesc)
    (hp : tmps.getD p undef = .pointer (some ⟨g, 0, none⟩)) (hg : Blk w g cs t)
    (hu : P.underlying ty = some d) (hd : (match d with | .struct _ | .array _ _ => true | _ => false) = true) (hi : (P.info? ty).map (·.size) = some cs.size) :
    (results fn tmps).run P w = .ok (.tuple #[.agg cs, tmps.getD u undef]) w := by
  rw [results_cell_tmp h, hp]
  simp [asAddr, run_loadVar_row w g t ty cs (0, 0) d hg hu hd hi]
/-- Six cells of a block, one behind the other. -/
def set6 (w : World) (g : Nat) (v0 v1 v2 v3 v4 v5 : Value) : World := (((((w.setCell ⟨g, 0, none⟩ v0).setCell ⟨g, 1, none⟩ v1).setCell ⟨g, 2, none⟩ v2).setCell ⟨g, 3, none⟩ v3).setCell ⟨g, 4, none⟩ v4).setCell ⟨g, 5, none⟩ v5
theorem set6_blk {w : World} {g : Nat} {T : TypeId} {u0 u1 u2 u3 u4 u5 : Value} (h : Blk w g #[u0, u1, u2, u3, u4, u5] T) (v0 v1 v2 v3 v4 v5 : Value) : Blk (set6 w g v0 v1 v2 v3 v4 v5) g #[v0, v1, v2, v3, v4, v5] T :=
  (((((h.set 0 v0).set 1 v1).set 2 v2).set 3 v3).set 4 v4).set 5 v5
theorem set6_fr (w : World) (g : Nat) (v0 v1 v2 v3 v4 v5 : Value) : Fr (fun k => k = g) w (set6 w g v0 v1 v2 v3 v4 v5) := by
  have hp : ∀ (i : Nat), (⟨g, i, none⟩ : Addr).block < w.heap.size → (⟨g, i, none⟩ : Addr).block = g := fun _ _ => rfl
  exact Fr.setCell (S := fun k => k = g) (p := ⟨g, 5, none⟩) (Fr.setCell (S := fun k => k = g) (p := ⟨g, 4, none⟩) (Fr.setCell (S := fun k => k = g) (p := ⟨g, 3, none⟩) (Fr.setCell (S := fun k => k = g) (p := ⟨g, 2, none⟩) (Fr.setCell (S := fun k => k = g) (p := ⟨g, 1, none⟩) (Fr.setCell (S := fun k => k = g) (p := ⟨g, 0, none⟩) (Fr.refl _ _) (hp 0) _) (hp 1) _) (hp 2) _) (hp 3) _) (hp 4) _) (hp 5) _
theorem decode_any (a : Option Addr) (n cap : Nat) (l : List Int) (w : World) (hn : l.length = n) (hc : n ≤ cap) (hr : n ≤ 140737488355328) (h0 : a = none → n = 0 ∧ cap = 0) (hb : Bytes l) (hz : Ints .u8 w a l) :
    Calls Tryd.prog 14 #[.slice a n cap] w fun e w' => ∃ a' m c, e = .returned (.tuple #[.agg #[.int .u64 (getData l).1.pn, .int .u64 (getData l).1.least, .int .u64 (getData l).1.off, .int .u64 (getData l).1.nonce, .int .i64 (getData l).1.ecn, .slice a' m c], .int .i64 (getData l).2]) ∧
      (getData l).1.body.length = m ∧ m ≤ c ∧ c ≤ maxLen ∧ (a' = none → m = 0 ∧ c = 0) ∧ RowIn (fun k => w.heap.size ≤ k) w' a' ((getData l).1.body.map (.int .u8)) ∧ Below w.heap.size w w' := by
  obtain ⟨x, hx⟩ : ∃ x, x = oneV (l, 0) := ⟨_, rfl⟩
  obtain ⟨s0, hs0⟩ : ∃ s, s = oneS (l, 0) := ⟨_, rfl⟩
  obtain ⟨s1, hs1⟩ : ∃ s, s = need (decide (x = 1)) 4 s0 := ⟨_, rfl⟩
  obtain ⟨y, hy⟩ : ∃ x, x = oneV s1 := ⟨_, rfl⟩
  obtain ⟨s2, hs2⟩ : ∃ s, s = oneS s1 := ⟨_, rfl⟩
  obtain ⟨s3, hs3⟩ : ∃ s, s = need (point y) 5 s2 := ⟨_, rfl⟩
  obtain ⟨pn, hpn⟩ : ∃ x, x = numV s3 := ⟨_, rfl⟩
  obtain ⟨s4, hs4⟩ : ∃ s, s = numS s3 := ⟨_, rfl⟩
  obtain ⟨least, hle⟩ : ∃ x, x = numV s4 := ⟨_, rfl⟩
  obtain ⟨s5, hs5⟩ : ∃ s, s = numS s4 := ⟨_, rfl⟩
  obtain ⟨s6, hs6⟩ : ∃ s, s = need (decide (least ≤ pn)) 5 s5 := ⟨_, rfl⟩
  obtain ⟨off, hof⟩ : ∃ x, x = numV s6 := ⟨_, rfl⟩
  obtain ⟨s7, hs7⟩ : ∃ s, s = numS s6 := ⟨_, rfl⟩
  obtain ⟨nonce, hno⟩ : ∃ x, x = wordV s7 := ⟨_, rfl⟩
  obtain ⟨s8, hs8⟩ : ∃ s, s = wordS s7 := ⟨_, rfl⟩
  obtain ⟨size, hsi⟩ : ∃ x, x = numV s8 := ⟨_, rfl⟩
  obtain ⟨s9, hs9⟩ : ∃ s, s = numS s8 := ⟨_, rfl⟩
  obtain ⟨ok, hok⟩ : ∃ v, v = fits off size := ⟨_, rfl⟩
  obtain ⟨s10, hs10⟩ : ∃ s, s = need ok 5 s9 := ⟨_, rfl⟩
  obtain ⟨body, hbo⟩ : ∃ x, x = takeV size s10 := ⟨_, rfl⟩
  obtain ⟨s11, hs11⟩ : ∃ s, s = takeS size s10 := ⟨_, rfl⟩
  obtain ⟨s12, hs12⟩ : ∃ s, s = need (decide ((s11.1.length : Int) = 0)) 3 s11 := ⟨_, rfl⟩
  have HD : getData l = fin s12 ⟨pn, least, off, nonce, y, body⟩ := by
    rw [← t0_eq hb]
    subst hs12 hs11 hbo hs10 hok hs9 hsi hs8 hno hs7 hof hs6 hs5 hle hs4 hpn hs3 hs2 hy hs1 hs0 hx
    rfl
  have b0 : Bytes s0.1 := by rw [hs0]; exact takeS_bytes hb
  have b1 : Bytes s1.1 := by rw [hs1]; exact b0
  have b2 : Bytes s2.1 := by rw [hs2]; exact takeS_bytes b1
  have b3 : Bytes s3.1 := by rw [hs3]; exact b2
  have b4 : Bytes s4.1 := by rw [hs4]; exact numS_bytes b3
  have b5 : Bytes s5.1 := by rw [hs5]; exact numS_bytes b4
  have b6 : Bytes s6.1 := by rw [hs6]; exact b5
  have b7 : Bytes s7.1 := by rw [hs7]; exact numS_bytes b6
  have b8 : Bytes s8.1 := by rw [hs8]; exact wordS_bytes b7
  have b9 : Bytes s9.1 := by rw [hs9]; exact numS_bytes b8
  have l0 : s0.1.length ≤ 140737488355328 := by rw [hs0]; exact Nat.le_trans (takeS_len _ _) (by show l.length ≤ _; omega)
  have l1 : s1.1.length ≤ 140737488355328 := by rw [hs1]; exact l0
  have l2 : s2.1.length ≤ 140737488355328 := by rw [hs2]; exact Nat.le_trans (takeS_len _ _) l1
  have l3 : s3.1.length ≤ 140737488355328 := by rw [hs3]; exact l2
  have l4 : s4.1.length ≤ 140737488355328 := by rw [hs4]; exact Nat.le_trans (numS_len _) l3
  have l5 : s5.1.length ≤ 140737488355328 := by rw [hs5]; exact Nat.le_trans (numS_len _) l4
  have l6 : s6.1.length ≤ 140737488355328 := by rw [hs6]; exact l5
  have l7 : s7.1.length ≤ 140737488355328 := by rw [hs7]; exact Nat.le_trans (numS_len _) l6
  have l8 : s8.1.length ≤ 140737488355328 := by rw [hs8]; exact Nat.le_trans (wordS_len _) l7
  have l9 : s9.1.length ≤ 140737488355328 := by rw [hs9]; exact Nat.le_trans (numS_len _) l8
  have l10 : s10.1.length ≤ 140737488355328 := by rw [hs10]; exact l9
  have yb : 0 ≤ y ∧ y ≤ 255 := by rw [hy]; exact oneV_bd b1
  have pb : 0 ≤ pn ∧ pn ≤ 4611686018427387903 := by rw [hpn]; exact numV_bd b3
  have lb : 0 ≤ least ∧ least ≤ 4611686018427387903 := by rw [hle]; exact numV_bd b4
  have ob : 0 ≤ off ∧ off ≤ 4611686018427387903 := by rw [hof]; exact numV_bd b6
  have nb : 0 ≤ nonce ∧ nonce ≤ 18446744073709551615 := by rw [hno]; exact wordV_bd b7
  have sb : 0 ≤ size ∧ size ≤ 4611686018427387903 := by rw [hsi]; exact numV_bd b8
  obtain ⟨y0, y1⟩ := yb
  obtain ⟨p0, p1⟩ := pb
  obtain ⟨q0, q1⟩ := lb
  obtain ⟨o0, o1⟩ := ob
  obtain ⟨n0, n1⟩ := nb
  obtain ⟨z0, z1⟩ := sb
  have fx := Lib.hid hx
  have fs0 := Lib.hid hs0
  have fs1 := Lib.hid hs1
  have fy := Lib.hid hy
  have fs2 := Lib.hid hs2
  have fs3 := Lib.hid hs3
  have fpn := Lib.hid hpn
  have fs4 := Lib.hid hs4
  have fle := Lib.hid hle
  have fs5 := Lib.hid hs5
  have fs6 := Lib.hid hs6
  have fof := Lib.hid hof
  have fs7 := Lib.hid hs7
  have fno := Lib.hid hno
  have fs8 := Lib.hid hs8
  have fsi := Lib.hid hsi
  have fs9 := Lib.hid hs9
  have fok := Lib.hid hok
  have fs10 := Lib.hid hs10
  have fbo := Lib.hid hbo
  have fs11 := Lib.hid hs11
  have fs12 := Lib.hid hs12
  clear hx hs0 hs1 hy hs2 hs3 hpn hs4 hle hs5 hs6 hof hs7 hno hs8 hsi hs9 hok hs10 hbo hs11 hs12
  rw [HD]
  clear HD
  go_enter Tryd.func14, Tryd.ntmps14
  go_wp2_with (first
    | (go_at_call 28; refine (new_any a n cap l _ hn hc hr h0 (Row.alloc (Row.alloc hz _) _)).mono ?_; rintro e w1 ⟨rb, rfl, H1, L1⟩; have hw1 : w.heap.size + 2 ≤ w1.heap.size := (by have := L1.size; simp only [World.size_alloc] at this; omega); have D0 := dec_start rfl rfl H1 L1; clear H1 L1 hz)
    | (refine (Dec.one D0 (by show l.length ≤ _; omega)).mono ?_; rw [← fx.out, ← fs0.out]; rintro e w2 ⟨rfl, D1⟩; clear D0)
    | (refine (Dec.need D1 (decide (x = 1)) 4).mono ?_; rw [← fs1.out]; rintro e w3 ⟨rfl, D2, _⟩; clear D1)
    | (refine (Dec.one D2 l1).mono ?_; rw [← fy.out, ← fs2.out]; rintro e w4 ⟨rfl, D3⟩; have c4 := D3.c4; have g4 := D3.g 4; clear D2)
    | (go_at_call 24; refine (point_any y _).mono ?_; rintro e w' ⟨rfl, rfl⟩)
    | (refine (Dec.need (D3.put4 _) (point y) 5).mono ?_; rw [← fs3.out]; rintro e w5 ⟨rfl, D4, _⟩; clear D3 c4 g4)
    | (refine (Dec.num D4 b3 l3).mono ?_; rw [← fpn.out, ← fs4.out]; rintro e w6 ⟨rfl, D5⟩; have c0 := D5.c0; have g0 := D5.g 0; clear D4)
    | (refine (Dec.num (D5.put0 _) b4 l4).mono ?_; rw [← fle.out, ← fs5.out]; rintro e w7 ⟨rfl, D6⟩; clear c0 g0 D5; have c0 := D6.c0; have c1 := D6.c1; have g1 := D6.g 1)
    | (refine (Dec.need (D6.put1 _) (decide (least ≤ pn)) 5).mono ?_; rw [← fs6.out]; rintro e w8 ⟨rfl, D7, _⟩; clear D6 c0 c1 g1)
    | (refine (Dec.num D7 b6 l6).mono ?_; rw [← fof.out, ← fs7.out]; rintro e w9 ⟨rfl, D8⟩; have c2 := D8.c2; have g2 := D8.g 2; clear D7)
    | (refine (Dec.word (D8.put2 _) b7 l7).mono ?_; rw [← fno.out, ← fs8.out]; rintro e w10 ⟨rfl, D9⟩; clear D8 c2 g2; have c3 := D9.c3; have g3 := D9.g 3)
    | (refine (Dec.num (D9.put3 _) b8 l8).mono ?_; rw [← fsi.out, ← fs9.out]; rintro e w11 ⟨rfl, D10⟩; clear D9 c3 g3; have c2 := D10.c2)
    | (go_at_call 25; refine (fits_any off size z0 (by omega) _).mono ?_; rw [← fok.out]; rintro e w' ⟨rfl, rfl⟩)
    | (refine (Dec.need D10 ok 5).mono ?_; rw [← fs10.out]; rintro e w12 ⟨rfl, D11, _⟩; clear D10 c2)
    | (refine (Dec.take D11 l10 size z0 z1).mono ?_; rw [← fbo.out, ← fs11.out]; rintro e w13 ⟨a13, cap13, rfl, k1, k2, k3, R13, D12⟩; have hs13 := D11.fd.2.1.lt; have hs13' := D11.fd.2.2.2; have c5 := D12.c5; have g5 := D12.g 5; have e0 := D12.f0; clear D11)
    | (refine (Dec.left (D12.put5 _)).mono ?_; rintro e w' ⟨rfl, rfl⟩)
    | (refine (Dec.need (D12.put5 _) (decide ((s11.1.length : Int) = 0)) 3).mono ?_; rw [← fs12.out]; rintro e w14 ⟨rfl, D13, F14⟩; clear D12 c5 g5 e0; have e1 := D13.f1; have d0 := D13.c0; have d1 := D13.c1; have d2 := D13.c2; have d3 := D13.c3; have d4 := D13.c4; have d5 := D13.c5; have r0 := D13.r0; have r1 := D13.r1; have r2 := D13.r2; have r3 := D13.r3; have r4 := D13.r4; have r5 := D13.r5; have u0 := D13.q 0; have u1 := D13.q 1; have u2 := D13.q 2; have u3 := D13.q 3; have u4 := D13.q 4; have u5 := D13.q 5; have nbr : ¬ w1.heap.size = w.heap.size := D13.bnew.2.2; have nrb : ¬ w.heap.size = w1.heap.size := fun e => nbr e.symm))
  · go_region
    all_goals go_wp2
    rename_i hE
    have hE' : s12.2 ≠ 0 := by simpa using hE
    rw [fin_err _ _ hE']
    refine bodyPost_ret (results_row2 rfl _ _ w.heap.size 25 #[.int .u64 0, .int .u64 0, .int .u64 0, .int .u64 0, .int .i64 0, .slice none 0 0] _ rfl (Blk.drew (set6_blk D13.res _ _ _ _ _ _)) Tryd.underlying25 rfl (by kernel_rfl)) rfl ?_
    exact ⟨none, 0, 0, rfl, rfl, Nat.le_refl _, Nat.zero_le _, (fun _ => ⟨rfl, rfl⟩), RowIn.nil _ _ _, Base.drew1 ((set6_fr _ _ _ _ _ _ _ _).below D13.below D13.below.size (by rintro k rfl; exact Nat.le_refl _))⟩
  · rename_i hE
    have hE' : s12.2 = 0 := by simpa using hE
    have hf : fin s12 ⟨pn, least, off, nonce, y, body⟩ = (⟨pn, least, off, nonce, y, body⟩, 0) := if_neg (fun h => h hE')
    rw [hf]
    refine bodyPost_ret (results_row2 rfl _ _ w.heap.size 25 #[.int .u64 pn, .int .u64 least, .int .u64 off, .int .u64 nonce, .int .i64 y, .slice a13 body.length cap13] _ rfl (set6_blk D13.res _ _ _ _ _ _) Tryd.underlying25 rfl (by kernel_rfl)) rfl ?_
    obtain ⟨_, _, hrb, _⟩ := hs13'
    have hrb := hrb.lt
    have F13 : Fr (fun k => k = w.heap.size + 1) w13 (w13.setCell ⟨w.heap.size + 1, 5, none⟩ (.slice a13 body.length cap13)) := Fr.setCell (S := fun k => k = w.heap.size + 1) (Fr.refl _ _) (p := ⟨w.heap.size + 1, 5, none⟩) (fun _ => rfl) _
    have FF : Fr (fun k => k = w.heap.size + 1 ∨ k = w1.heap.size ∨ k = rb ∨ k = w.heap.size) w13 (set6 w14 w.heap.size (.int .u64 pn) (.int .u64 least) (.int .u64 off) (.int .u64 nonce) (.int .i64 y) (.slice a13 body.length cap13)) :=
      ((F13.mono fun k _ h => Or.inl h).trans F14 (fun k _ h => Or.inr (by rcases h with h | h; exact Or.inl h; exact Or.inr (Or.inl h)))).trans (set6_fr _ _ _ _ _ _ _ _) (fun k _ h => Or.inr (Or.inr (Or.inr h)))
    exact ⟨a13, body.length, cap13, rfl, rfl, k1, k2, k3, (R13.kept FF (fun k hk h => by omega)).mono (fun k _ hk => by omega), (set6_fr _ _ _ _ _ _ _ _).below D13.below D13.below.size (by rintro k rfl; exact Nat.le_refl _)⟩
end Go.Proofs.YtbdafmomjboaaaaDoor.Head
