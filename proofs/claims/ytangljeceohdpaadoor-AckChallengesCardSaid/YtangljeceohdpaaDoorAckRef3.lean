/-
  Contracts of the reference's encoding and reading of an acknowledgment.
-/
import Derived.Test.YtangljeceohdpaaDoorAckRef2
namespace Go.Proofs.YtangljeceohdpaaDoor.Ack
set_option linter.unusedVariables false
set_option maxRecDepth 20000
open Go.ChangeShapes Go.WideShapes Go.ChangeAt Go.RowKit
open Go.Proofs.YtangljeceohdpaaDoor.Base Go.Proofs.YtangljeceohdpaaDoor.OctPlain Go.Proofs.YtangljeceohdpaaDoor.Tab Go.Proofs.YtangljeceohdpaaDoor.Oct Go.Proofs.YtangljeceohdpaaDoor.SpanPlain Go.Proofs.YtangljeceohdpaaDoor.SpanRef
open Go.Proofs.YtangljeceohdpaaDoor.AckPlain (K putAck getAck getRow getSp putSp getNum comb Fit)
open Go.Proofs.YtangljeceohdpaaDoor.HeadPlain (wrd wrd_len wrd_bd)

/-- An acknowledgment being written: its block at the first world's end, the bytes so far in a row of the call's own. -/
structure Enc (w0 w : World) (v : Value) (xs : List Int) (x : K) (a : Option Addr) (n c : Nat) (b : Option Addr) (m d : Nat) : Prop where
  blk : Blk w w0.heap.size #[.slice a n c, .slice b m d, .int .u64 x.trigger, .int .u64 x.xor, .bool x.parity] 25
  own : Oct.Own (w0.heap.size + 1) w v xs
  below : Below w0.heap.size w0 w
section
variable {w0 w w' : World} {v v' : Value} {xs ps : List Int} {x : K} {a b : Option Addr} {n c m d : Nat}
theorem Enc.fr (h : Enc w0 w v xs x a n c b m d) (ho : Oct.Own (w0.heap.size + 1) w' v' ps) (hf : Fr (fun k => w0.heap.size + 1 ≤ k) w w') : Enc w0 w' v' ps x a n c b m d :=
  ⟨h.blk.kept hf (by omega), ho, hf.below h.below h.below.size (fun k hk => by omega)⟩
theorem Enc.size (h : Enc w0 w v xs x a n c b m d) : w0.heap.size + 1 ≤ w.heap.size := by have := h.blk.lt; omega
theorem Enc.spans (h : Enc w0 w v xs x a n c b m d) {e : Option Addr} {l : List Sp} (hz : Spans w0 e l) : ∀ w', Fr (fun k => w0.heap.size + 1 ≤ k) w w' → Spans w' e l := fun w' hf => hz.below (hf.below h.below h.below.size (fun k hk => by omega))
end
theorem enc_start (w : World) (x : K) (a : Option Addr) (n c : Nat) (b : Option Addr) (m d : Nat) :
    Enc w ((w.alloc (.cells #[.slice a n c, .slice b m d, .int .u64 x.trigger, .int .u64 x.xor, .bool x.parity] 25)).alloc (.cells #[.int .u8 2] 5)) (.slice (some ⟨w.heap.size + 1, 0, none⟩) 1 1) [2] x a n c b m d := by
  have h := World.ownsRow_lit (base := w.heap.size + 1) (e := 5) (size := 1) (w.alloc (.cells #[.slice a n c, .slice b m d, .int .u64 x.trigger, .int .u64 x.xor, .bool x.parity] 25)) #[.int .u8 2] 1 (by simp) (by decide) rfl
  rw [World.size_alloc] at h
  exact ⟨(Blk.new w _ _).alloc _, h, ((Below.refl _ _).alloc (Nat.le_refl _) _).alloc (by simp) _⟩
theorem put_parts (x : K) : putAck x = [2] ++ AckPlain.putRow x.spans ++ AckPlain.putRow x.marked ++ be 8 x.trigger ++ be 8 x.xor ++ [AckPlain.byteOf x.parity] := by
  unfold putAck AckPlain.q1 AckPlain.q2 AckPlain.q3 AckPlain.q4 AckPlain.q5
  simp
theorem put_row_len (l : List Sp) : (AckPlain.putRow l).length ≤ 1 + 16 * l.length := by
  have := AckPlain.put_sp_len l 0
  unfold AckPlain.putRow
  rw [List.length_cons]
  omega
set_option maxHeartbeats 1000000 in
theorem ref_put_ack_own (x : K) (a b : Option Addr) (n c m d : Nat) (w : World) (hn : x.spans.length = n) (hm : x.marked.length = m) (hx : AckPlain.may x = true) (hf : Fit x) (hs : Spans w a x.spans) (ht : Spans w b x.marked) :
    Calls Tryd.prog 12 #[.agg #[.slice a n c, .slice b m d, .int .u64 x.trigger, .int .u64 x.xor, .bool x.parity]] w fun e w' => ∃ v', e = .returned v' ∧ Oct.Own (w.heap.size + 1) w' v' (putAck x) ∧ Below w.heap.size w w' := by
  obtain ⟨m1, m2, m3, m4, m5, m6⟩ := AckPlain.may_iff.1 hx
  obtain ⟨⟨f1, f2⟩, f3, f4⟩ := hf
  obtain ⟨i0, hi0, hz0, hz1, hz2⟩ := info_parts Oct.info
  have HP := Lib.hid (put_parts x)
  have E0 := enc_start w x a n c b m d
  have l1 := put_row_len x.spans
  have l2 := put_row_len x.marked
  have l3 := be_len 8 x.trigger
  have l4 := be_len 8 x.xor
  have hn32 : n ≤ 32 := by omega
  have hm32 : m ≤ 32 := by omega
  have C1 := fun {W v xs} (E : Enc w W v xs x a n c b m d) h => ref_put_row E.own E.size h a n c x.spans hn hn32 m4 (E.spans hs)
  have C2 := fun {W v xs} (E : Enc w W v xs x a n c b m d) h => ref_put_row E.own E.size h b m d x.marked hm hm32 m5 (E.spans ht)
  obtain ⟨P1, g1⟩ : ∃ P, P = AckPlain.putRow x.spans := ⟨_, rfl⟩
  obtain ⟨P2, g2⟩ : ∃ P, P = AckPlain.putRow x.marked := ⟨_, rfl⟩
  obtain ⟨Q, hQ⟩ : ∃ Q, putAck x = Q := ⟨_, rfl⟩
  rw [← g1] at l1 C1 HP
  rw [← g2] at l2 C2 HP
  rw [hQ] at HP ⊢
  have q1 : P1.length ≤ 600 := by omega
  have q2 : P2.length ≤ 600 := by omega
  clear g1 g2 hQ hx l1 l2 m1 m2 m3 m4 m5 m6 hn hm hn32 hm32
  have p0 : ((w.alloc (.cells #[.slice a n c, .slice b m d, .int .u64 x.trigger, .int .u64 x.xor, .bool x.parity] 25)).alloc (.cells #[.int .u8 2] 5)).cell? ⟨w.heap.size, 0, none⟩ = some (.slice a n c) := E0.blk.cell 0
  go_enter Tryd.func12, Tryd.ntmps12
  go_wp2_with (first
    | (go_at_call 27; (with_reducible refine (C1 E0 (by simp)).mono ?_); rintro e w1 ⟨v1, rfl, O1, F1⟩; have E1 := E0.fr O1 F1; obtain ⟨_, p1, _, _, _⟩ := blk5 E1.blk; clear C1 E0 O1 F1 p0)
    | (go_at_call 27; refine (C2 E1 (by simp; omega)).mono ?_; rintro e w2 ⟨v2, rfl, O2, F2⟩; have E2 := E1.fr O2 F2; obtain ⟨_, _, p2, _, _⟩ := blk5 E2.blk; clear C2 E1 O2 F2 p1)
    | (go_at_call 28; refine (ref_eight E2.own E2.size (by simp; omega) x.trigger f1 f2).mono ?_; rintro e w3 ⟨v3, rfl, O3, F3⟩; have E3 := E2.fr O3 F3; obtain ⟨_, _, _, p3, _⟩ := blk5 E3.blk; clear E2 O3 F3 p2)
    | (go_at_call 28; refine (ref_eight E3.own E3.size (by simp only [List.length_append, List.length_cons, List.length_nil]; omega) x.xor f3 f4).mono ?_; rintro e w4 ⟨v4, rfl, O4, F4⟩; have E4 := E3.fr O4 F4; obtain ⟨_, _, _, _, p4⟩ := blk5 E4.blk; clear E3 O4 F4 p3; cases hpar : x.parity)
    | (at_builtin; refine wpl_append_row _ rfl (.tmp 22) (.tmp 23) _ rfl (w.heap.size + 1) 5 i0 _ 1 1 Tryd.underlying27 hi0 hz0 hz1 hz2 rfl (by omega) _ _ _ rfl (E4.own.alloc _) (some ⟨w4.heap.size, 0, none⟩) 1 1 [.int .u8 1] rfl rfl (Row.lit w4 _ [.int .u8 1]) (by simp [Value.oneCell']) (by unfold maxLen; simp only [List.length_append, List.length_cons, List.length_nil]; omega) (by simp only [List.length_append, List.length_cons, List.length_nil]; omega) (by have := E4.size; simp; omega) ?_; intro v5 w5 hown hg hat; have F5 := Oct.Own.turned E4.own hg; have E5 := E4.fr (Oct.Own.snoc hown) F5; clear hown hg hat F5)
    | (at_builtin; refine wpl_append_row _ rfl (.tmp 25) (.tmp 26) _ rfl (w.heap.size + 1) 5 i0 _ 1 1 Tryd.underlying27 hi0 hz0 hz1 hz2 rfl (by omega) _ _ _ rfl (E4.own.alloc _) (some ⟨w4.heap.size, 0, none⟩) 1 1 [.int .u8 0] rfl rfl (Row.lit w4 _ [.int .u8 0]) (by simp [Value.oneCell']) (by unfold maxLen; simp only [List.length_append, List.length_cons, List.length_nil]; omega) (by simp only [List.length_append, List.length_cons, List.length_nil]; omega) (by have := E4.size; simp; omega) ?_; intro v5 w5 hown hg hat; have F5 := Oct.Own.turned E4.own hg; have E5 := E4.fr (Oct.Own.snoc hown) F5; clear hown hg hat F5))
  all_goals go_ret
  all_goals exact ⟨v5, rfl, by rw [HP.out, hpar]; exact E5.own, E5.below⟩
theorem ref_put_ack (x : K) (a b : Option Addr) (n c m d : Nat) (w : World) (hn : x.spans.length = n) (hm : x.marked.length = m) (hx : AckPlain.may x = true) (hf : Fit x) (hs : Spans w a x.spans) (ht : Spans w b x.marked) :
    Calls Tryd.prog 12 #[.agg #[.slice a n c, .slice b m d, .int .u64 x.trigger, .int .u64 x.xor, .bool x.parity]] w fun e w' => ∃ a' c, e = .returned (.slice a' (putAck x).length c) ∧ (putAck x).length ≤ c ∧ c ≤ maxLen ∧ (a' = none → (putAck x).length = 0 ∧ c = 0) ∧
      RowIn (fun k => w.heap.size ≤ k) w' a' ((putAck x).map (.int .u8)) ∧ Below w.heap.size w w' := by
  refine (ref_put_ack_own x a b n c m d w hn hm hx hf hs ht).mono ?_
  rintro e w' ⟨v, rfl, hO, hL⟩
  obtain ⟨aQ, cQ, rfl, q1, q2, q3, q4⟩ := hO.read
  exact ⟨aQ, cQ, rfl, q1, q2, q3, q4.mono (fun k _ hk => by omega), hL⟩
theorem results_row2 {P : Program} {fn : Func} {p u : Tmp} {ty : TypeId} (h : fn.results = #[.cell p ty, .tmp u]) (tmps : Array Value) (w : World) (g : Nat) (t : TypeId) (cs : Array Value) (d : TypeDesc)
    (hp : tmps.getD p undef = .pointer (some ⟨g, 0, none⟩)) (hg : Blk w g cs t)
    (hu : P.underlying ty = some d) (hd : (match d with | .struct _ | .array _ _ => true | _ => false) = true) (hi : (P.info? ty).map (·.size) = some cs.size) :
    (results fn tmps).run P w = .ok (.tuple #[.agg cs, tmps.getD u undef]) w := by
  rw [results_cell_tmp h, hp]
  simp [asAddr, run_loadVar_row w g t ty cs (0, 0) d hg hu hd hi]
/-- Five cells of a block, one behind the other. -/
def set5 (w : World) (g : Nat) (v0 v1 v2 v3 v4 : Value) : World := ((((w.setCell ⟨g, 0, none⟩ v0).setCell ⟨g, 1, none⟩ v1).setCell ⟨g, 2, none⟩ v2).setCell ⟨g, 3, none⟩ v3).setCell ⟨g, 4, none⟩ v4
theorem set5_blk {w : World} {g : Nat} {T : TypeId} {u0 u1 u2 u3 u4 : Value} (h : Blk w g #[u0, u1, u2, u3, u4] T) (v0 v1 v2 v3 v4 : Value) : Blk (set5 w g v0 v1 v2 v3 v4) g #[v0, v1, v2, v3, v4] T :=
  ((((h.set 0 v0).set 1 v1).set 2 v2).set 3 v3).set 4 v4
theorem set5_fr (w : World) (g : Nat) (v0 v1 v2 v3 v4 : Value) : Fr (fun k => k = g) w (set5 w g v0 v1 v2 v3 v4) := by
  have hp : ∀ (i : Nat), (⟨g, i, none⟩ : Addr).block < w.heap.size → (⟨g, i, none⟩ : Addr).block = g := fun _ _ => rfl
  exact Fr.setCell (S := fun k => k = g) (p := ⟨g, 4, none⟩) (Fr.setCell (S := fun k => k = g) (p := ⟨g, 3, none⟩) (Fr.setCell (S := fun k => k = g) (p := ⟨g, 2, none⟩) (Fr.setCell (S := fun k => k = g) (p := ⟨g, 1, none⟩) (Fr.setCell (S := fun k => k = g) (p := ⟨g, 0, none⟩) (Fr.refl _ _) (hp 0) _) (hp 1) _) (hp 2) _) (hp 3) _) (hp 4) _
/-- What a reading comes to. -/
def AckPost (w : World) (l : List Int) : Ending → World → Prop := fun e w' => ∃ (a : Option Addr) (n c : Nat) (b : Option Addr) (m d : Nat), e = .returned (.tuple #[.agg #[.slice a n c, .slice b m d, .int .u64 (getAck l).1.trigger, .int .u64 (getAck l).1.xor, .bool (getAck l).1.parity], .int .i64 (getAck l).2]) ∧
  ((getAck l).1.spans.length = n ∧ n ≤ c ∧ c ≤ maxLen ∧ (a = none → n = 0 ∧ c = 0) ∧ RowIn (fun k => w.heap.size ≤ k) w' a (flat (getAck l).1.spans)) ∧
  ((getAck l).1.marked.length = m ∧ m ≤ d ∧ d ≤ maxLen ∧ (b = none → m = 0 ∧ d = 0) ∧ RowIn (fun k => w.heap.size ≤ k) w' b (flat (getAck l).1.marked)) ∧ Below w.heap.size w w'
/-- The acknowledgment being read by places: its variable at block dd, the result's at block rr. -/
structure Got (w0 w : World) (dd rr : Nat) (v0 v1 v2 v3 v4 : Value) : Prop where
  blk : Blk w dd #[v0, v1, v2, v3, v4] 25
  res : Blk w rr #[.slice none 0 0, .slice none 0 0, .int .u64 0, .int .u64 0, .bool false] 25
  below : Below w0.heap.size w0 w
  dnew : w0.heap.size ≤ dd ∧ dd ≠ rr
section
variable {w0 w w' : World} {dd rr : Nat} {v0 v1 v2 v3 v4 : Value}
theorem Got.put (h : Got w0 w dd rr v0 v1 v2 v3 v4) (i : Nat) (u : Value) :
    Blk (w.setCell ⟨dd, i, none⟩ u) dd (#[v0, v1, v2, v3, v4].setIfInBounds i u) 25 ∧
    Blk (w.setCell ⟨dd, i, none⟩ u) rr #[.slice none 0 0, .slice none 0 0, .int .u64 0, .int .u64 0, .bool false] 25 ∧ Below w0.heap.size w0 (w.setCell ⟨dd, i, none⟩ u) := by
  have hF : Fr (fun k => k = dd) w (w.setCell ⟨dd, i, none⟩ u) := Fr.setCell (S := fun k => k = dd) (Fr.refl _ _) (p := ⟨dd, i, none⟩) (fun _ => rfl) _
  have hd := h.dnew
  exact ⟨h.blk.set i u, h.res.kept hF (by omega), hF.below h.below h.below.size (by omega)⟩
theorem Got.put0 (h : Got w0 w dd rr v0 v1 v2 v3 v4) (u : Value) : Got w0 (w.setCell ⟨dd, 0, none⟩ u) dd rr u v1 v2 v3 v4 := by
  obtain ⟨p1, p2, p3⟩ := h.put 0 u
  exact ⟨p1, p2, p3, h.dnew⟩
theorem Got.put1 (h : Got w0 w dd rr v0 v1 v2 v3 v4) (u : Value) : Got w0 (w.setCell ⟨dd, 1, none⟩ u) dd rr v0 u v2 v3 v4 := by
  obtain ⟨p1, p2, p3⟩ := h.put 1 u
  exact ⟨p1, p2, p3, h.dnew⟩
theorem Got.put2 (h : Got w0 w dd rr v0 v1 v2 v3 v4) (u : Value) : Got w0 (w.setCell ⟨dd, 2, none⟩ u) dd rr v0 v1 u v3 v4 := by
  obtain ⟨p1, p2, p3⟩ := h.put 2 u
  exact ⟨p1, p2, p3, h.dnew⟩
theorem Got.put3 (h : Got w0 w dd rr v0 v1 v2 v3 v4) (u : Value) : Got w0 (w.setCell ⟨dd, 3, none⟩ u) dd rr v0 v1 v2 u v4 := by
  obtain ⟨p1, p2, p3⟩ := h.put 3 u
  exact ⟨p1, p2, p3, h.dnew⟩
theorem Got.put4 (h : Got w0 w dd rr v0 v1 v2 v3 v4) (u : Value) : Got w0 (w.setCell ⟨dd, 4, none⟩ u) dd rr v0 v1 v2 v3 u := by
  obtain ⟨p1, p2, p3⟩ := h.put 4 u
  exact ⟨p1, p2, p3, h.dnew⟩
theorem Got.under (h : Got w0 w dd rr v0 v1 v2 v3 v4) (hb : Below w.heap.size w w') : Got w0 w' dd rr v0 v1 v2 v3 v4 :=
  ⟨h.blk.below hb h.blk.lt, h.res.below hb h.res.lt, Base.next0 h.below h.below.size hb, h.dnew⟩
theorem Got.frees (h : Got w0 w dd rr v0 v1 v2 v3 v4) : (w.frozen? ⟨dd, 0, none⟩ = false ∧ w.frozen? ⟨dd, 1, none⟩ = false ∧ w.frozen? ⟨dd, 2, none⟩ = false ∧ w.frozen? ⟨dd, 3, none⟩ = false ∧ w.frozen? ⟨dd, 4, none⟩ = false) ∧
    w.frozen? ⟨rr, 0, none⟩ = false ∧ w.frozen? ⟨rr, 1, none⟩ = false ∧ w.frozen? ⟨rr, 2, none⟩ = false ∧ w.frozen? ⟨rr, 3, none⟩ = false ∧ w.frozen? ⟨rr, 4, none⟩ = false :=
  ⟨⟨h.blk.free 0, h.blk.free 1, h.blk.free 2, h.blk.free 3, h.blk.free 4⟩, h.res.free 0, h.res.free 1, h.res.free 2, h.res.free 3, h.res.free 4⟩
end
theorem got_start (w : World) {o1 o2 : Obj} (h1 : o1 = .cells #[.slice none 0 0, .slice none 0 0, .int .u64 0, .int .u64 0, .bool false] 25) (h2 : o2 = .cells #[.slice none 0 0, .slice none 0 0, .int .u64 0, .int .u64 0, .bool false] 25) :
    Got w ((w.alloc o1).alloc o2) (w.heap.size + 1) w.heap.size (.slice none 0 0) (.slice none 0 0) (.int .u64 0) (.int .u64 0) (.bool false) := by
  subst h1 h2
  have B2 := Blk.new (w.alloc (.cells #[.slice none 0 0, .slice none 0 0, .int .u64 0, .int .u64 0, .bool false] 25)) #[.slice none 0 0, .slice none 0 0, .int .u64 0, .int .u64 0, .bool false] 25
  rw [World.size_alloc] at B2
  exact ⟨B2, (Blk.new w _ _).alloc _, ((Below.refl w.heap.size w).alloc (Nat.le_refl _) _).alloc (by simp) _, by omega, by omega⟩
/-- What comes out where there is an error. -/
theorem got_none {w w' : World} {e : Int} {l : List Int} (h : getAck l = (AckPlain.zero, e)) (hL : Below w.heap.size w w') : AckPost w l (.returned (.tuple #[.agg #[.slice none 0 0, .slice none 0 0, .int .u64 0, .int .u64 0, .bool false], .int .i64 e])) w' := by
  unfold AckPost
  rw [h]
  exact ⟨none, 0, 0, none, 0, 0, rfl, ⟨rfl, Nat.le_refl _, Nat.zero_le _, (fun _ => ⟨rfl, rfl⟩), RowIn.nil _ _ _⟩, ⟨rfl, Nat.le_refl _, Nat.zero_le _, (fun _ => ⟨rfl, rfl⟩), RowIn.nil _ _ _⟩, hL⟩
theorem got_bad {w w' : World} {e : Int} {l : List Int} (h : getAck l = (AckPlain.zero, e)) (hL : Below w.heap.size w w') :
    AckPost w l (.returned (.tuple #[.agg #[.slice none 0 0, .slice none 0 0, .int .u64 0, .int .u64 0, .bool false], .int .i64 e])) (set5 w' w.heap.size (.slice none 0 0) (.slice none 0 0) (.int .u64 0) (.int .u64 0) (.bool false)) :=
  got_none h ((set5_fr _ _ _ _ _ _ _).below hL hL.size (by rintro k rfl; exact Nat.le_refl _))
theorem ref_ack_nil (a : Option Addr) (cap : Nat) (w : World) : Calls Tryd.prog 14 #[.slice a 0 cap] w (AckPost w []) := by
  have HD : getAck [] = (AckPlain.zero, 2) := rfl
  go_enter Tryd.func14, Tryd.ntmps14
  go_wp2
  all_goals refine bodyPost_ret (results_row2 rfl _ _ w.heap.size 25 #[.slice none 0 0, .slice none 0 0, .int .u64 0, .int .u64 0, .bool false] _ rfl (Blk.new w _ _) Tryd.underlying25 rfl (by kernel_rfl)) rfl ?_
  all_goals exact got_none HD ((Below.refl _ _).alloc (Nat.le_refl _) _)
theorem ref_ack_kind (a : Option Addr) (n cap : Nat) (l : List Int) (w : World) (x : Int) (q : List Int) (hl : l = x :: q) (hx : ¬ x = 2) (hn : l.length = n) (hc : n ≤ cap) (hr : n ≤ 140737488355328) (hz : Ints .u8 w a l) :
    Calls Tryd.prog 14 #[.slice a n cap] w (AckPost w l) := by
  have HD : getAck l = (AckPlain.zero, 4) := by rw [hl, getAck, if_pos hx]
  have hn1 : 1 ≤ n := by rw [← hn, hl]; simp only [List.length_cons]; omega
  obtain ⟨g, go, rfl, hgl, cx⟩ := hz 0 (.int .u8 x) (by rw [hl]; rfl)
  have cx' : w.cell? ⟨g, go, none⟩ = some (.int .u8 x) := cx
  clear hl cx
  go_enter Tryd.func14, Tryd.ntmps14
  go_wp2
  all_goals refine bodyPost_ret (results_row2 rfl _ _ w.heap.size 25 #[.slice none 0 0, .slice none 0 0, .int .u64 0, .int .u64 0, .bool false] _ rfl (Blk.new w _ _) Tryd.underlying25 rfl (by kernel_rfl)) rfl ?_
  all_goals exact got_none HD ((Below.refl _ _).alloc (Nat.le_refl _) _)
end Go.Proofs.YtangljeceohdpaaDoor.Ack
