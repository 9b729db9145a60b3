/-
  Held2, Control, ControlAlive, ControlPlay in one text.
-/
import Derived.Test.YtnnpklnhdfpnjaaHeld
import Derived.Test.YtnnpklnhdfpnjaaControlRed
import Derived.Test.YtnnpklnhdfpnjaaConfIs
import Derived.Test.YtnnpklnhdfpnjaaConfTurn
import Derived.Test.YtnnpklnhdfpnjaaConfPure
import Derived.Test.YtnnpklnhdfpnjaaQuiet
import Derived.Test.YtnnpklnhdfpnjaaControlPlain
/-
  Walks by hand of a region that draws its order (XHeld), the slot that an operation writes told by its number: so the frame stays short, and is written out by List.set alone. Nothing here names a program.
-/
set_option linter.unusedSimpArgs false
set_option linter.unusedVariables false
namespace Go.Proofs.Ytnnpklnhdfpnjaa.Base
set_option linter.unusedVariables false
open Go.ChangeShapes Go.WideShapes Go.RowKit
section
variable {P : Program} {ops : Array Oper} {Q : Exit → Act → World → Prop} {md : Region.Mode} {S : World → Prop} {i : Nat} {oi : Oper} {fuel : Nat} {listed : Array Bool} {a : Act} {w w' : World} {v : Value}
/-- Number i first: it yields v in every world of the class, into slot d. -/
theorem h2_take (d : Nat) (hi : ops[i]? = some oi) (hd : oi.dst = some d) (hs : Region.noSelect ops = true) (hf : Region.free md ops listed i = true) (hr : (Region.ready md ops listed).contains i = true) (hQ : ∀ c a w, Q (.panic c) (a.put (some d) v) w → Q (.panic c) a w)
    (hw : Region.wanted oi (yielded ops a.tmps) = true) (hS : S w) (hv : ∀ u, S u → (execOp a.eval oi).run P u = .ok (.value v) u) (h : wpAnyH P md ops Q S fuel (listed.setIfInBounds i true) (a.put (some d) v) w) : wpAnyH P md ops Q S (fuel + 1) listed a w := by
  rw [← hd] at h hQ
  exact held_take hi hs hf hr hQ hw hS hv h
/-- Number i alone may come up: it yields v here, and may turn the world. -/
theorem h2_one (d : Nat) (hi : ops[i]? = some oi) (hd : oi.dst = some d) (hr : Region.ready md ops listed = [i]) (hw : Region.wanted oi (yielded ops a.tmps) = true) (hv : (execOp a.eval oi).run P w = .ok (.value v) w') (hS : S w')
    (h : wpAnyH P md ops Q S fuel (listed.setIfInBounds i true) (a.put (some d) v) w') : wpAnyH P md ops Q S (fuel + 1) listed a w := by
  rw [← hd] at h
  exact held_one hi hr hw hv hS h
theorem h2_call (d : Nat) {f : FuncId} {args : Array Value} (hi : ops[i]? = some oi) (hd : oi.dst = some d) (hr : Region.ready md ops listed = [i]) (hw : Region.wanted oi (yielded ops a.tmps) = true) (hv : (execOp a.eval oi).run P w = .ok (.enter f args) w)
    (h : Calls P f args w fun e w' => ∃ v, e = .returned v ∧ S w' ∧ wpAnyH P md ops Q S fuel (listed.setIfInBounds i true) (a.put (some d) v) w') : wpAnyH P md ops Q S (fuel + 1) listed a w := by
  rw [← hd] at h
  exact held_call hi hr hw hv h
/-- Number i alone may come up: a store. -/
theorem h2_st (hi : ops[i]? = some oi) (hd : oi.dst = none) (hr : Region.ready md ops listed = [i]) (hw : Region.wanted oi (yielded ops a.tmps) = true) (hv : (execOp a.eval oi).run P w = .ok .skip w') (hS : S w')
    (h : wpAnyH P md ops Q S fuel (listed.setIfInBounds i true) a w') : wpAnyH P md ops Q S (fuel + 1) listed a w := by
  refine wpAnyH_all hr (by simp) fun k hk => ?_
  obtain rfl : k = i := by simpa using hk
  have e : a.put oi.dst undef = a := by rw [hd]; rfl
  unfold wpOp
  simp only [hi, hw, if_true, Oper.wp, hv, Oper.upon, e]
  exact .inl ⟨hS, h⟩
/-- Number i alone may come up: by its own law. -/
theorem h2_wp (d : Nat) (hi : ops[i]? = some oi) (hd : oi.dst = some d) (hr : Region.ready md ops listed = [i]) (hw : Region.wanted oi (yielded ops a.tmps) = true) (h : oi.wp P a w (fun a' w' => S w' ∧ wpAnyH P md ops Q S fuel (listed.setIfInBounds i true) a' w') Q) : wpAnyH P md ops Q S (fuel + 1) listed a w :=
  held_wp hi hr hw h
theorem o2_value {K : Act → World → Prop} (d : Nat) (hi : ops[i]? = some oi) (hd : oi.dst = some d) (hw : Region.wanted oi (yielded ops a.tmps) = true) (hv : (execOp a.eval oi).run P w = .ok (.value v) w') (h : K (a.put (some d) v) w') : wpOp P ops Q i K a w := by
  rw [← hd] at h
  exact op_value hi hw hv h
theorem o2_call {K : Act → World → Prop} (d : Nat) {f : FuncId} {args : Array Value} (hi : ops[i]? = some oi) (hd : oi.dst = some d) (hw : Region.wanted oi (yielded ops a.tmps) = true) (hv : (execOp a.eval oi).run P w = .ok (.enter f args) w) (h : Calls P f args w fun e w' => ∃ v, e = .returned v ∧ K (a.put (some d) v) w') : wpOp P ops Q i K a w := by
  rw [← hd] at h
  exact op_call hi hw hv h
theorem o2_wp {K : Act → World → Prop} (hi : ops[i]? = some oi) (hw : Region.wanted oi (yielded ops a.tmps) = true) (h : oi.wp P a w K Q) : wpOp P ops Q i K a w := by
  unfold wpOp
  simp only [hi, hw, if_true]
  exact .inl h
theorem h2_three {j k : Nat} (hr : Region.ready md ops listed = [i, j, k]) (h1 : wpOp P ops Q i (fun a' w' => S w' ∧ wpAnyH P md ops Q S fuel (listed.setIfInBounds i true) a' w') a w)
    (h2 : wpOp P ops Q j (fun a' w' => S w' ∧ wpAnyH P md ops Q S fuel (listed.setIfInBounds j true) a' w') a w) (h3 : wpOp P ops Q k (fun a' w' => S w' ∧ wpAnyH P md ops Q S fuel (listed.setIfInBounds k true) a' w') a w) : wpAnyH P md ops Q S (fuel + 1) listed a w := by
  refine wpAnyH_all hr (by simp) fun m hm => ?_
  rcases List.mem_cons.1 hm with rfl | hm
  · exact h1
  · rcases List.mem_cons.1 hm with rfl | hm
    · exact h2
    · obtain rfl : m = k := by simpa using hm
      exact h3
/-- A statement by what it leaves: its frame told by the one that it began with. Where the last statement of a block cannot be cut around. -/
theorem wp_fin {c : Code} {Q : Exit → Act → World → Prop} (G : Act → Act → World → Prop) (h1 : c.wp P (fun e a' w' => e = .normal ∧ G a a' w') a w) (h2 : ∀ a' w', G a a' w' → Q .normal a' w') : c.wp P Q a w :=
  wp_mono h1 (fun e a' w' ⟨he, h⟩ => by subst he; exact h2 a' w' h)
/-- What an operation's own law goes on with, its slot told. -/
theorem put_at {K : Act → World → Prop} {o : Oper} {d : Nat} (hd : o.dst = some d) (h : K (a.put (some d) v) w) : K (a.put o.dst v) w := by rw [hd]; exact h
end
end Go.Proofs.Ytnnpklnhdfpnjaa.Base
/-
  The program's controls by contract: Loss and Mark.
-/
set_option linter.unusedSimpArgs false
set_option linter.unusedVariables false
namespace Go.Proofs.Ytnnpklnhdfpnjaa.Control
set_option linter.unusedVariables false
set_option maxRecDepth 20000
open Go.ChangeShapes Go.WideShapes Go.ChangeAt Go.RowKit
open Go.Proofs.Ytnnpklnhdfpnjaa.Base Go.Proofs.Ytnnpklnhdfpnjaa.RenoPlain Go.Proofs.Ytnnpklnhdfpnjaa.CubicPlain Go.Proofs.Ytnnpklnhdfpnjaa.RoundPlain Go.Proofs.Ytnnpklnhdfpnjaa.ConfPlain Go.Proofs.Ytnnpklnhdfpnjaa.ControlPlain Go.Proofs.Ytnnpklnhdfpnjaa.Conf Go.Proofs.Ytnnpklnhdfpnjaa.Reno Go.Proofs.Ytnnpklnhdfpnjaa.Cubic Go.Proofs.Ytnnpklnhdfpnjaa.Hop

set_option maxHeartbeats 4000000 in
theorem loss_any (c : C) (hc : CFit c) (s : Kc) (hs : KFit s) (pn next : Int) (hp : U pn) (hn : U next) (w : World) :
    Calls Try.prog 13 #[.agg #[.int .i64 c.bits, .int .u64 c.one, .int .i64 c.ring, .int .u64 c.limit, .int .i64 c.room, .int .u64 c.mss, .int .u64 c.initial, .int .u64 c.least, .int .u64 c.most, .int .i64 c.algo, .int .u64 c.first, .int .u64 c.grain, .int .u64 c.cap, .int .u64 c.burst, .int .u64 c.slowest, .int .i64 c.chal, .int .u64 c.every], .agg (kc s), .int .u64 pn, .int .u64 next] w fun e w' => e = .returned (.tuple #[.agg (kc (lossK c s pn next 10 14)), .bool (lossB c s pn)]) ∧ Below w.heap.size w w' := by
  rw [← lossG_lost c s pn next]
  have CS := fun V => lost_any c V
  have CR := fun V => reduce_any c hc s hs pn next hp hn (shL c).1 (shL c).2 (shL_fit c).1 (shL_fit c).2 V
  generalize (shL c).1 = num at *
  generalize (shL c).2 = den at *
  generalize lossG c s pn next num den = v at *
  generalize lossB c s pn = b at *
  obtain ⟨⟨s0, s1, s2, s3, s4, s5, s6⟩, ⟨e, k⟩⟩ := s
  obtain ⟨⟨r0, r1, r2, r3, r4, r5, r6⟩, ⟨r7, r8⟩⟩ := v
  unfold kc at *
  simp only at CR ⊢
  go_enter Try.func13, Try.ntmps13
  go_upto_region 1 with fail
  refine at_any ?_
  intro W hW
  obtain ⟨cB, sB, oB, hL⟩ : Blk W w.heap.size #[.int .i64 c.bits, .int .u64 c.one, .int .i64 c.ring, .int .u64 c.limit, .int .i64 c.room, .int .u64 c.mss, .int .u64 c.initial, .int .u64 c.least, .int .u64 c.most, .int .i64 c.algo, .int .u64 c.first, .int .u64 c.grain, .int .u64 c.cap, .int .u64 c.burst, .int .u64 c.slowest, .int .i64 c.chal, .int .u64 c.every] 24 ∧ Blk W (w.heap.size + 1) #[.int .u64 s0, .int .u64 s1, .int .u64 s2, .int .u64 s3, .int .u64 s4, .int .u64 s5, .int .u64 s6, .int .u64 e, .int .u64 k] 31 ∧ Blk W (w.heap.size + 1 + 1) #[.int .u64 0, .int .u64 0, .int .u64 0, .int .u64 0, .int .u64 0, .int .u64 0, .int .u64 0, .int .u64 0, .int .u64 0] 31 ∧ Below w.heap.size w W := by
    have h0 := Blk.new (w) #[.int .i64 c.bits, .int .u64 c.one, .int .i64 c.ring, .int .u64 c.limit, .int .i64 c.room, .int .u64 c.mss, .int .u64 c.initial, .int .u64 c.least, .int .u64 c.most, .int .i64 c.algo, .int .u64 c.first, .int .u64 c.grain, .int .u64 c.cap, .int .u64 c.burst, .int .u64 c.slowest, .int .i64 c.chal, .int .u64 c.every] 24
    have h1 := Blk.new (World.alloc (w) (.cells #[.int .i64 c.bits, .int .u64 c.one, .int .i64 c.ring, .int .u64 c.limit, .int .i64 c.room, .int .u64 c.mss, .int .u64 c.initial, .int .u64 c.least, .int .u64 c.most, .int .i64 c.algo, .int .u64 c.first, .int .u64 c.grain, .int .u64 c.cap, .int .u64 c.burst, .int .u64 c.slowest, .int .i64 c.chal, .int .u64 c.every] 24)) #[.int .u64 s0, .int .u64 s1, .int .u64 s2, .int .u64 s3, .int .u64 s4, .int .u64 s5, .int .u64 s6, .int .u64 e, .int .u64 k] 31
    have h2 := Blk.new (World.alloc (World.alloc (w) (.cells #[.int .i64 c.bits, .int .u64 c.one, .int .i64 c.ring, .int .u64 c.limit, .int .i64 c.room, .int .u64 c.mss, .int .u64 c.initial, .int .u64 c.least, .int .u64 c.most, .int .i64 c.algo, .int .u64 c.first, .int .u64 c.grain, .int .u64 c.cap, .int .u64 c.burst, .int .u64 c.slowest, .int .i64 c.chal, .int .u64 c.every] 24)) (.cells #[.int .u64 s0, .int .u64 s1, .int .u64 s2, .int .u64 s3, .int .u64 s4, .int .u64 s5, .int .u64 s6, .int .u64 e, .int .u64 k] 31)) #[.int .u64 0, .int .u64 0, .int .u64 0, .int .u64 0, .int .u64 0, .int .u64 0, .int .u64 0, .int .u64 0, .int .u64 0] 31
    simp only [World.size_alloc] at h1 h2
    subst hW
    exact ⟨((h0.alloc _).alloc _), (h1.alloc _), h2, ((((Below.refl _ _).alloc (Nat.le_refl _) _).alloc (by simp only [World.size_alloc]; omega) _).alloc (by simp only [World.size_alloc]; omega) _)⟩
  clear hW
  generalize hb_oB : w.heap.size + 1 + 1 = b_oB at *
  generalize hb_sB : w.heap.size + 1 = b_sB at *
  have lt_cB := cB.lt
  have lt_sB := sB.lt
  have lt_oB := oB.lt
  clear lt_cB lt_sB lt_oB
  refine at_any ?_
  intro Y hY
  obtain ⟨cB', sB', oB', hL'⟩ : Blk Y w.heap.size #[.int .i64 c.bits, .int .u64 c.one, .int .i64 c.ring, .int .u64 c.limit, .int .i64 c.room, .int .u64 c.mss, .int .u64 c.initial, .int .u64 c.least, .int .u64 c.most, .int .i64 c.algo, .int .u64 c.first, .int .u64 c.grain, .int .u64 c.cap, .int .u64 c.burst, .int .u64 c.slowest, .int .i64 c.chal, .int .u64 c.every] 24 ∧ Blk Y b_sB #[.int .u64 s0, .int .u64 s1, .int .u64 s2, .int .u64 s3, .int .u64 s4, .int .u64 s5, .int .u64 s6, .int .u64 e, .int .u64 k] 31 ∧ Blk Y b_oB #[.int .u64 0, .int .u64 0, .int .u64 0, .int .u64 0, .int .u64 0, .int .u64 0, .int .u64 0, .int .u64 0, .int .u64 0] 31 ∧ Below w.heap.size w Y := by
    subst hY
    exact ⟨cB, sB, oB, hL⟩
  clear hY cB sB oB hL
  have rc := fun (u : World) (hu : Blk u w.heap.size #[.int .i64 c.bits, .int .u64 c.one, .int .i64 c.ring, .int .u64 c.limit, .int .i64 c.room, .int .u64 c.mss, .int .u64 c.initial, .int .u64 c.least, .int .u64 c.most, .int .i64 c.algo, .int .u64 c.first, .int .u64 c.grain, .int .u64 c.cap, .int .u64 c.burst, .int .u64 c.slowest, .int .i64 c.chal, .int .u64 c.every] 24) => Blk.range hu 0 [.int .i64 c.bits, .int .u64 c.one, .int .i64 c.ring, .int .u64 c.limit, .int .i64 c.room, .int .u64 c.mss, .int .u64 c.initial, .int .u64 c.least, .int .u64 c.most, .int .i64 c.algo, .int .u64 c.first, .int .u64 c.grain, .int .u64 c.cap, .int .u64 c.burst, .int .u64 c.slowest, .int .i64 c.chal, .int .u64 c.every] (fun j v hj => by rw [Nat.zero_add]; simpa using hj)
  have rs := fun (u : World) (hu : Blk u b_sB #[.int .u64 s0, .int .u64 s1, .int .u64 s2, .int .u64 s3, .int .u64 s4, .int .u64 s5, .int .u64 s6, .int .u64 e, .int .u64 k] 31) => Blk.range hu 0 [.int .u64 s0, .int .u64 s1, .int .u64 s2, .int .u64 s3, .int .u64 s4, .int .u64 s5, .int .u64 s6, .int .u64 e, .int .u64 k] (fun j v hj => by rw [Nat.zero_add]; simpa using hj)
  have D := Base.drew1 (Below.refl Y.heap.size Y)
  have hS : Blk Y.drew w.heap.size #[.int .i64 c.bits, .int .u64 c.one, .int .i64 c.ring, .int .u64 c.limit, .int .i64 c.room, .int .u64 c.mss, .int .u64 c.initial, .int .u64 c.least, .int .u64 c.most, .int .i64 c.algo, .int .u64 c.first, .int .u64 c.grain, .int .u64 c.cap, .int .u64 c.burst, .int .u64 c.slowest, .int .i64 c.chal, .int .u64 c.every] 24 ∧ Blk Y.drew b_sB #[.int .u64 s0, .int .u64 s1, .int .u64 s2, .int .u64 s3, .int .u64 s4, .int .u64 s5, .int .u64 s6, .int .u64 e, .int .u64 k] 31 := ⟨cB'.below D cB'.lt, sB'.below D sB'.lt⟩
  refine held_start (fun u => Blk u w.heap.size #[.int .i64 c.bits, .int .u64 c.one, .int .i64 c.ring, .int .u64 c.limit, .int .i64 c.room, .int .u64 c.mss, .int .u64 c.initial, .int .u64 c.least, .int .u64 c.most, .int .i64 c.algo, .int .u64 c.first, .int .u64 c.grain, .int .u64 c.cap, .int .u64 c.burst, .int .u64 c.slowest, .int .i64 c.chal, .int .u64 c.every] 24 ∧ Blk u b_sB #[.int .u64 s0, .int .u64 s1, .int .u64 s2, .int .u64 s3, .int .u64 s4, .int .u64 s5, .int .u64 s6, .int .u64 e, .int .u64 k] 31) (by kernel_rfl) ?_
  refine held_take (i := 0) (v := .agg #[.int .i64 c.bits, .int .u64 c.one, .int .i64 c.ring, .int .u64 c.limit, .int .i64 c.room, .int .u64 c.mss, .int .u64 c.initial, .int .u64 c.least, .int .u64 c.most, .int .i64 c.algo, .int .u64 c.first, .int .u64 c.grain, .int .u64 c.cap, .int .u64 c.burst, .int .u64 c.slowest, .int .i64 c.chal, .int .u64 c.every]) rfl (by kernel_rfl) (by kernel_rfl) (by kernel_rfl) (fun _ _ _ h => h) (by kernel_rfl) hS (fun u hu => Hop.lb_mid 24 (.tmp 4) rfl (by kernel_rfl) (rc u hu.1) Try.underlying24 rfl (by kernel_rfl)) ?_
  refine held_take (i := 1) (v := .agg #[.int .u64 s0, .int .u64 s1, .int .u64 s2, .int .u64 s3, .int .u64 s4, .int .u64 s5, .int .u64 s6, .int .u64 e, .int .u64 k]) rfl (by kernel_rfl) (by kernel_rfl) (by kernel_rfl) (fun _ _ _ h => h) (by kernel_rfl) hS (fun u hu => Hop.lb_mid 31 (.tmp 5) rfl (by kernel_rfl) (rs u hu.2) Try.underlying31 rfl (by kernel_rfl)) ?_
  refine held_take (i := 2) (v := .int .u64 pn) rfl (by kernel_rfl) (by kernel_rfl) (by kernel_rfl) (fun _ _ _ h => h) (by kernel_rfl) hS (fun u hu => by kernel_rfl) ?_
  refine held_take (i := 3) (v := .int .u64 next) rfl (by kernel_rfl) (by kernel_rfl) (by kernel_rfl) (fun _ _ _ h => h) (by kernel_rfl) hS (fun u hu => by kernel_rfl) ?_
  refine held_take (i := 4) (v := .agg #[.int .i64 c.bits, .int .u64 c.one, .int .i64 c.ring, .int .u64 c.limit, .int .i64 c.room, .int .u64 c.mss, .int .u64 c.initial, .int .u64 c.least, .int .u64 c.most, .int .i64 c.algo, .int .u64 c.first, .int .u64 c.grain, .int .u64 c.cap, .int .u64 c.burst, .int .u64 c.slowest, .int .i64 c.chal, .int .u64 c.every]) rfl (by kernel_rfl) (by kernel_rfl) (by kernel_rfl) (fun _ _ _ h => h) (by kernel_rfl) hS (fun u hu => Hop.lb_mid 24 (.tmp 4) rfl (by kernel_rfl) (rc u hu.1) Try.underlying24 rfl (by kernel_rfl)) ?_
  refine held_call (i := 5) rfl (by kernel_rfl) (by kernel_rfl) (enter1 (.tmp 14) #[24] rfl (by kernel_rfl) (by kernel_rfl) (by kernel_rfl)) ((CS _).mono ?_)
  rintro x' w4 ⟨rfl, L4⟩
  have M4 := Base.next D L4
  refine ⟨_, rfl, ⟨cB'.below M4 cB'.lt, sB'.below M4 sB'.lt⟩, ?_⟩
  refine held_call (i := 6) rfl (by kernel_rfl) (by kernel_rfl) (enter5 (.tmp 10) (.tmp 11) (.tmp 12) (.tmp 13) (.tmp 15) #[24, 31, 22, 22, 58] rfl (by kernel_rfl) (by kernel_rfl) (by kernel_rfl) (by kernel_rfl) (by kernel_rfl) (by kernel_rfl) (by kernel_rfl)) ((CR _).mono ?_)
  rintro x' w5 ⟨rfl, L5⟩
  have hw5 := Base.next M4 L5
  have cB5 := cB'.below hw5 cB'.lt
  have sB5 := sB'.below hw5 sB'.lt
  have oB5 := oB'.below hw5 oB'.lt
  have hL5 := Base.next hL' hw5
  refine ⟨_, rfl, ⟨cB5, sB5⟩, ?_⟩
  refine held_take (i := 7) (v := .agg #[.int .u64 r0, .int .u64 r1, .int .u64 r2, .int .u64 r3, .int .u64 r4, .int .u64 r5, .int .u64 r6, .int .u64 r7, .int .u64 r8]) rfl (by kernel_rfl) (by kernel_rfl) (by kernel_rfl) (fun _ _ _ h => h) (by kernel_rfl) ⟨cB5, sB5⟩ (fun u hu => by kernel_rfl) ?_
  refine held_take (i := 8) (v := .bool b) rfl (by kernel_rfl) (by kernel_rfl) (by kernel_rfl) (fun _ _ _ h => h) (by kernel_rfl) ⟨cB5, sB5⟩ (fun u hu => by kernel_rfl) ?_
  have cB6 : Blk (w5.setRow b_oB #[.int .u64 r0, .int .u64 r1, .int .u64 r2, .int .u64 r3, .int .u64 r4, .int .u64 r5, .int .u64 r6, .int .u64 r7, .int .u64 r8]) w.heap.size #[.int .i64 c.bits, .int .u64 c.one, .int .i64 c.ring, .int .u64 c.limit, .int .i64 c.room, .int .u64 c.mss, .int .u64 c.initial, .int .u64 c.least, .int .u64 c.most, .int .i64 c.algo, .int .u64 c.first, .int .u64 c.grain, .int .u64 c.cap, .int .u64 c.burst, .int .u64 c.slowest, .int .i64 c.chal, .int .u64 c.every] 24 := cB5.otherRow (show w.heap.size ≠ b_oB by omega) _
  have sB6 : Blk (w5.setRow b_oB #[.int .u64 r0, .int .u64 r1, .int .u64 r2, .int .u64 r3, .int .u64 r4, .int .u64 r5, .int .u64 r6, .int .u64 r7, .int .u64 r8]) b_sB #[.int .u64 s0, .int .u64 s1, .int .u64 s2, .int .u64 s3, .int .u64 s4, .int .u64 s5, .int .u64 s6, .int .u64 e, .int .u64 k] 31 := sB5.otherRow (show b_sB ≠ b_oB by omega) _
  refine held_st (i := 9) rfl (by kernel_rfl) (by kernel_rfl) (st_row 31 (.tmp 8) (.tmp 17) rfl (g := b_oB) (cells := #[.int .u64 r0, .int .u64 r1, .int .u64 r2, .int .u64 r3, .int .u64 r4, .int .u64 r5, .int .u64 r6, .int .u64 r7, .int .u64 r8]) (by kernel_rfl) (by kernel_rfl) oB5 (by kernel_rfl) rfl (by simp [Value.oneCell'])) ⟨cB6, sB6⟩ ?_
  refine held_one (i := 10) (v := .bool b) (w' := w5.setRow b_oB #[.int .u64 r0, .int .u64 r1, .int .u64 r2, .int .u64 r3, .int .u64 r4, .int .u64 r5, .int .u64 r6, .int .u64 r7, .int .u64 r8]) rfl (by kernel_rfl) (by kernel_rfl) (by kernel_rfl) ⟨cB6, sB6⟩ ?_
  have oB6 : Blk (w5.setRow b_oB #[.int .u64 r0, .int .u64 r1, .int .u64 r2, .int .u64 r3, .int .u64 r4, .int .u64 r5, .int .u64 r6, .int .u64 r7, .int .u64 r8]) b_oB #[.int .u64 r0, .int .u64 r1, .int .u64 r2, .int .u64 r3, .int .u64 r4, .int .u64 r5, .int .u64 r6, .int .u64 r7, .int .u64 r8] 31 := oB5.setRow _
  have hL6 : Below w.heap.size w (w5.setRow b_oB #[.int .u64 r0, .int .u64 r1, .int .u64 r2, .int .u64 r3, .int .u64 r4, .int .u64 r5, .int .u64 r6, .int .u64 r7, .int .u64 r8]) := below_setRow' hL5 (by omega)
  refine Hop.held_end2 8 9 (.pointer (some ⟨b_oB, 0, none⟩)) (.bool b) (by kernel_rfl) (by kernel_rfl) (by kernel_rfl) (by kernel_rfl) fun a' hd hv hx => ?_
  clear cB5 sB5 oB5 hL5 hw5 cB6 sB6 M4 L4 L5 D hS rc rs cB' sB' oB' hL'
  generalize w5.setRow b_oB #[.int .u64 r0, .int .u64 r1, .int .u64 r2, .int .u64 r3, .int .u64 r4, .int .u64 r5, .int .u64 r6, .int .u64 r7, .int .u64 r8] = Z at *
  go_wp2
  refine bodyPost_ret (Round.results_rowR rfl _ _ b_oB 31 #[.int .u64 r0, .int .u64 r1, .int .u64 r2, .int .u64 r3, .int .u64 r4, .int .u64 r5, .int .u64 r6, .int .u64 r7, .int .u64 r8] _ hv oB6 Try.underlying31 rfl (by kernel_rfl)) hd ?_
  rw [hx]
  exact ⟨rfl, hL6⟩
set_option maxHeartbeats 4000000 in
theorem mark_any (c : C) (hc : CFit c) (s : Kc) (hs : KFit s) (pn next : Int) (hp : U pn) (hn : U next) (w : World) :
    Calls Try.prog 15 #[.agg #[.int .i64 c.bits, .int .u64 c.one, .int .i64 c.ring, .int .u64 c.limit, .int .i64 c.room, .int .u64 c.mss, .int .u64 c.initial, .int .u64 c.least, .int .u64 c.most, .int .i64 c.algo, .int .u64 c.first, .int .u64 c.grain, .int .u64 c.cap, .int .u64 c.burst, .int .u64 c.slowest, .int .i64 c.chal, .int .u64 c.every], .agg (kc s), .int .u64 pn, .int .u64 next] w fun e w' => e = .returned (.tuple #[.agg (kc (lossK c s pn next 16 17)), .bool (lossB c s pn)]) ∧ Below w.heap.size w w' := by
  rw [← lossG_marked c s pn next]
  have CS := fun V => marked_any c V
  have CR := fun V => reduce_any c hc s hs pn next hp hn (shM c).1 (shM c).2 (shM_fit c).1 (shM_fit c).2 V
  generalize (shM c).1 = num at *
  generalize (shM c).2 = den at *
  generalize lossG c s pn next num den = v at *
  generalize lossB c s pn = b at *
  obtain ⟨⟨s0, s1, s2, s3, s4, s5, s6⟩, ⟨e, k⟩⟩ := s
  obtain ⟨⟨r0, r1, r2, r3, r4, r5, r6⟩, ⟨r7, r8⟩⟩ := v
  unfold kc at *
  simp only at CR ⊢
  go_enter Try.func15, Try.ntmps15
  go_upto_region 1 with fail
  refine at_any ?_
  intro W hW
  obtain ⟨cB, sB, oB, hL⟩ : Blk W w.heap.size #[.int .i64 c.bits, .int .u64 c.one, .int .i64 c.ring, .int .u64 c.limit, .int .i64 c.room, .int .u64 c.mss, .int .u64 c.initial, .int .u64 c.least, .int .u64 c.most, .int .i64 c.algo, .int .u64 c.first, .int .u64 c.grain, .int .u64 c.cap, .int .u64 c.burst, .int .u64 c.slowest, .int .i64 c.chal, .int .u64 c.every] 24 ∧ Blk W (w.heap.size + 1) #[.int .u64 s0, .int .u64 s1, .int .u64 s2, .int .u64 s3, .int .u64 s4, .int .u64 s5, .int .u64 s6, .int .u64 e, .int .u64 k] 31 ∧ Blk W (w.heap.size + 1 + 1) #[.int .u64 0, .int .u64 0, .int .u64 0, .int .u64 0, .int .u64 0, .int .u64 0, .int .u64 0, .int .u64 0, .int .u64 0] 31 ∧ Below w.heap.size w W := by
    have h0 := Blk.new (w) #[.int .i64 c.bits, .int .u64 c.one, .int .i64 c.ring, .int .u64 c.limit, .int .i64 c.room, .int .u64 c.mss, .int .u64 c.initial, .int .u64 c.least, .int .u64 c.most, .int .i64 c.algo, .int .u64 c.first, .int .u64 c.grain, .int .u64 c.cap, .int .u64 c.burst, .int .u64 c.slowest, .int .i64 c.chal, .int .u64 c.every] 24
    have h1 := Blk.new (World.alloc (w) (.cells #[.int .i64 c.bits, .int .u64 c.one, .int .i64 c.ring, .int .u64 c.limit, .int .i64 c.room, .int .u64 c.mss, .int .u64 c.initial, .int .u64 c.least, .int .u64 c.most, .int .i64 c.algo, .int .u64 c.first, .int .u64 c.grain, .int .u64 c.cap, .int .u64 c.burst, .int .u64 c.slowest, .int .i64 c.chal, .int .u64 c.every] 24)) #[.int .u64 s0, .int .u64 s1, .int .u64 s2, .int .u64 s3, .int .u64 s4, .int .u64 s5, .int .u64 s6, .int .u64 e, .int .u64 k] 31
    have h2 := Blk.new (World.alloc (World.alloc (w) (.cells #[.int .i64 c.bits, .int .u64 c.one, .int .i64 c.ring, .int .u64 c.limit, .int .i64 c.room, .int .u64 c.mss, .int .u64 c.initial, .int .u64 c.least, .int .u64 c.most, .int .i64 c.algo, .int .u64 c.first, .int .u64 c.grain, .int .u64 c.cap, .int .u64 c.burst, .int .u64 c.slowest, .int .i64 c.chal, .int .u64 c.every] 24)) (.cells #[.int .u64 s0, .int .u64 s1, .int .u64 s2, .int .u64 s3, .int .u64 s4, .int .u64 s5, .int .u64 s6, .int .u64 e, .int .u64 k] 31)) #[.int .u64 0, .int .u64 0, .int .u64 0, .int .u64 0, .int .u64 0, .int .u64 0, .int .u64 0, .int .u64 0, .int .u64 0] 31
    simp only [World.size_alloc] at h1 h2
    subst hW
    exact ⟨((h0.alloc _).alloc _), (h1.alloc _), h2, ((((Below.refl _ _).alloc (Nat.le_refl _) _).alloc (by simp only [World.size_alloc]; omega) _).alloc (by simp only [World.size_alloc]; omega) _)⟩
  clear hW
  generalize hb_oB : w.heap.size + 1 + 1 = b_oB at *
  generalize hb_sB : w.heap.size + 1 = b_sB at *
  have lt_cB := cB.lt
  have lt_sB := sB.lt
  have lt_oB := oB.lt
  clear lt_cB lt_sB lt_oB
  refine at_any ?_
  intro Y hY
  obtain ⟨cB', sB', oB', hL'⟩ : Blk Y w.heap.size #[.int .i64 c.bits, .int .u64 c.one, .int .i64 c.ring, .int .u64 c.limit, .int .i64 c.room, .int .u64 c.mss, .int .u64 c.initial, .int .u64 c.least, .int .u64 c.most, .int .i64 c.algo, .int .u64 c.first, .int .u64 c.grain, .int .u64 c.cap, .int .u64 c.burst, .int .u64 c.slowest, .int .i64 c.chal, .int .u64 c.every] 24 ∧ Blk Y b_sB #[.int .u64 s0, .int .u64 s1, .int .u64 s2, .int .u64 s3, .int .u64 s4, .int .u64 s5, .int .u64 s6, .int .u64 e, .int .u64 k] 31 ∧ Blk Y b_oB #[.int .u64 0, .int .u64 0, .int .u64 0, .int .u64 0, .int .u64 0, .int .u64 0, .int .u64 0, .int .u64 0, .int .u64 0] 31 ∧ Below w.heap.size w Y := by
    subst hY
    exact ⟨cB, sB, oB, hL⟩
  clear hY cB sB oB hL
  have rc := fun (u : World) (hu : Blk u w.heap.size #[.int .i64 c.bits, .int .u64 c.one, .int .i64 c.ring, .int .u64 c.limit, .int .i64 c.room, .int .u64 c.mss, .int .u64 c.initial, .int .u64 c.least, .int .u64 c.most, .int .i64 c.algo, .int .u64 c.first, .int .u64 c.grain, .int .u64 c.cap, .int .u64 c.burst, .int .u64 c.slowest, .int .i64 c.chal, .int .u64 c.every] 24) => Blk.range hu 0 [.int .i64 c.bits, .int .u64 c.one, .int .i64 c.ring, .int .u64 c.limit, .int .i64 c.room, .int .u64 c.mss, .int .u64 c.initial, .int .u64 c.least, .int .u64 c.most, .int .i64 c.algo, .int .u64 c.first, .int .u64 c.grain, .int .u64 c.cap, .int .u64 c.burst, .int .u64 c.slowest, .int .i64 c.chal, .int .u64 c.every] (fun j v hj => by rw [Nat.zero_add]; simpa using hj)
  have rs := fun (u : World) (hu : Blk u b_sB #[.int .u64 s0, .int .u64 s1, .int .u64 s2, .int .u64 s3, .int .u64 s4, .int .u64 s5, .int .u64 s6, .int .u64 e, .int .u64 k] 31) => Blk.range hu 0 [.int .u64 s0, .int .u64 s1, .int .u64 s2, .int .u64 s3, .int .u64 s4, .int .u64 s5, .int .u64 s6, .int .u64 e, .int .u64 k] (fun j v hj => by rw [Nat.zero_add]; simpa using hj)
  have D := Base.drew1 (Below.refl Y.heap.size Y)
  have hS : Blk Y.drew w.heap.size #[.int .i64 c.bits, .int .u64 c.one, .int .i64 c.ring, .int .u64 c.limit, .int .i64 c.room, .int .u64 c.mss, .int .u64 c.initial, .int .u64 c.least, .int .u64 c.most, .int .i64 c.algo, .int .u64 c.first, .int .u64 c.grain, .int .u64 c.cap, .int .u64 c.burst, .int .u64 c.slowest, .int .i64 c.chal, .int .u64 c.every] 24 ∧ Blk Y.drew b_sB #[.int .u64 s0, .int .u64 s1, .int .u64 s2, .int .u64 s3, .int .u64 s4, .int .u64 s5, .int .u64 s6, .int .u64 e, .int .u64 k] 31 := ⟨cB'.below D cB'.lt, sB'.below D sB'.lt⟩
  refine held_start (fun u => Blk u w.heap.size #[.int .i64 c.bits, .int .u64 c.one, .int .i64 c.ring, .int .u64 c.limit, .int .i64 c.room, .int .u64 c.mss, .int .u64 c.initial, .int .u64 c.least, .int .u64 c.most, .int .i64 c.algo, .int .u64 c.first, .int .u64 c.grain, .int .u64 c.cap, .int .u64 c.burst, .int .u64 c.slowest, .int .i64 c.chal, .int .u64 c.every] 24 ∧ Blk u b_sB #[.int .u64 s0, .int .u64 s1, .int .u64 s2, .int .u64 s3, .int .u64 s4, .int .u64 s5, .int .u64 s6, .int .u64 e, .int .u64 k] 31) (by kernel_rfl) ?_
  refine held_take (i := 0) (v := .agg #[.int .i64 c.bits, .int .u64 c.one, .int .i64 c.ring, .int .u64 c.limit, .int .i64 c.room, .int .u64 c.mss, .int .u64 c.initial, .int .u64 c.least, .int .u64 c.most, .int .i64 c.algo, .int .u64 c.first, .int .u64 c.grain, .int .u64 c.cap, .int .u64 c.burst, .int .u64 c.slowest, .int .i64 c.chal, .int .u64 c.every]) rfl (by kernel_rfl) (by kernel_rfl) (by kernel_rfl) (fun _ _ _ h => h) (by kernel_rfl) hS (fun u hu => Hop.lb_mid 24 (.tmp 4) rfl (by kernel_rfl) (rc u hu.1) Try.underlying24 rfl (by kernel_rfl)) ?_
  refine held_take (i := 1) (v := .agg #[.int .u64 s0, .int .u64 s1, .int .u64 s2, .int .u64 s3, .int .u64 s4, .int .u64 s5, .int .u64 s6, .int .u64 e, .int .u64 k]) rfl (by kernel_rfl) (by kernel_rfl) (by kernel_rfl) (fun _ _ _ h => h) (by kernel_rfl) hS (fun u hu => Hop.lb_mid 31 (.tmp 5) rfl (by kernel_rfl) (rs u hu.2) Try.underlying31 rfl (by kernel_rfl)) ?_
  refine held_take (i := 2) (v := .int .u64 pn) rfl (by kernel_rfl) (by kernel_rfl) (by kernel_rfl) (fun _ _ _ h => h) (by kernel_rfl) hS (fun u hu => by kernel_rfl) ?_
  refine held_take (i := 3) (v := .int .u64 next) rfl (by kernel_rfl) (by kernel_rfl) (by kernel_rfl) (fun _ _ _ h => h) (by kernel_rfl) hS (fun u hu => by kernel_rfl) ?_
  refine held_take (i := 4) (v := .agg #[.int .i64 c.bits, .int .u64 c.one, .int .i64 c.ring, .int .u64 c.limit, .int .i64 c.room, .int .u64 c.mss, .int .u64 c.initial, .int .u64 c.least, .int .u64 c.most, .int .i64 c.algo, .int .u64 c.first, .int .u64 c.grain, .int .u64 c.cap, .int .u64 c.burst, .int .u64 c.slowest, .int .i64 c.chal, .int .u64 c.every]) rfl (by kernel_rfl) (by kernel_rfl) (by kernel_rfl) (fun _ _ _ h => h) (by kernel_rfl) hS (fun u hu => Hop.lb_mid 24 (.tmp 4) rfl (by kernel_rfl) (rc u hu.1) Try.underlying24 rfl (by kernel_rfl)) ?_
  refine held_call (i := 5) rfl (by kernel_rfl) (by kernel_rfl) (enter1 (.tmp 14) #[24] rfl (by kernel_rfl) (by kernel_rfl) (by kernel_rfl)) ((CS _).mono ?_)
  rintro x' w4 ⟨rfl, L4⟩
  have M4 := Base.next D L4
  refine ⟨_, rfl, ⟨cB'.below M4 cB'.lt, sB'.below M4 sB'.lt⟩, ?_⟩
  refine held_call (i := 6) rfl (by kernel_rfl) (by kernel_rfl) (enter5 (.tmp 10) (.tmp 11) (.tmp 12) (.tmp 13) (.tmp 15) #[24, 31, 22, 22, 58] rfl (by kernel_rfl) (by kernel_rfl) (by kernel_rfl) (by kernel_rfl) (by kernel_rfl) (by kernel_rfl) (by kernel_rfl)) ((CR _).mono ?_)
  rintro x' w5 ⟨rfl, L5⟩
  have hw5 := Base.next M4 L5
  have cB5 := cB'.below hw5 cB'.lt
  have sB5 := sB'.below hw5 sB'.lt
  have oB5 := oB'.below hw5 oB'.lt
  have hL5 := Base.next hL' hw5
  refine ⟨_, rfl, ⟨cB5, sB5⟩, ?_⟩
  refine held_take (i := 7) (v := .agg #[.int .u64 r0, .int .u64 r1, .int .u64 r2, .int .u64 r3, .int .u64 r4, .int .u64 r5, .int .u64 r6, .int .u64 r7, .int .u64 r8]) rfl (by kernel_rfl) (by kernel_rfl) (by kernel_rfl) (fun _ _ _ h => h) (by kernel_rfl) ⟨cB5, sB5⟩ (fun u hu => by kernel_rfl) ?_
  refine held_take (i := 8) (v := .bool b) rfl (by kernel_rfl) (by kernel_rfl) (by kernel_rfl) (fun _ _ _ h => h) (by kernel_rfl) ⟨cB5, sB5⟩ (fun u hu => by kernel_rfl) ?_
  have cB6 : Blk (w5.setRow b_oB #[.int .u64 r0, .int .u64 r1, .int .u64 r2, .int .u64 r3, .int .u64 r4, .int .u64 r5, .int .u64 r6, .int .u64 r7, .int .u64 r8]) w.heap.size #[.int .i64 c.bits, .int .u64 c.one, .int .i64 c.ring, .int .u64 c.limit, .int .i64 c.room, .int .u64 c.mss, .int .u64 c.initial, .int .u64 c.least, .int .u64 c.most, .int .i64 c.algo, .int .u64 c.first, .int .u64 c.grain, .int .u64 c.cap, .int .u64 c.burst, .int .u64 c.slowest, .int .i64 c.chal, .int .u64 c.every] 24 := cB5.otherRow (show w.heap.size ≠ b_oB by omega) _
  have sB6 : Blk (w5.setRow b_oB #[.int .u64 r0, .int .u64 r1, .int .u64 r2, .int .u64 r3, .int .u64 r4, .int .u64 r5, .int .u64 r6, .int .u64 r7, .int .u64 r8]) b_sB #[.int .u64 s0, .int .u64 s1, .int .u64 s2, .int .u64 s3, .int .u64 s4, .int .u64 s5, .int .u64 s6, .int .u64 e, .int .u64 k] 31 := sB5.otherRow (show b_sB ≠ b_oB by omega) _
  refine held_st (i := 9) rfl (by kernel_rfl) (by kernel_rfl) (st_row 31 (.tmp 8) (.tmp 17) rfl (g := b_oB) (cells := #[.int .u64 r0, .int .u64 r1, .int .u64 r2, .int .u64 r3, .int .u64 r4, .int .u64 r5, .int .u64 r6, .int .u64 r7, .int .u64 r8]) (by kernel_rfl) (by kernel_rfl) oB5 (by kernel_rfl) rfl (by simp [Value.oneCell'])) ⟨cB6, sB6⟩ ?_
  refine held_one (i := 10) (v := .bool b) (w' := w5.setRow b_oB #[.int .u64 r0, .int .u64 r1, .int .u64 r2, .int .u64 r3, .int .u64 r4, .int .u64 r5, .int .u64 r6, .int .u64 r7, .int .u64 r8]) rfl (by kernel_rfl) (by kernel_rfl) (by kernel_rfl) ⟨cB6, sB6⟩ ?_
  have oB6 : Blk (w5.setRow b_oB #[.int .u64 r0, .int .u64 r1, .int .u64 r2, .int .u64 r3, .int .u64 r4, .int .u64 r5, .int .u64 r6, .int .u64 r7, .int .u64 r8]) b_oB #[.int .u64 r0, .int .u64 r1, .int .u64 r2, .int .u64 r3, .int .u64 r4, .int .u64 r5, .int .u64 r6, .int .u64 r7, .int .u64 r8] 31 := oB5.setRow _
  have hL6 : Below w.heap.size w (w5.setRow b_oB #[.int .u64 r0, .int .u64 r1, .int .u64 r2, .int .u64 r3, .int .u64 r4, .int .u64 r5, .int .u64 r6, .int .u64 r7, .int .u64 r8]) := below_setRow' hL5 (by omega)
  refine Hop.held_end2 8 9 (.pointer (some ⟨b_oB, 0, none⟩)) (.bool b) (by kernel_rfl) (by kernel_rfl) (by kernel_rfl) (by kernel_rfl) fun a' hd hv hx => ?_
  clear cB5 sB5 oB5 hL5 hw5 cB6 sB6 M4 L4 L5 D hS rc rs cB' sB' oB' hL'
  generalize w5.setRow b_oB #[.int .u64 r0, .int .u64 r1, .int .u64 r2, .int .u64 r3, .int .u64 r4, .int .u64 r5, .int .u64 r6, .int .u64 r7, .int .u64 r8] = Z at *
  go_wp2
  refine bodyPost_ret (Round.results_rowR rfl _ _ b_oB 31 #[.int .u64 r0, .int .u64 r1, .int .u64 r2, .int .u64 r3, .int .u64 r4, .int .u64 r5, .int .u64 r6, .int .u64 r7, .int .u64 r8] _ hv oB6 Try.underlying31 rfl (by kernel_rfl)) hd ?_
  rw [hx]
  exact ⟨rfl, hL6⟩
end Go.Proofs.Ytnnpklnhdfpnjaa.Control
/-
  The examples of chapter 23 hold (alive), out of the contracts of the program's controls.
-/
set_option linter.unusedSimpArgs false
set_option linter.unusedVariables false
namespace Go.Proofs.Ytnnpklnhdfpnjaa.Control
set_option linter.unusedVariables false
set_option maxRecDepth 20000
open Go.ChangeShapes Go.WideShapes Go.ChangeAt Go.RowKit
open Go.Proofs.Ytnnpklnhdfpnjaa.Base Go.Proofs.Ytnnpklnhdfpnjaa.RenoPlain Go.Proofs.Ytnnpklnhdfpnjaa.CubicPlain Go.Proofs.Ytnnpklnhdfpnjaa.RoundPlain Go.Proofs.Ytnnpklnhdfpnjaa.ConfPlain Go.Proofs.Ytnnpklnhdfpnjaa.ControlPlain Go.Proofs.Ytnnpklnhdfpnjaa.Conf Go.Proofs.Ytnnpklnhdfpnjaa.Reno Go.Proofs.Ytnnpklnhdfpnjaa.Cubic Go.Proofs.Ytnnpklnhdfpnjaa.Hop

def zeroC : C := ⟨0, 0, 0, 0, 0, 0, 0, 0, 0, 0, 0, 0, 0, 0, 0, 0, 0⟩
theorem made_cfit {c : C} (h : Made c) : CFit c := by
  have hr := made_fit h
  unfold Made at h
  exact ⟨⟨by omega, by omega⟩, ⟨by omega, by omega⟩, ⟨by omega, by omega⟩, ⟨by omega, by omega⟩, hr⟩
theorem rng_cfit {c : C} (h : Rng c) : CFit c := by
  have hr := h
  unfold Rng at h
  exact ⟨⟨by omega, by omega⟩, ⟨by omega, by omega⟩, ⟨by omega, by omega⟩, ⟨by omega, by omega⟩, hr⟩
theorem rng_zero : Rng zeroC := by
  unfold Rng zeroC
  decide
theorem uC (x : Int) (h : 0 ≤ x ∧ x ≤ 99 := by decide) : U x := ⟨h.1, by omega⟩
theorem fitK : KFit ⟨⟨100, 18446744073709551615, 0, 0, 18446744073709551615, 0, 0⟩, ⟨0, 0⟩⟩ := ⟨⟨⟨by decide, by decide⟩, uT, uZ, uZ, uT, uZ, uZ⟩, ⟨by decide, by decide, by decide, by decide⟩⟩
theorem fitL : KFit ⟨⟨50, 50, 0, 0, 18446744073709551615, 0, 0⟩, ⟨9, 1⟩⟩ := ⟨⟨⟨by decide, by decide⟩, ⟨by decide, by decide⟩, uZ, uZ, uT, uZ, uZ⟩, ⟨by decide, by decide, by decide, by decide⟩⟩
theorem fld_win {ρ : Operand → Value} {o : Oper} {u : World} (x : Operand) (ho : o.op = .field 31 x 0) {v0 v1 v2 v3 v4 v5 v6 v7 v8 : Value} (hx : ρ x = .agg #[v0, v1, v2, v3, v4, v5, v6, v7, v8]) : (execOp ρ o).run Try.prog u = .ok (.value (.agg #[v0, v1, v2, v3, v4, v5, v6])) u := by
  unfold execOp
  rw [ho]
  simp only [hx]
  kernel_rfl
theorem fld_cw {ρ : Operand → Value} {o : Oper} {u : World} (x : Operand) (ho : o.op = .field 27 x 0) {v0 v1 v2 v3 v4 v5 v6 : Value} (hx : ρ x = .agg #[v0, v1, v2, v3, v4, v5, v6]) : (execOp ρ o).run Try.prog u = .ok (.value v0) u := by
  unfold execOp
  rw [ho]
  simp only [hx]
  kernel_rfl
/-- A configuration's cells, folded: terms stay small. -/
def cc (c : C) : Array Value := #[.int .i64 c.bits, .int .u64 c.one, .int .i64 c.ring, .int .u64 c.limit, .int .i64 c.room, .int .u64 c.mss, .int .u64 c.initial, .int .u64 c.least, .int .u64 c.most, .int .i64 c.algo, .int .u64 c.first, .int .u64 c.grain, .int .u64 c.cap, .int .u64 c.burst, .int .u64 c.slowest, .int .i64 c.chal, .int .u64 c.every]
theorem eq_kc {ρ : Operand → Value} {o : Oper} {u : World} (x y : Operand) (ho : o.op = .binOp .eql 31 x y 31) {s : Kc} (hx : ρ x = .agg (kc s)) (hy : ρ y = .agg (kc s)) : (execOp ρ o).run Try.prog u = .ok (.value (.bool true)) u := by
  unfold execOp
  rw [ho]
  simp [hx, hy, go_sem, kc]
set_option maxHeartbeats 4000000 in
theorem alive_control (w : World) :
    Calls Try.prog 8 #[] w fun e w' => e = .returned (.bool true) ∧ Below w.heap.size w w' := by
  have hb : ∀ x ∈ ([9, 30, 50, 100] : List Int), 0 ≤ x ∧ x ≤ 4294967295 := by decide
  have C0 := conf_is (some ⟨w.heap.size, 0, none⟩) 4 4 [9, 30, 50, 100] (w.alloc (.cells #[.int .u32 9, .int .u32 30, .int .u32 50, .int .u32 100] 49)) rfl (by unfold maxLen; omega) hb (Ints.of (Row.lit w _ [.int .u32 9, .int .u32 30, .int .u32 50, .int .u32 100]))
  go_enter Try.func8, Try.ntmps8
  go_upto_region 2 with (go_at_call 7; refine C0.mono ?_; rintro x' y0 ⟨c, rfl, hm, hc, L0⟩; have HC := Lib.hid hc; clear hc)
  have hcf := made_cfit hm
  have C1 := fun V => start_any c hcf V
  have C2 := fun V => loss_any c hcf ⟨⟨100, 18446744073709551615, 0, 0, 18446744073709551615, 0, 0⟩, ⟨0, 0⟩⟩ fitK 3 9 (uC 3) (uC 9) V
  have C3 := fun V => loss_any c hcf ⟨⟨50, 50, 0, 0, 18446744073709551615, 0, 0⟩, ⟨9, 1⟩⟩ fitL 8 12 (uC 8) (uC 12) V
  have C4 := fun V => mark_any c hcf ⟨⟨50, 50, 0, 0, 18446744073709551615, 0, 0⟩, ⟨9, 1⟩⟩ fitL 9 12 (uC 9) (uC 12) V
  have C5 := fun V => start_any zeroC (rng_cfit rng_zero) V
  have C6 := fun V => fall_any c hcf ⟨⟨100, 18446744073709551615, 0, 0, 18446744073709551615, 0, 0⟩, ⟨0, 0⟩⟩ fitK V
  have e1 : startK c = ⟨⟨100, 18446744073709551615, 0, 0, 18446744073709551615, 0, 0⟩, ⟨0, 0⟩⟩ := by rw [HC.out]; decide +kernel
  have e2 : lossK c ⟨⟨100, 18446744073709551615, 0, 0, 18446744073709551615, 0, 0⟩, ⟨0, 0⟩⟩ 3 9 10 14 = ⟨⟨50, 50, 0, 0, 18446744073709551615, 0, 0⟩, ⟨9, 1⟩⟩ := by rw [HC.out]; decide +kernel
  have e2b : lossB c ⟨⟨100, 18446744073709551615, 0, 0, 18446744073709551615, 0, 0⟩, ⟨0, 0⟩⟩ 3 = true := by rw [HC.out]; decide +kernel
  have e3b : lossB c ⟨⟨50, 50, 0, 0, 18446744073709551615, 0, 0⟩, ⟨9, 1⟩⟩ 8 = false := by rw [HC.out]; decide +kernel
  have e4 : lossK c ⟨⟨50, 50, 0, 0, 18446744073709551615, 0, 0⟩, ⟨9, 1⟩⟩ 9 12 16 17 = ⟨⟨50, 50, 0, 0, 18446744073709551615, 0, 0⟩, ⟨12, 2⟩⟩ := by rw [HC.out]; decide +kernel
  have e4b : lossB c ⟨⟨50, 50, 0, 0, 18446744073709551615, 0, 0⟩, ⟨9, 1⟩⟩ 9 = true := by rw [HC.out]; decide +kernel
  have e5 : startK zeroC = zeroK := by decide +kernel
  have e6 : fallK c ⟨⟨100, 18446744073709551615, 0, 0, 18446744073709551615, 0, 0⟩, ⟨0, 0⟩⟩ = ⟨⟨50, 50, 0, 0, 18446744073709551615, 0, 0⟩, ⟨0, 0⟩⟩ := by rw [HC.out]; decide +kernel
  rw [e1] at C1
  rw [e2, e2b] at C2
  rw [loss_no e3b, e3b] at C3
  rw [e4, e4b] at C4
  rw [e5] at C5
  rw [e6] at C6
  unfold CcPost kc at *
  unfold zeroK at C5
  unfold zeroC at C5
  simp only at C1 C2 C3 C4 C5 C6
  clear e1 e2 e2b e3b e4 e4b e5 e6 HC hm hcf
  refine at_any ?_
  intro X hX
  obtain ⟨cB, hL⟩ : Blk X y0.heap.size #[.int .i64 c.bits, .int .u64 c.one, .int .i64 c.ring, .int .u64 c.limit, .int .i64 c.room, .int .u64 c.mss, .int .u64 c.initial, .int .u64 c.least, .int .u64 c.most, .int .i64 c.algo, .int .u64 c.first, .int .u64 c.grain, .int .u64 c.cap, .int .u64 c.burst, .int .u64 c.slowest, .int .i64 c.chal, .int .u64 c.every] 24 ∧ Below w.heap.size w X := by
    subst hX
    have hb := ((Below.refl w.heap.size w).alloc (Nat.le_refl _) _).trans (L0.mono (by simp))
    exact ⟨Blk.new _ _ _, hb.alloc hb.size _⟩
  have hge_cB : w.heap.size ≤ y0.heap.size := by have h := L0.size; simp at h; omega
  clear hX L0 C0
  generalize y0.heap.size = b_cB at *
  have lt_cB := cB.lt
  go_upto_region 3 with (first | (refine wpl_load_row (by kernel_rfl) 24 (.tmp 1) rfl b_cB rfl 24 #[.int .i64 c.bits, .int .u64 c.one, .int .i64 c.ring, .int .u64 c.limit, .int .i64 c.room, .int .u64 c.mss, .int .u64 c.initial, .int .u64 c.least, .int .u64 c.most, .int .i64 c.algo, .int .u64 c.first, .int .u64 c.grain, .int .u64 c.cap, .int .u64 c.burst, .int .u64 c.slowest, .int .i64 c.chal, .int .u64 c.every] (0, 0) _ cB Try.underlying24 rfl (by kernel_rfl) ?_) | (go_at_call 11; refine (C1 _).mono ?_; rintro x' y1 ⟨rfl, L1⟩; replace cB := cB.below L1 lt_cB; replace hL := Base.next hL L1; replace lt_cB := cB.lt))
  refine at_any ?_
  intro X hX
  obtain ⟨sB', cB', hL'⟩ : Blk X y1.heap.size #[.int .u64 100, .int .u64 18446744073709551615, .int .u64 0, .int .u64 0, .int .u64 18446744073709551615, .int .u64 0, .int .u64 0, .int .u64 0, .int .u64 0] 31 ∧ Blk X b_cB #[.int .i64 c.bits, .int .u64 c.one, .int .i64 c.ring, .int .u64 c.limit, .int .i64 c.room, .int .u64 c.mss, .int .u64 c.initial, .int .u64 c.least, .int .u64 c.most, .int .i64 c.algo, .int .u64 c.first, .int .u64 c.grain, .int .u64 c.cap, .int .u64 c.burst, .int .u64 c.slowest, .int .i64 c.chal, .int .u64 c.every] 24 ∧ Below w.heap.size w X := by
    subst hX
    exact ⟨Blk.new _ _ _, cB.alloc _, hL.alloc hL.size _⟩
  have hgt_sB_cB : b_cB < y1.heap.size := cB.lt
  have hge_sB : w.heap.size ≤ y1.heap.size := hL.size
  clear hX cB hL
  clear lt_cB
  generalize y1.heap.size = b_sB at *
  have sB := sB'
  have cB := cB'
  have hL := hL'
  clear sB' cB' hL'
  have lt_sB := sB.lt
  have lt_cB := cB.lt
  go_upto_region 4 with (first | (refine wpl_load_row (by kernel_rfl) 24 (.tmp 1) rfl b_cB rfl 24 #[.int .i64 c.bits, .int .u64 c.one, .int .i64 c.ring, .int .u64 c.limit, .int .i64 c.room, .int .u64 c.mss, .int .u64 c.initial, .int .u64 c.least, .int .u64 c.most, .int .i64 c.algo, .int .u64 c.first, .int .u64 c.grain, .int .u64 c.cap, .int .u64 c.burst, .int .u64 c.slowest, .int .i64 c.chal, .int .u64 c.every] (0, 0) _ cB Try.underlying24 rfl (by kernel_rfl) ?_) | (refine wpl_load_row (by kernel_rfl) 31 (.tmp 2) rfl b_sB rfl 31 #[.int .u64 100, .int .u64 18446744073709551615, .int .u64 0, .int .u64 0, .int .u64 18446744073709551615, .int .u64 0, .int .u64 0, .int .u64 0, .int .u64 0] (0, 0) _ sB Try.underlying31 rfl (by kernel_rfl) ?_) | (go_at_call 13; refine (C2 _).mono ?_; rintro x' y2 ⟨rfl, L2⟩; replace sB := sB.below L2 lt_sB; replace cB := cB.below L2 lt_cB; replace hL := Base.next hL L2; replace lt_sB := sB.lt; replace lt_cB := cB.lt))
  refine at_any ?_
  intro X hX
  obtain ⟨tB', sB', cB', hL'⟩ : Blk X y2.heap.size #[.int .u64 50, .int .u64 50, .int .u64 0, .int .u64 0, .int .u64 18446744073709551615, .int .u64 0, .int .u64 0, .int .u64 9, .int .u64 1] 31 ∧ Blk X b_sB #[.int .u64 100, .int .u64 18446744073709551615, .int .u64 0, .int .u64 0, .int .u64 18446744073709551615, .int .u64 0, .int .u64 0, .int .u64 0, .int .u64 0] 31 ∧ Blk X b_cB #[.int .i64 c.bits, .int .u64 c.one, .int .i64 c.ring, .int .u64 c.limit, .int .i64 c.room, .int .u64 c.mss, .int .u64 c.initial, .int .u64 c.least, .int .u64 c.most, .int .i64 c.algo, .int .u64 c.first, .int .u64 c.grain, .int .u64 c.cap, .int .u64 c.burst, .int .u64 c.slowest, .int .i64 c.chal, .int .u64 c.every] 24 ∧ Below w.heap.size w X := by
    subst hX
    exact ⟨Blk.new _ _ _, sB.alloc _, cB.alloc _, hL.alloc hL.size _⟩
  have hgt_tB_sB : b_sB < y2.heap.size := sB.lt
  have hgt_tB_cB : b_cB < y2.heap.size := cB.lt
  have hge_tB : w.heap.size ≤ y2.heap.size := hL.size
  clear hX sB cB hL
  clear lt_sB lt_cB
  generalize y2.heap.size = b_tB at *
  have tB := tB'
  have sB := sB'
  have cB := cB'
  have hL := hL'
  clear tB' sB' cB' hL'
  have lt_tB := tB.lt
  have lt_sB := sB.lt
  have lt_cB := cB.lt
  go_upto_region 5 with (first | (refine wpl_load_row (by kernel_rfl) 24 (.tmp 1) rfl b_cB rfl 24 #[.int .i64 c.bits, .int .u64 c.one, .int .i64 c.ring, .int .u64 c.limit, .int .i64 c.room, .int .u64 c.mss, .int .u64 c.initial, .int .u64 c.least, .int .u64 c.most, .int .i64 c.algo, .int .u64 c.first, .int .u64 c.grain, .int .u64 c.cap, .int .u64 c.burst, .int .u64 c.slowest, .int .i64 c.chal, .int .u64 c.every] (0, 0) _ cB Try.underlying24 rfl (by kernel_rfl) ?_) | (refine wpl_load_row (by kernel_rfl) 31 (.tmp 3) rfl b_tB rfl 31 #[.int .u64 50, .int .u64 50, .int .u64 0, .int .u64 0, .int .u64 18446744073709551615, .int .u64 0, .int .u64 0, .int .u64 9, .int .u64 1] (0, 0) _ tB Try.underlying31 rfl (by kernel_rfl) ?_) | (go_at_call 13; refine (C3 _).mono ?_; rintro x' y3 ⟨rfl, L3⟩; replace tB := tB.below L3 lt_tB; replace sB := sB.below L3 lt_sB; replace cB := cB.below L3 lt_cB; replace hL := Base.next hL L3; replace lt_tB := tB.lt; replace lt_sB := sB.lt; replace lt_cB := cB.lt))
  refine at_any ?_
  intro X hX
  obtain ⟨uB', tB', sB', cB', hL'⟩ : Blk X y3.heap.size #[.int .u64 50, .int .u64 50, .int .u64 0, .int .u64 0, .int .u64 18446744073709551615, .int .u64 0, .int .u64 0, .int .u64 9, .int .u64 1] 31 ∧ Blk X b_tB #[.int .u64 50, .int .u64 50, .int .u64 0, .int .u64 0, .int .u64 18446744073709551615, .int .u64 0, .int .u64 0, .int .u64 9, .int .u64 1] 31 ∧ Blk X b_sB #[.int .u64 100, .int .u64 18446744073709551615, .int .u64 0, .int .u64 0, .int .u64 18446744073709551615, .int .u64 0, .int .u64 0, .int .u64 0, .int .u64 0] 31 ∧ Blk X b_cB #[.int .i64 c.bits, .int .u64 c.one, .int .i64 c.ring, .int .u64 c.limit, .int .i64 c.room, .int .u64 c.mss, .int .u64 c.initial, .int .u64 c.least, .int .u64 c.most, .int .i64 c.algo, .int .u64 c.first, .int .u64 c.grain, .int .u64 c.cap, .int .u64 c.burst, .int .u64 c.slowest, .int .i64 c.chal, .int .u64 c.every] 24 ∧ Below w.heap.size w X := by
    subst hX
    exact ⟨Blk.new _ _ _, tB.alloc _, sB.alloc _, cB.alloc _, hL.alloc hL.size _⟩
  have hgt_uB_tB : b_tB < y3.heap.size := tB.lt
  have hgt_uB_sB : b_sB < y3.heap.size := sB.lt
  have hgt_uB_cB : b_cB < y3.heap.size := cB.lt
  have hge_uB : w.heap.size ≤ y3.heap.size := hL.size
  clear hX tB sB cB hL
  clear lt_tB lt_sB lt_cB
  generalize y3.heap.size = b_uB at *
  have uB := uB'
  have tB := tB'
  have sB := sB'
  have cB := cB'
  have hL := hL'
  clear uB' tB' sB' cB' hL'
  have lt_uB := uB.lt
  have lt_tB := tB.lt
  have lt_sB := sB.lt
  have lt_cB := cB.lt
  go_upto_region 6 with (first | (refine wpl_load_row (by kernel_rfl) 24 (.tmp 1) rfl b_cB rfl 24 #[.int .i64 c.bits, .int .u64 c.one, .int .i64 c.ring, .int .u64 c.limit, .int .i64 c.room, .int .u64 c.mss, .int .u64 c.initial, .int .u64 c.least, .int .u64 c.most, .int .i64 c.algo, .int .u64 c.first, .int .u64 c.grain, .int .u64 c.cap, .int .u64 c.burst, .int .u64 c.slowest, .int .i64 c.chal, .int .u64 c.every] (0, 0) _ cB Try.underlying24 rfl (by kernel_rfl) ?_) | (refine wpl_load_row (by kernel_rfl) 31 (.tmp 3) rfl b_tB rfl 31 #[.int .u64 50, .int .u64 50, .int .u64 0, .int .u64 0, .int .u64 18446744073709551615, .int .u64 0, .int .u64 0, .int .u64 9, .int .u64 1] (0, 0) _ tB Try.underlying31 rfl (by kernel_rfl) ?_) | (go_at_call 15; refine (C4 _).mono ?_; rintro x' y4 ⟨rfl, L4⟩; replace uB := uB.below L4 lt_uB; replace tB := tB.below L4 lt_tB; replace sB := sB.below L4 lt_sB; replace cB := cB.below L4 lt_cB; replace hL := Base.next hL L4; replace lt_uB := uB.lt; replace lt_tB := tB.lt; replace lt_sB := sB.lt; replace lt_cB := cB.lt))
  refine at_any ?_
  intro X hX
  obtain ⟨vB', uB', tB', sB', cB', hL'⟩ : Blk X y4.heap.size #[.int .u64 50, .int .u64 50, .int .u64 0, .int .u64 0, .int .u64 18446744073709551615, .int .u64 0, .int .u64 0, .int .u64 12, .int .u64 2] 31 ∧ Blk X b_uB #[.int .u64 50, .int .u64 50, .int .u64 0, .int .u64 0, .int .u64 18446744073709551615, .int .u64 0, .int .u64 0, .int .u64 9, .int .u64 1] 31 ∧ Blk X b_tB #[.int .u64 50, .int .u64 50, .int .u64 0, .int .u64 0, .int .u64 18446744073709551615, .int .u64 0, .int .u64 0, .int .u64 9, .int .u64 1] 31 ∧ Blk X b_sB #[.int .u64 100, .int .u64 18446744073709551615, .int .u64 0, .int .u64 0, .int .u64 18446744073709551615, .int .u64 0, .int .u64 0, .int .u64 0, .int .u64 0] 31 ∧ Blk X b_cB #[.int .i64 c.bits, .int .u64 c.one, .int .i64 c.ring, .int .u64 c.limit, .int .i64 c.room, .int .u64 c.mss, .int .u64 c.initial, .int .u64 c.least, .int .u64 c.most, .int .i64 c.algo, .int .u64 c.first, .int .u64 c.grain, .int .u64 c.cap, .int .u64 c.burst, .int .u64 c.slowest, .int .i64 c.chal, .int .u64 c.every] 24 ∧ Below w.heap.size w X := by
    subst hX
    exact ⟨Blk.new _ _ _, uB.alloc _, tB.alloc _, sB.alloc _, cB.alloc _, hL.alloc hL.size _⟩
  have hgt_vB_uB : b_uB < y4.heap.size := uB.lt
  have hgt_vB_tB : b_tB < y4.heap.size := tB.lt
  have hgt_vB_sB : b_sB < y4.heap.size := sB.lt
  have hgt_vB_cB : b_cB < y4.heap.size := cB.lt
  have hge_vB : w.heap.size ≤ y4.heap.size := hL.size
  clear hX uB tB sB cB hL
  clear lt_uB lt_tB lt_sB lt_cB
  generalize y4.heap.size = b_vB at *
  have vB := vB'
  have uB := uB'
  have tB := tB'
  have sB := sB'
  have cB := cB'
  have hL := hL'
  clear vB' uB' tB' sB' cB' hL'
  have lt_vB := vB.lt
  have lt_uB := uB.lt
  have lt_tB := tB.lt
  have lt_sB := sB.lt
  have lt_cB := cB.lt
  go_wp2_with (first
    | (go_at_call 11; (with_reducible refine (C5 _).mono ?_); rintro x' y5 ⟨rfl, L5⟩; replace vB := vB.below L5 lt_vB; replace uB := uB.below L5 lt_uB; replace tB := tB.below L5 lt_tB; replace sB := sB.below L5 lt_sB; replace cB := cB.below L5 lt_cB; replace hL := Base.next hL L5; replace lt_vB := vB.lt; replace lt_uB := uB.lt; replace lt_tB := tB.lt; replace lt_sB := sB.lt; replace lt_cB := cB.lt; have sB_0 : _ = some (Value.int .u64 100) := sB.cell 0; have sB_1 : _ = some (Value.int .u64 18446744073709551615) := sB.cell 1; have tB_0 : _ = some (Value.int .u64 50) := tB.cell 0; have tB_7 : _ = some (Value.int .u64 9) := tB.cell 7; have tB_8 : _ = some (Value.int .u64 1) := tB.cell 8; have vB_0 : _ = some (Value.int .u64 50) := vB.cell 0)
    | (refine wpl_load_row (by kernel_rfl) 31 (.tmp 5) rfl b_uB rfl 31 #[.int .u64 50, .int .u64 50, .int .u64 0, .int .u64 0, .int .u64 18446744073709551615, .int .u64 0, .int .u64 0, .int .u64 9, .int .u64 1] (0, 0) _ uB Try.underlying31 rfl (by kernel_rfl) ?_)
    | (refine wpl_load_row (by kernel_rfl) 31 (.tmp 3) rfl b_tB rfl 31 #[.int .u64 50, .int .u64 50, .int .u64 0, .int .u64 0, .int .u64 18446744073709551615, .int .u64 0, .int .u64 0, .int .u64 9, .int .u64 1] (0, 0) _ tB Try.underlying31 rfl (by kernel_rfl) ?_)
    | (refine wpl_load_row (by kernel_rfl) 24 (.tmp 1) rfl b_cB rfl 24 #[.int .i64 c.bits, .int .u64 c.one, .int .i64 c.ring, .int .u64 c.limit, .int .i64 c.room, .int .u64 c.mss, .int .u64 c.initial, .int .u64 c.least, .int .u64 c.most, .int .i64 c.algo, .int .u64 c.first, .int .u64 c.grain, .int .u64 c.cap, .int .u64 c.burst, .int .u64 c.slowest, .int .i64 c.chal, .int .u64 c.every] (0, 0) _ cB Try.underlying24 rfl (by kernel_rfl) ?_)
    | (refine wpl_load_row (by kernel_rfl) 31 (.tmp 2) rfl b_sB rfl 31 #[.int .u64 100, .int .u64 18446744073709551615, .int .u64 0, .int .u64 0, .int .u64 18446744073709551615, .int .u64 0, .int .u64 0, .int .u64 0, .int .u64 0] (0, 0) _ sB Try.underlying31 rfl (by kernel_rfl) ?_)
    | (go_at_call 17; (with_reducible refine (C6 _).mono ?_); rintro x' y6 ⟨rfl, L6⟩; replace hL := Base.next hL L6)
    | (refine wpl_val (by kernel_rfl) (fld_win (.tmp 83) rfl rfl) ?_)
    | (refine wpl_val (by kernel_rfl) (fld_cw (.tmp 84) rfl rfl) ?_))
  all_goals go_ret
  all_goals exact ⟨rfl, hL⟩
end Go.Proofs.Ytnnpklnhdfpnjaa.Control
/-
  What any events leave of a control: the window between the least and the most, never above what it began with and all that was acknowledged. Plain.
-/
set_option linter.unusedSimpArgs false
set_option linter.unusedVariables false
namespace Go.Proofs.Ytnnpklnhdfpnjaa.ControlPlain
set_option linter.unusedVariables false
open Go.Proofs.Ytnnpklnhdfpnjaa.RenoPlain Go.Proofs.Ytnnpklnhdfpnjaa.CubicPlain Go.Proofs.Ytnnpklnhdfpnjaa.RoundPlain Go.Proofs.Ytnnpklnhdfpnjaa.ConfPlain Go.Proofs.Ytnnpklnhdfpnjaa.Conf

theorem grows_r {w : Wn} (h : WFit w) {m l M : Int} (m0 : 1 ≤ m) (m1 : m ≤ 40) (l0 : 0 ≤ l) (l1 : l ≤ 65535) (hmc : m ≤ w.cw) (hs : w.cw + w.ac ≤ M) (hM : M ≤ 1000000000) :
    w.cw ≤ (growR w l m).cw ∧ (growR w l m).cw + (growR w l m).ac ≤ M + l ∧ (growR w l m).th = w.th := by
  have a0 := h.ac.1
  have c0 := h.cw.1
  obtain ⟨c, t, a, p, e, k, f⟩ := w
  dsimp only at a0 c0 hs hmc
  have h1 : Sat.mul 2 m = 2 * m := Sat.mul_fits (by omega)
  have h2 : Sat.add a l = a + l := by unfold Sat.add; rw [if_pos (by omega)]
  have h3 : Sat.add c m = c + m := by unfold Sat.add; rw [if_pos (by omega)]
  obtain ⟨y, hy, y0, y1, y2⟩ : ∃ y, min l (2 * m) = y ∧ 0 ≤ y ∧ y ≤ l ∧ y ≤ 2 * m := ⟨_, rfl, by omega, by omega, by omega⟩
  have h4 : Sat.add c y = c + y := by unfold Sat.add; rw [if_pos (by omega)]
  unfold growR slowW
  rw [h1, hy]
  simp only
  rw [h2, h3, h4]
  clear h1 h2 h3 h4 hy
  split
  · refine ⟨?_, ?_, ?_⟩ <;> dsimp only <;> omega
  · split
    · refine ⟨?_, ?_, ?_⟩ <;> dsimp only <;> omega
    · refine ⟨?_, ?_, ?_⟩ <;> dsimp only <;> omega
theorem growC_th (w : Wn) (acked m now smooth : Int) : (growC w acked m now smooth).th = w.th := by
  have hb : (beginC w m now).th = w.th := by
    unfold beginC
    split <;> rfl
  unfold growC slowW
  split
  · rfl
  · split
    · exact hb
    · unfold goC
      exact hb
/-- What a configuration that was made is worth to a control. -/
structure Cw (c : C) : Prop where
  fit : CFit c
  ok : pos (flags c) = 0
  m0 : 1 ≤ c.mss
  m1 : c.mss ≤ 40
  lst : 2 * c.mss ≤ c.least
  ini : c.least ≤ c.initial
  mst : c.initial ≤ c.most
  top : c.most ≤ 630
structure Pl (c : C) (M : Int) (s : Kc) : Prop where
  fit : KFit s
  lo : c.least ≤ s.w.cw
  hi : s.w.cw ≤ c.most
  th : c.least ≤ s.w.th
  sum : c.algo = 1 → s.w.cw + s.w.ac ≤ M
  pl : c.algo ≠ 1 → Plays s.w c.mss M
  all : s.w.cw ≤ M
theorem clamp_is {x lo hi : Int} (h : lo ≤ x) (hl : lo ≤ hi) : Sat.clamp x lo hi = min x hi := by
  unfold Sat.clamp
  split
  · omega
  · split <;> omega
theorem clamp_in {x lo hi : Int} (hl : lo ≤ hi) : lo ≤ Sat.clamp x lo hi ∧ Sat.clamp x lo hi ≤ hi ∧ Sat.clamp x lo hi ≤ max x lo := by
  unfold Sat.clamp
  split
  · omega
  · split <;> omega
theorem pl_start {c : C} (h : Cw c) : Pl c c.initial (startK c) := by
  have e : startK c = firstK c := by unfold startK; rw [if_pos h.ok]
  have hf := fit_start h.fit
  have := h.ini
  have := h.mst
  have := h.lst
  have := h.m0
  rw [e] at hf ⊢
  refine ⟨hf, h.ini, h.mst, ?_, fun _ => ?_, fun _ => ⟨hf.w, ?_, Int.le_refl _, ?_⟩, Int.le_refl _⟩
  · show c.least ≤ 18446744073709551615
    have := h.top
    omega
  · show c.initial + 0 ≤ c.initial
    omega
  · show c.mss ≤ c.initial
    omega
  · show 0 ≤ c.initial
    omega
theorem pl_ack {c : C} (h : Cw c) {M : Int} {s : Kc} (hp : Pl c M s) (hM : M ≤ 1000000000) {b now smooth : Int} (b0 : 0 ≤ b) (b1 : b ≤ 65535) (n : U now) (m : U smooth) : Pl c (M + b) (ackK c s b now smooth) := by
  have hf := fit_ack h.fit hp.fit (acked := b) ⟨b0, by omega⟩ n m
  have e : ackK c s b now smooth = ⟨clampW c (growK c s.w b now smooth), s.d⟩ := by unfold ackK; rw [if_pos h.ok]
  have hlo := hp.lo
  have hini := h.ini
  have hmst := h.mst
  have hlst := h.lst
  have hm0 := h.m0
  have hall := hp.all
  rw [e] at hf ⊢
  by_cases ha : c.algo = 1
  · have eg : growK c s.w b now smooth = growR s.w b c.mss := by unfold growK; rw [if_pos ha]
    rw [eg] at hf ⊢
    obtain ⟨g1, g2, g3⟩ := grows_r hp.fit.w h.m0 h.m1 b0 b1 (by omega) (hp.sum ha) hM
    have ec : (clampW c (growR s.w b c.mss)).cw = min (growR s.w b c.mss).cw c.most := clamp_is (by omega) (by omega)
    have ea : (clampW c (growR s.w b c.mss)).ac = (growR s.w b c.mss).ac := rfl
    have et : (clampW c (growR s.w b c.mss)).th = (growR s.w b c.mss).th := rfl
    have hac := hf.w.ac.1
    rw [ea] at hac
    have hth := hp.th
    refine ⟨hf, ?_, ?_, ?_, fun _ => ?_, fun hn => absurd ha hn, ?_⟩ <;> dsimp only <;> (try rw [ec]) <;> (try rw [ea]) <;> (try rw [et]) <;> omega
  · have eg : growK c s.w b now smooth = growC s.w b c.mss now smooth := by unfold growK; rw [if_neg ha]
    rw [eg] at hf ⊢
    obtain ⟨g1, g2⟩ := (hp.pl ha).grow h.m0 (by have := h.m1; omega) hM b0 b1 n m
    have gt := growC_th s.w b c.mss now smooth
    have gc := g1.cw
    have gf := g1.fr
    have ec : (clampW c (growC s.w b c.mss now smooth)).cw = min (growC s.w b c.mss now smooth).cw c.most := clamp_is (by omega) (by omega)
    have ef : (clampW c (growC s.w b c.mss now smooth)).fr = (growC s.w b c.mss now smooth).fr := rfl
    have et : (clampW c (growC s.w b c.mss now smooth)).th = (growC s.w b c.mss now smooth).th := rfl
    have hth := hp.th
    refine ⟨hf, ?_, ?_, ?_, fun hn => absurd hn ha, fun _ => ⟨hf.w, ?_, ?_, ?_⟩, ?_⟩ <;> dsimp only <;> (try rw [ec]) <;> (try rw [ef]) <;> (try rw [et]) <;> omega
theorem pl_cut {c : C} (h : Cw c) {M : Int} {s : Kc} (hp : Pl c M s) (hi : c.initial ≤ M) {r q : Int} (r0 : 0 ≤ r) (r1 : r ≤ 20) (q0 : 0 ≤ q) (q1 : q ≤ 20) (x : Int) (hx : x = (cutK c s.w r q).cw ∨ x = c.least) (d : Rd) (hd : DFit d) : Pl c M ⟨{ cutK c s.w r q with cw := x }, d⟩ := by
  have ur : U r := ⟨r0, by omega⟩
  have uq : U q := ⟨q0, by omega⟩
  have hv := fit_cutK h.fit hp.fit.w ur uq
  have hlo := hp.lo
  have hini := h.ini
  have hmst := h.mst
  have hlst := h.lst
  have hm0 := h.m0
  have hall := hp.all
  have hcw := hp.fit.w.cw
  have hc : (cutK c s.w r q).cw = Sat.clamp (cutV c s.w r q).cw c.least c.most := rfl
  obtain ⟨k1, k2, k3⟩ := clamp_in (x := (cutV c s.w r q).cw) (show c.least ≤ c.most by omega)
  have hV : (cutV c s.w r q).cw ≤ s.w.cw := by
    unfold cutV
    split
    · exact down_le hcw.1 r0 (by decide) (Int.mul_le_mul_of_nonneg_left r1 hcw.1)
    · exact down_le hcw.1 q0 (by decide) (Int.mul_le_mul_of_nonneg_left q1 hcw.1)
  have ht : (cutK c s.w r q).th = max (cutV c s.w r q).th c.least := rfl
  have hxb : c.least ≤ x ∧ x ≤ c.most ∧ x ≤ M := by
    rcases hx with rfl | rfl
    · rw [hc]; omega
    · omega
  have hU : U x := ⟨by omega, by have := h.top; omega⟩
  have hfw : WFit { cutK c s.w r q with cw := x } := { hv with cw := hU }
  refine ⟨⟨hfw, hd⟩, hxb.1, hxb.2.1, ?_, fun ha => ?_, fun ha => ⟨hfw, ?_, hxb.2.2, ?_⟩, hxb.2.2⟩
  · show c.least ≤ (cutK c s.w r q).th
    rw [ht]
    omega
  · have e : (cutK c s.w r q).ac = 0 := by
      show (cutV c s.w r q).ac = 0
      unfold cutV
      rw [if_pos ha]
      rfl
    show x + (cutK c s.w r q).ac ≤ M
    omega
  · show c.mss ≤ x
    omega
  · have e : (cutK c s.w r q).fr = 0 := by
      show (cutV c s.w r q).fr = 0
      unfold cutV
      rw [if_neg ha]
      rfl
    show (cutK c s.w r q).fr ≤ M
    omega
theorem pl_fall {c : C} (h : Cw c) {M : Int} {s : Kc} (hp : Pl c M s) (hi : c.initial ≤ M) : Pl c M (fallK c s) ∧ (fallK c s).w.cw = c.least ∧ (fallK c s).d = s.d := by
  have e : fallK c s = ⟨{ cutK c s.w 10 14 with cw := c.least }, s.d⟩ := by unfold fallK; rw [if_pos h.ok]
  rw [e]
  exact ⟨pl_cut h hp hi (by decide) (by decide) (by decide) (by decide) c.least (.inr rfl) s.d hp.fit.d, rfl, rfl⟩
/-- A loss, a mark: one cut and a round more, or nothing. -/
theorem pl_loss {c : C} (h : Cw c) {M : Int} {s : Kc} (hp : Pl c M s) (hi : c.initial ≤ M) {r q pn N n : Int} (r0 : 0 ≤ r) (r1 : r ≤ 20) (q0 : 0 ≤ q) (q1 : q ≤ 20) (p0 : 0 ≤ pn) (p1 : pn ≤ N) (hN : N ≤ 1000000) (hd : s.d.cuts = n) (n0 : n ≤ 1000000) :
    Pl c M (lossK c s pn (N + 1) r q) ∧ (lossB c s pn = true → s.d.end_ ≤ pn ∧ (lossK c s pn (N + 1) r q).d.end_ = N + 1 ∧ (lossK c s pn (N + 1) r q).d.cuts = n + 1) ∧ (lossB c s pn = false → (lossK c s pn (N + 1) r q).d = s.d) := by
  cases hb : lossB c s pn with
  | false =>
    rw [loss_no hb]
    exact ⟨hp, fun h => (by cases h), fun _ => rfl⟩
  | true =>
    rw [loss_yes hb]
    have he : s.d.end_ ≤ pn := by
      unfold lossB at hb
      rw [Bool.and_eq_true] at hb
      exact of_decide_eq_true hb.2
    have hc0 := hp.fit.d.c0
    have hdf := fit_begin hp.fit.d p0 (show 0 ≤ N + 1 by omega) (show N + 1 ≤ 18446744073709551615 by omega)
    have hb2 : beginP s.d pn (N + 1) = ⟨N + 1, n + 1⟩ := by
      rw [begin_yes he]
      unfold endP
      rw [if_neg (by omega), hd]
      unfold Sat.add
      rw [if_pos (by omega)]
    refine ⟨pl_cut h hp hi r0 r1 q0 q1 _ (.inl rfl) _ hdf, fun _ => ⟨he, ?_, ?_⟩, fun h => by cases h⟩
    · show (beginP s.d pn (N + 1)).end_ = N + 1
      rw [hb2]
    · show (beginP s.d pn (N + 1)).cuts = n + 1
      rw [hb2]
theorem cw_made {c : C} (h : Made c) (hf : CFit c) : Cw c := by
  have hp := pos_fit h
  unfold Made at h
  exact ⟨hf, hp, by omega, by omega, by omega, by omega, by omega, by omega⟩
end Go.Proofs.Ytnnpklnhdfpnjaa.ControlPlain
