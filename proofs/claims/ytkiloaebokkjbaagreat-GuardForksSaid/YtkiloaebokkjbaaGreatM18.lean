/-
  Several texts in one: GuardRow, GuardRef, GuardTake, GuardTake2, AckDec, GuardFrame.
-/
import Derived.Test.YtkiloaebokkjbaaGreatM6
import Derived.Test.YtkiloaebokkjbaaGreatM11
import Derived.Test.YtkiloaebokkjbaaGreatM14
import Derived.Test.YtkiloaebokkjbaaGreatM16
import Derived.Test.YtkiloaebokkjbaaGreatM17
import Derived.Test.YtkiloaebokkjbaaGreatM9
import Derived.Deep.MidRow
import Derived.WalkSpells
import Derived.LoopTactic
import Derived.Lib.Hide
import Derived.Outline
import Derived.Test.YtkiloaebokkjbaaGreatM19
import Derived.Test.YtkiloaebokkjbaaGreatTrigAsk
/-
  The reference's guard: its block, its budget, the rows of its evidence.
-/
set_option linter.unusedSimpArgs false
set_option linter.unusedVariables false
namespace Go.Proofs.YtkiloaebokkjbaaGreat.Guard
set_option linter.unusedVariables false
open Go.ChangeShapes Go.WideShapes Go.ChangeAt Go.RowKit
open Go.Proofs.YtkiloaebokkjbaaGreat.Base Go.Proofs.YtkiloaebokkjbaaGreat.LedPlain Go.Proofs.YtkiloaebokkjbaaGreat.BudPlain Go.Proofs.YtkiloaebokkjbaaGreat.GuardPlain Go.Proofs.YtkiloaebokkjbaaGreat.Led Go.Proofs.YtkiloaebokkjbaaGreat.Bud Go.Proofs.YtkiloaebokkjbaaGreat.SpanPlain
open Go.Proofs.YtkiloaebokkjbaaGreat.AckPlain (K)

/-- The rows of an acknowledgment, lying in S. -/
structure Rw (S : Nat → Prop) (w : World) (x : K) (p : Option Addr) (c : Nat) (q : Option Addr) (d : Nat) : Prop where
  c0 : x.spans.length ≤ c
  c1 : c ≤ maxLen
  d0 : x.marked.length ≤ d
  d1 : d ≤ maxLen
  p0 : p = none → x.spans.length = 0 ∧ c = 0
  q0 : q = none → x.marked.length = 0 ∧ d = 0
  s : RowIn S w p (flat x.spans)
  m : RowIn S w q (flat x.marked)
theorem Rw.kept {S T : Nat → Prop} {w w' : World} {x : K} {p q : Option Addr} {c d : Nat} (h : Rw S w x p c q d) (hf : Fr T w w') (hn : ∀ k, S k → ¬ T k) : Rw S w' x p c q d := ⟨h.c0, h.c1, h.d0, h.d1, h.p0, h.q0, h.s.kept hf hn, h.m.kept hf hn⟩
theorem Rw.mono {S T : Nat → Prop} {w : World} {x : K} {p q : Option Addr} {c d : Nat} (h : Rw S w x p c q d) (hn : ∀ k, k < w.heap.size → S k → T k) : Rw T w x p c q d := ⟨h.c0, h.c1, h.d0, h.d1, h.p0, h.q0, h.s.mono hn, h.m.mono hn⟩
theorem Rw.below {S : Nat → Prop} {w w' : World} {x : K} {p q : Option Addr} {c d : Nat} (h : Rw S w x p c q d) (hb : Below w.heap.size w w') : Rw S w' x p c q d := h.kept (T := fun _ => False) (Fr.of_below hb) fun _ _ h => h
theorem Rw.zero (S : Nat → Prop) (w : World) : Rw S w AckPlain.zero none 0 none 0 := ⟨Nat.le_refl _, Nat.zero_le _, Nat.le_refl _, Nat.zero_le _, fun _ => ⟨rfl, rfl⟩, fun _ => ⟨rfl, rfl⟩, RowIn.nil _ _ _, RowIn.nil _ _ _⟩
theorem Rw.drew {S : Nat → Prop} {w : World} {x : K} {p q : Option Addr} {c d : Nat} (h : Rw S w x p c q d) : Rw S w.drew x p c q d := ⟨h.c0, h.c1, h.d0, h.d1, h.p0, h.q0, h.s, h.m⟩
/-- The cells of the reference's guard. -/
def gcells (bb : Nat) (n : Ct) (ended : Bool) (e : Ev) (p : Option Addr) (c : Nat) (q : Option Addr) (d : Nat) : Array Value :=
  #[.pointer (some ⟨bb, 0, none⟩), .int .u64 n.mal, .int .u64 n.drop, .int .u64 n.taken, .int .u64 n.chal, .int .u64 n.late, .bool ended, .int .u64 e.time, .int .u64 e.pn, .int .u64 e.used, .int .i64 e.why,
    .slice p e.ack.spans.length c, .slice q e.ack.marked.length d, .int .u64 e.ack.trigger, .int .u64 e.ack.xor, .bool e.ack.parity]
/-- The reference's guard g in block b: what it may turn lies in S, the rows that it only reads in R. -/
structure Gf (S R : Nat → Prop) (w : World) (b : Nat) (g : Gd) : Prop where
  inB : S b
  dis : ∀ k, S k → ¬ R k
  ex : ∃ (bb : Nat) (p : Option Addr) (c : Nat) (q : Option Addr) (d : Nat) (S1 : Nat → Prop), Blk w b (gcells bb g.n g.ended g.e p c q d) 114 ∧ Bf S1 w bb g.b ∧ Rw R w g.e.ack p c q d ∧ ∀ k, S1 k → S k ∧ k ≠ b
theorem Gf.kept {S R T : Nat → Prop} {w w' : World} {b : Nat} {g : Gd} (h : Gf S R w b g) (hf : Fr T w w') (hn : ∀ k, S k → ¬ T k) (hr : ∀ k, R k → ¬ T k) : Gf S R w' b g := by
  obtain ⟨bb, p, c, q, d, S1, hB, hb, hw, h1⟩ := h.ex
  exact ⟨h.inB, h.dis, bb, p, c, q, d, S1, hB.kept hf (hn b h.inB), hb.kept hf (fun k hk => hn k (h1 k hk).1), hw.kept hf hr, h1⟩
theorem Gf.below {S R : Nat → Prop} {w w' : World} {b : Nat} {g : Gd} (h : Gf S R w b g) (hb : Below w.heap.size w w') : Gf S R w' b g := h.kept (T := fun _ => False) (Fr.of_below hb) (fun _ _ h => h) fun _ _ h => h
theorem Gf.mono {S T R U : Nat → Prop} {w : World} {b : Nat} {g : Gd} (h : Gf S R w b g) (hn : ∀ k, S k → T k) (hr : ∀ k, k < w.heap.size → R k → U k) (hd : ∀ k, T k → ¬ U k) : Gf T U w b g := by
  obtain ⟨bb, p, c, q, d, S1, hB, hb, hw, h1⟩ := h.ex
  exact ⟨hn b h.inB, hd, bb, p, c, q, d, S1, hB, hb, hw.mono hr, fun k hk => ⟨hn k (h1 k hk).1, (h1 k hk).2⟩⟩
theorem Gf.lt {S R : Nat → Prop} {w : World} {b : Nat} {g : Gd} (h : Gf S R w b g) : b < w.heap.size := by
  obtain ⟨bb, p, c, q, d, S1, hB, _⟩ := h.ex
  exact hB.lt
theorem Blk.there {w : World} {b : Nat} {cs : Array Value} {T : TypeId} (h : Blk w b cs T) {o n : Nat} (hn : o + n ≤ cs.size) : w.there b o n := fun j hj => by
  refine ⟨?_, h.free _⟩
  rw [h.cell, Array.getElem?_eq_getElem (by omega)]
  rfl
theorem Blk.range {w : World} {b : Nat} {cs : Array Value} {T : TypeId} (h : Blk w b cs T) {o : Nat} {l : List Value} (hl : ∀ j v, l[j]? = some v → cs[o + j]? = some v) : w.rangeAt b o l := fun j v hj => by
  rw [h.cell]
  exact hl j v hj
end Go.Proofs.YtkiloaebokkjbaaGreat.Guard

/-
  Contracts of the reference's guard: what makes one, what forks one, whether two evidences are alike.
-/
set_option linter.unusedSimpArgs false
set_option linter.unusedVariables false
namespace Go.Proofs.YtkiloaebokkjbaaGreat.Guard
set_option linter.unusedVariables false
set_option maxRecDepth 20000
open Go.ChangeShapes Go.WideShapes Go.ChangeAt Go.RowKit
open Go.Proofs.YtkiloaebokkjbaaGreat.Base Go.Proofs.YtkiloaebokkjbaaGreat.LedPlain Go.Proofs.YtkiloaebokkjbaaGreat.BudPlain Go.Proofs.YtkiloaebokkjbaaGreat.GuardPlain Go.Proofs.YtkiloaebokkjbaaGreat.Led Go.Proofs.YtkiloaebokkjbaaGreat.Bud Go.Proofs.YtkiloaebokkjbaaGreat.SpanPlain
open Go.Proofs.YtkiloaebokkjbaaGreat.AckPlain (K)

theorem ref_newguard (most every : Int) (e0 : 0 ≤ every) (e1 : every ≤ 18446744073709551615) (w : World) :
    Calls Tryz.prog 11 #[.int .i64 most, .int .u64 every] w fun e w' => ∃ b, e = .returned (.pointer (some ⟨b, 0, none⟩)) ∧ Gf (fun k => w.heap.size ≤ k ∧ k < w'.heap.size) (fun _ => False) w' b (newD most every) ∧ Below w.heap.size w w' := by
  have CB := Bud.ref_new most every e0 e1 w
  go_enter Tryz.func11, Tryz.ntmps11
  go_wp2_with (go_at_call 38; refine CB.mono ?_; rintro e w1 ⟨bb, rfl, hb, L1⟩)
  go_ret
  have hs := L1.size
  exact ⟨_, rfl, ⟨⟨hs, by simp⟩, fun _ _ h => h, bb, none, 0, none, 0, _, Blk.new _ _ _, hb.below ((Below.refl _ _).alloc (Nat.le_refl _) _), Rw.zero _ _, fun k hk => ⟨⟨hk.1, by simp; omega⟩, by omega⟩⟩, L1.alloc hs _⟩
theorem ref_same_ev (g : Gd) (n : Nat) (hc : Cb g n) (p1 q1 p2 q2 : Option Addr) (c1 d1 c2 d2 : Nat) (S1 S2 : Nat → Prop) (w : World) (h1 : Rw S1 w g.e.ack p1 c1 q1 d1) (h2 : Rw S2 w g.e.ack p2 c2 q2 d2) :
    Calls Tryz.prog 24 #[.agg #[.int .u64 g.e.time, .int .u64 g.e.pn, .int .u64 g.e.used, .int .i64 g.e.why, .slice p1 g.e.ack.spans.length c1, .slice q1 g.e.ack.marked.length d1, .int .u64 g.e.ack.trigger, .int .u64 g.e.ack.xor, .bool g.e.ack.parity],
      .agg #[.int .u64 g.e.time, .int .u64 g.e.pn, .int .u64 g.e.used, .int .i64 g.e.why, .slice p2 g.e.ack.spans.length c2, .slice q2 g.e.ack.marked.length d2, .int .u64 g.e.ack.trigger, .int .u64 g.e.ack.xor, .bool g.e.ack.parity]] w fun e w' => e = .returned (.bool true) ∧ Below w.heap.size w w' := by
  have hk := hc.k
  have k1 := hk.s32
  have k2 := hk.m32
  have z1 := h1.s.row
  have z2 := h1.m.row
  have z3 := h2.s.row
  have z4 := h2.m.row
  have CS := fun (W : World) (hW : Below w.heap.size w W) => Ack.ref_same_ack g.e.ack p1 q1 p2 q2 g.e.ack.spans.length c1 g.e.ack.marked.length d1 g.e.ack.spans.length c2 g.e.ack.marked.length d2 W rfl rfl rfl rfl (by omega) (by omega) (z1.below hW) (z2.below hW) (z3.below hW) (z4.below hW)
  clear z1 z2 z3 z4 h1 h2 hk k1 k2 hc
  generalize g.e.ack = x at *
  generalize g.e.time = t at *
  generalize g.e.pn = pn at *
  generalize g.e.used = us at *
  generalize g.e.why = wy at *
  go_enter Tryz.func24, Tryz.ntmps24
  go_wp2_with (go_at_call 25; refine (CS _ (((Below.refl _ _).alloc (Nat.le_refl _) _).alloc (by simp) _)).mono ?_; rintro e w1 ⟨rfl, L1⟩)
  go_ret
  exact ⟨rfl, Base.next0 (((Below.refl _ _).alloc (Nat.le_refl _) _).alloc (by simp) _) (by simp only [World.size_alloc]; omega) L1⟩
section
variable {ρ : Operand → Value} {o : Oper} {u : World}
theorem lb_any (ty : TypeId) (x : Operand) (ho : o.op = .load ty x) {g i : Nat} {v : Value} (hx : ρ x = .pointer (some ⟨g, i, none⟩)) (hd : (match Tryz.prog.underlying ty with | some (.struct _) | some (.array _ _) | none => false | _ => true) = true) (hc : u.cell? ⟨g, i, none⟩ = some v) : (execOp ρ o).run Tryz.prog u = .ok (.value v) u := by
  cases hq : Tryz.prog.underlying ty with
  | none => rw [hq] at hd; cases hd
  | some d =>
    rw [hq] at hd
    unfold execOp
    rw [ho]
    have hagg : (isAgg ty).run Tryz.prog u = .ok false u := by
      unfold isAgg
      rw [Sem.run_bind, run_underlying hq u]
      cases d <;> simp_all
    simp [hx, Instr.loadAt, Instr.sureAddr, loadVar, Sem.run_bind, hagg, hc, go_sem]
theorem lb_mid (ty : TypeId) (x : Operand) (ho : o.op = .load ty x) {g i : Nat} {cs : List Value} {d : TypeDesc} (hx : ρ x = .pointer (some ⟨g, i, none⟩)) (hc : u.rangeAt g i cs) (hu : Tryz.prog.underlying ty = some d) (hd : d.isRow = true) (hi : (Tryz.prog.info? ty).map (·.size) = some cs.length) : (execOp ρ o).run Tryz.prog u = .ok (.value (.agg cs.toArray)) u := by
  unfold execOp
  simp only [ho, hx, Instr.loadAt, Instr.sureAddr, Sem.run_bind, Sem.run_pure, Result.andThen_ok, run_loadVar_mid u g i ty cs d hc hu hd hi]
theorem box_any (ty : TypeId) (x : Operand) (ho : o.op = .box ty x) {cs : Array Value} (hx : ρ x = .agg cs) : (execOp ρ o).run Tryz.prog u = .ok (.value (.pointer (some ⟨u.heap.size, 0, none⟩))) (u.alloc (.cells cs ty)) := by unfold execOp; rw [ho]; simp [hx, go_sem]
theorem range_below {W : World} {g i : Nat} {cs : List Value} (h : Below W.heap.size W u) (hr : W.rangeAt g i cs) : u.rangeAt g i cs := fun j v hj => keepCell h (hr j v hj)
end
set_option maxHeartbeats 1000000 in
theorem ref_gfork {S R : Nat → Prop} {w : World} {b : Nat} {g : Gd} {n : Nat} (h : Gf S R w b g) (hc : Cb g n) (hn : n ≤ 1000000) :
    Calls Tryz.prog 32 #[.pointer (some ⟨b, 0, none⟩)] w fun e w' => ∃ b', e = .returned (.pointer (some ⟨b', 0, none⟩)) ∧ Gf (fun k => w.heap.size ≤ k ∧ k < w'.heap.size) (fun k => R k ∧ k < w.heap.size) w' b' g ∧ Below w.heap.size w w' := by
  obtain ⟨bb, p, c, q, d, S1, hB, hb, hr, h1⟩ := h.ex
  have c0 : w.cell? ⟨b, 0, none⟩ = some (.pointer (some ⟨bb, 0, none⟩)) := hB.cell 0
  have c6 : w.cell? ⟨b, 6, none⟩ = some (.bool g.ended) := hB.cell 6
  have z1 : w.rangeAt b 1 [.int .u64 g.n.mal, .int .u64 g.n.drop, .int .u64 g.n.taken, .int .u64 g.n.chal, .int .u64 g.n.late] := Blk.range hB fun j v hj => by
    rcases j with _ | _ | _ | _ | _ | j <;> first | exact hj | simp at hj
  have z7 : w.rangeAt b 7 [.int .u64 g.e.time, .int .u64 g.e.pn, .int .u64 g.e.used, .int .i64 g.e.why, .slice p g.e.ack.spans.length c, .slice q g.e.ack.marked.length d, .int .u64 g.e.ack.trigger, .int .u64 g.e.ack.xor, .bool g.e.ack.parity] := Blk.range hB fun j v hj => by
    rcases j with _ | _ | _ | _ | _ | _ | _ | _ | _ | j <;> first | exact hj | simp at hj
  have hbn := hc.b
  have CF := Bud.ref_fork hb.drew (by omega)
  have hbl := hB.lt
  clear hc hbn h hB
  go_enter Tryz.func32, Tryz.ntmps32
  go_upto_region 1 with fail
  have hS : Below w.heap.size w w.drew := Base.drew1 (Below.refl _ _)
  refine held_start (fun u => Below w.heap.size w u) (by kernel_rfl) ?_
  refine held_take (i := 0) (v := .pointer (some ⟨b, 0, none⟩)) rfl (by kernel_rfl) (by kernel_rfl) (by kernel_rfl) (fun _ _ _ h => h) (by kernel_rfl) hS (fun _ hu => by kernel_rfl) ?_
  refine held_take (i := 1) (v := .pointer (some ⟨b, 0, none⟩)) rfl (by kernel_rfl) (by kernel_rfl) (by kernel_rfl) (fun _ _ _ h => h) (by kernel_rfl) hS (fun _ hu => by kernel_rfl) ?_
  refine held_take (i := 2) (v := .pointer (some ⟨b, 0, none⟩)) rfl (by kernel_rfl) (by kernel_rfl) (by kernel_rfl) (fun _ _ _ h => h) (by kernel_rfl) hS (fun _ hu => by kernel_rfl) ?_
  refine held_take (i := 3) (v := .pointer (some ⟨bb, 0, none⟩)) rfl (by kernel_rfl) (by kernel_rfl) (by kernel_rfl) (fun _ _ _ h => h) (by kernel_rfl) hS (fun _ hu => by exact lb_any 111 (.tmp 5) rfl (by kernel_rfl) (by kernel_rfl) (keepCell hu c0)) ?_
  refine held_take (i := 5) (v := .pointer (some ⟨b, 0, none⟩)) rfl (by kernel_rfl) (by kernel_rfl) (by kernel_rfl) (fun _ _ _ h => h) (by kernel_rfl) hS (fun _ hu => by kernel_rfl) ?_
  refine held_take (i := 6) (v := .pointer (some ⟨b, 0, none⟩)) rfl (by kernel_rfl) (by kernel_rfl) (by kernel_rfl) (fun _ _ _ h => h) (by kernel_rfl) hS (fun _ hu => by kernel_rfl) ?_
  refine held_take (i := 7) (v := .pointer (some ⟨b, 1, none⟩)) rfl (by kernel_rfl) (by kernel_rfl) (by kernel_rfl) (fun _ _ _ h => h) (by kernel_rfl) hS (fun _ hu => by kernel_rfl) ?_
  refine held_take (i := 8) (v := .agg #[.int .u64 g.n.mal, .int .u64 g.n.drop, .int .u64 g.n.taken, .int .u64 g.n.chal, .int .u64 g.n.late]) rfl (by kernel_rfl) (by kernel_rfl) (by kernel_rfl) (fun _ _ _ h => h) (by kernel_rfl) hS (fun _ hu => by exact lb_mid 52 (.tmp 10) rfl (by kernel_rfl) (range_below hu z1) Tryz.underlying52 rfl (by kernel_rfl)) ?_
  refine held_take (i := 9) (v := .pointer (some ⟨b, 0, none⟩)) rfl (by kernel_rfl) (by kernel_rfl) (by kernel_rfl) (fun _ _ _ h => h) (by kernel_rfl) hS (fun _ hu => by kernel_rfl) ?_
  refine held_take (i := 10) (v := .pointer (some ⟨b, 0, none⟩)) rfl (by kernel_rfl) (by kernel_rfl) (by kernel_rfl) (fun _ _ _ h => h) (by kernel_rfl) hS (fun _ hu => by kernel_rfl) ?_
  refine held_take (i := 11) (v := .pointer (some ⟨b, 6, none⟩)) rfl (by kernel_rfl) (by kernel_rfl) (by kernel_rfl) (fun _ _ _ h => h) (by kernel_rfl) hS (fun _ hu => by kernel_rfl) ?_
  refine held_take (i := 12) (v := .bool g.ended) rfl (by kernel_rfl) (by kernel_rfl) (by kernel_rfl) (fun _ _ _ h => h) (by kernel_rfl) hS (fun _ hu => by exact lb_any 4 (.tmp 14) rfl (by kernel_rfl) (by kernel_rfl) (keepCell hu c6)) ?_
  refine held_take (i := 13) (v := .pointer (some ⟨b, 0, none⟩)) rfl (by kernel_rfl) (by kernel_rfl) (by kernel_rfl) (fun _ _ _ h => h) (by kernel_rfl) hS (fun _ hu => by kernel_rfl) ?_
  refine held_take (i := 14) (v := .pointer (some ⟨b, 0, none⟩)) rfl (by kernel_rfl) (by kernel_rfl) (by kernel_rfl) (fun _ _ _ h => h) (by kernel_rfl) hS (fun _ hu => by kernel_rfl) ?_
  refine held_take (i := 15) (v := .pointer (some ⟨b, 7, none⟩)) rfl (by kernel_rfl) (by kernel_rfl) (by kernel_rfl) (fun _ _ _ h => h) (by kernel_rfl) hS (fun _ hu => by kernel_rfl) ?_
  refine held_take (i := 16) (v := .agg #[.int .u64 g.e.time, .int .u64 g.e.pn, .int .u64 g.e.used, .int .i64 g.e.why, .slice p g.e.ack.spans.length c, .slice q g.e.ack.marked.length d, .int .u64 g.e.ack.trigger, .int .u64 g.e.ack.xor, .bool g.e.ack.parity]) rfl (by kernel_rfl) (by kernel_rfl) (by kernel_rfl) (fun _ _ _ h => h) (by kernel_rfl) hS (fun _ hu => by exact lb_mid 65 (.tmp 18) rfl (by kernel_rfl) (range_below hu z7) Tryz.underlying65 rfl (by kernel_rfl)) ?_
  refine held_call (i := 4) rfl (by kernel_rfl) (by kernel_rfl) (enter1 (.tmp 6) #[111] rfl (by kernel_rfl) (by kernel_rfl) (by kernel_rfl)) (CF.mono ?_)
  rintro e w4 ⟨bb4, rfl, hb4, L4⟩
  replace L4 := Base.undrew L4
  refine ⟨_, rfl, L4, ?_⟩
  refine held_take (i := 17) (v := .agg #[.pointer (some ⟨bb4, 0, none⟩), .int .u64 g.n.mal, .int .u64 g.n.drop, .int .u64 g.n.taken, .int .u64 g.n.chal, .int .u64 g.n.late, .bool g.ended, .int .u64 g.e.time, .int .u64 g.e.pn, .int .u64 g.e.used, .int .i64 g.e.why, .slice p g.e.ack.spans.length c, .slice q g.e.ack.marked.length d, .int .u64 g.e.ack.trigger, .int .u64 g.e.ack.xor, .bool g.e.ack.parity]) rfl (by kernel_rfl) (by kernel_rfl) (by kernel_rfl) (fun _ _ _ h => h) (by kernel_rfl) L4 (fun _ _ => by kernel_rfl) ?_
  refine held_one (i := 18) (v := .pointer (some ⟨w4.heap.size, 0, none⟩)) (w' := w4.alloc (.cells #[.pointer (some ⟨bb4, 0, none⟩), .int .u64 g.n.mal, .int .u64 g.n.drop, .int .u64 g.n.taken, .int .u64 g.n.chal, .int .u64 g.n.late, .bool g.ended, .int .u64 g.e.time, .int .u64 g.e.pn, .int .u64 g.e.used, .int .i64 g.e.why, .slice p g.e.ack.spans.length c, .slice q g.e.ack.marked.length d, .int .u64 g.e.ack.trigger, .int .u64 g.e.ack.xor, .bool g.e.ack.parity] 114)) rfl (by kernel_rfl) (by kernel_rfl) (box_any 114 (.tmp 20) rfl (by kernel_rfl)) (L4.alloc L4.size _) ?_
  refine held_one (i := 19) (v := .pointer (some ⟨w4.heap.size, 0, none⟩)) (w' := w4.alloc (.cells #[.pointer (some ⟨bb4, 0, none⟩), .int .u64 g.n.mal, .int .u64 g.n.drop, .int .u64 g.n.taken, .int .u64 g.n.chal, .int .u64 g.n.late, .bool g.ended, .int .u64 g.e.time, .int .u64 g.e.pn, .int .u64 g.e.used, .int .i64 g.e.why, .slice p g.e.ack.spans.length c, .slice q g.e.ack.marked.length d, .int .u64 g.e.ack.trigger, .int .u64 g.e.ack.xor, .bool g.e.ack.parity] 114)) rfl (by kernel_rfl) (by kernel_rfl) (by kernel_rfl) (L4.alloc L4.size _) ?_
  refine held_end 2 (.pointer (some ⟨w4.heap.size, 0, none⟩)) (by kernel_rfl) (by kernel_rfl) (by kernel_rfl) fun a' hd hv => ?_
  go_wp2
  refine bodyPost_ret (results_tmp rfl _ _ _) hd ?_
  rw [hv]
  have hs := L4.size
  have hd0 : w.drew.heap.size = w.heap.size := rfl
  exact ⟨_, rfl, ⟨⟨hs, by simp⟩, fun k h1 h2 => by omega, bb4, p, c, q, d, _, Blk.new _ _ _, hb4.below ((Below.refl _ _).alloc (Nat.le_refl _) _), ((hr.mono fun k h1 h2 => (⟨h2, h1⟩ : R k ∧ k < w.heap.size)).below L4).below ((Below.refl _ _).alloc (Nat.le_refl _) _),
    fun k hk => ⟨⟨by omega, by simp; omega⟩, by omega⟩⟩, L4.alloc hs _⟩
end Go.Proofs.YtkiloaebokkjbaaGreat.Guard

/-
  Contract of the reference's guard: what it makes of a frame.
-/
set_option linter.unusedSimpArgs false
set_option linter.unusedVariables false
namespace Go.Proofs.YtkiloaebokkjbaaGreat.Guard
set_option linter.unusedVariables false
set_option maxRecDepth 20000
open Go.ChangeShapes Go.WideShapes Go.ChangeAt Go.RowKit
open Go.Proofs.YtkiloaebokkjbaaGreat.Base Go.Proofs.YtkiloaebokkjbaaGreat.LedPlain Go.Proofs.YtkiloaebokkjbaaGreat.BudPlain Go.Proofs.YtkiloaebokkjbaaGreat.GuardPlain Go.Proofs.YtkiloaebokkjbaaGreat.Led Go.Proofs.YtkiloaebokkjbaaGreat.Bud Go.Proofs.YtkiloaebokkjbaaGreat.SpanPlain
open Go.Proofs.YtkiloaebokkjbaaGreat.AckPlain (K getAck)
open Go.Proofs.YtkiloaebokkjbaaGreat.OctPlain (Bytes)

def vcells (v : Vd) : Array Value := #[.int .i64 v.kind, .int .i64 v.why, .int .u64 v.pn, .bool v.chal]
def kcells (k : K) (p : Option Addr) (c : Nat) (q : Option Addr) (d : Nat) : Array Value := #[.slice p k.spans.length c, .slice q k.marked.length d, .int .u64 k.trigger, .int .u64 k.xor, .bool k.parity]
/-- What comes of a frame: the verdict and the acknowledgment; the guard and the ledger behind it. -/
def GPost (S R T : Nat → Prop) (w : World) (b lb : Nat) (t : Tk) : Ending → World → Prop := fun e w' => ∃ p c q d, e = .returned (.tuple #[.agg (vcells t.v), .agg (kcells t.k p c q d)]) ∧
  Rw (fun j => w.heap.size ≤ j ∧ j < w'.heap.size) w' t.k p c q d ∧ (∃ S' R', Gf S' R' w' b t.g ∧ (∀ j, S' j → Plus S w w' j) ∧ ∀ j, R' j → Plus R w w' j) ∧ Rf T w' lb t.l ∧ Fr (fun j => S j ∨ T j) w w'
/-- What is fixed of the footprints. -/
structure Fx (S R T : Nat → Prop) (w0 : World) (b : Nat) : Prop where
  inB : S b
  blt : b < w0.heap.size
  sr : ∀ j, S j → ¬ R j
  st : ∀ j, S j → ¬ T j
  rt : ∀ j, R j → ¬ T j
  t : ∀ j, T j → j < w0.heap.size
/-- On the way: the results' blocks, the guard, its budget, its rows, the ledger. -/
structure Sg (S R T : Nat → Prop) (w0 w : World) (b lb bb : Nat) (n : Ct) (ended : Bool) (e : Ev) (bg : Bg) (l : Lg) (p : Option Addr) (c : Nat) (q : Option Addr) (d : Nat) (S1 Re : Nat → Prop) : Prop where
  rv : Blk w w0.heap.size (vcells ⟨0, 0, 0, false⟩) 44
  ra : Blk w (w0.heap.size + 1) (kcells AckPlain.zero none 0 none 0) 56
  gb : Blk w b (gcells bb n ended e p c q d) 114
  bf : Bf S1 w bb bg
  rw : Rw Re w e.ack p c q d
  rf : Rf T w lb l
  fr : Fr (fun j => S j ∨ T j) w0 w
  sz : w0.heap.size + 2 ≤ w.heap.size
  hS : ∀ j, S1 j → j ≠ b ∧ ((S j ∧ j < w0.heap.size) ∨ (w0.heap.size + 2 ≤ j ∧ j < w.heap.size))
  hR : ∀ j, Re j → (R j ∧ j < w0.heap.size) ∨ (w0.heap.size + 2 ≤ j ∧ j < w.heap.size)
  hD : ∀ j, S1 j → ¬ Re j
section
variable {S R T : Nat → Prop} {w0 w w' : World} {b lb bb : Nat} {n : Ct} {ended : Bool} {e : Ev} {bg : Bg} {l : Lg} {p q : Option Addr} {c d : Nat} {S1 Re : Nat → Prop}
theorem Sg.under (h : Sg S R T w0 w b lb bb n ended e bg l p c q d S1 Re) (hb : Below w.heap.size w w') : Sg S R T w0 w' b lb bb n ended e bg l p c q d S1 Re := by
  have hs := hb.size
  have hz := h.sz
  refine ⟨h.rv.below hb h.rv.lt, h.ra.below hb h.ra.lt, h.gb.below hb h.gb.lt, h.bf.below hb, h.rw.below hb, h.rf.below hb, h.fr.trans (T := fun _ => False) (Fr.of_below hb) fun _ _ h => h.elim, by omega, fun j hj => ⟨(h.hS j hj).1, (h.hS j hj).2.imp id fun h => ⟨h.1, by omega⟩⟩, fun j hj => (h.hR j hj).imp id fun h => ⟨h.1, by omega⟩, h.hD⟩
/-- One cell of the guard turned. -/
theorem Sg.turn (hx : Fx S R T w0 b) (h : Sg S R T w0 w b lb bb n ended e bg l p c q d S1 Re) (i : Nat) (v : Value) {n' : Ct} {ended' : Bool} (hc : (gcells bb n ended e p c q d).setIfInBounds i v = gcells bb n' ended' e p c q d) :
    Sg S R T w0 (w.setCell ⟨b, i, none⟩ v) b lb bb n' ended' e bg l p c q d S1 Re := by
  have hF : Fr (fun k => k = b) w (w.setCell ⟨b, i, none⟩ v) := (Fr.refl (fun k => k = b) w).setCell (fun _ => rfl) v
  have hbl := hx.blt
  have hz := h.sz
  have hg := h.gb.set i v
  rw [hc] at hg
  have hsz : (w.setCell ⟨b, i, none⟩ v).heap.size = w.heap.size := by simp [World.setCell]
  refine ⟨h.rv.kept hF (by omega), h.ra.kept hF (by omega), hg, h.bf.kept hF (fun k hk => (h.hS k hk).1), h.rw.kept hF (fun k hk hkb => ?_), h.rf.kept hF (fun k hk hkb => by subst hkb; exact hx.st _ hx.inB hk), h.fr.setCell (fun _ => .inl hx.inB) v, by omega, fun j hj => ?_, fun j hj => ?_, h.hD⟩
  · subst hkb
    rcases h.hR _ hk with h1 | h1
    · exact hx.sr _ hx.inB h1.1
    · omega
  · rw [hsz]
    exact h.hS j hj
  · rw [hsz]
    exact h.hR j hj
/-- The results stored. -/
theorem Sg.fin (hx : Fx S R T w0 b) (h : Sg S R T w0 w b lb bb n ended e bg l p c q d S1 Re) (v : Vd) (k : K) (p' : Option Addr) (c' : Nat) (q' : Option Addr) (d' : Nat) (hk : Rw (fun j => w0.heap.size + 2 ≤ j ∧ j < w.heap.size) w k p' c' q' d') :
    GPost S R T w0 b lb ⟨v, k, ⟨bg, n, ended, e⟩, l⟩ (.returned (.tuple #[.agg (vcells v), .agg (kcells k p' c' q' d')])) ((w.setRow w0.heap.size (vcells v)).setRow (w0.heap.size + 1) (kcells k p' c' q' d')) := by
  have hF : Fr (fun j => w0.heap.size ≤ j ∧ j < w0.heap.size + 2) w ((w.setRow w0.heap.size (vcells v)).setRow (w0.heap.size + 1) (kcells k p' c' q' d')) := ((Fr.refl (fun j => w0.heap.size ≤ j ∧ j < w0.heap.size + 2) w).setRow (fun _ => by omega) _).setRow (fun _ => by omega) _
  generalize ((w.setRow w0.heap.size (vcells v)).setRow (w0.heap.size + 1) (kcells k p' c' q' d')) = u at *
  have hbl := hx.blt
  have hz := h.sz
  have hus := hF.size
  refine ⟨p', c', q', d', rfl, ((hk.kept hF (fun j h1 h2 => by omega)).mono fun j _ hj => by omega), ⟨fun j => j = b ∨ S1 j, Re, ⟨.inl rfl, ?_, bb, p, c, q, d, S1, h.gb.kept hF (by omega), h.bf.kept hF (fun j hj h2 => by have := h.hS j hj; omega), h.rw.kept hF (fun j hj h2 => by have := h.hR j hj; omega), fun j hj => ⟨.inr hj, (h.hS j hj).1⟩⟩, ?_, ?_⟩, h.rf.kept hF (fun j hj h2 => by have := hx.t j hj; omega), h.fr.trans hF fun j hj h2 => by omega⟩
  · intro j hj h2
    rcases hj with rfl | hj
    · rcases h.hR _ h2 with h1 | h1
      · exact hx.sr _ hx.inB h1.1
      · omega
    · exact h.hD j hj h2
  · intro j hj
    rcases hj with rfl | hj
    · exact .inl hx.inB
    · have := h.hS j hj
      rcases this.2 with h1 | h1
      · exact .inl h1.1
      · exact .inr (by omega)
  · intro j hj
    rcases h.hR j hj with h1 | h1
    · exact .inl h1.1
    · exact .inr (by omega)
end
/-- Two struct results, as a return finds them. -/
theorem results_cells {P : Program} {fn : Func} {p u : Tmp} {ty ty2 : TypeId} (h : fn.results = #[.cell p ty, .cell u ty2]) (tmps : Array Value) (w : World) (g g2 : Nat) (t t2 : TypeId) (cs ds : Array Value) (de de2 : TypeDesc)
    (hp : tmps.getD p undef = .pointer (some ⟨g, 0, none⟩)) (hp2 : tmps.getD u undef = .pointer (some ⟨g2, 0, none⟩)) (hg : Blk w g cs t) (hg2 : Blk w g2 ds t2)
    (hu : P.underlying ty = some de) (hd : (match de with | .struct _ | .array _ _ => true | _ => false) = true) (hi : (P.info? ty).map (·.size) = some cs.size)
    (hu2 : P.underlying ty2 = some de2) (hd2 : (match de2 with | .struct _ | .array _ _ => true | _ => false) = true) (hi2 : (P.info? ty2).map (·.size) = some ds.size) :
    (results fn tmps).run P w = .ok (.tuple #[.agg cs, .agg ds]) w := by
  have hp' : tmps[p]?.getD undef = .pointer (some ⟨g, 0, none⟩) := by simpa using hp
  have hp2' : tmps[u]?.getD undef = .pointer (some ⟨g2, 0, none⟩) := by simpa using hp2
  simp only [results, h]
  simp [Sem.run_bind, Result.andThen, hp', hp2', asAddr, run_loadVar_row w g t ty cs (0, 0) de hg hu hd hi, run_loadVar_row w g2 t2 ty2 ds (0, 0) de2 hg2 hu2 hd2 hi2]
theorem bf_cut {S : Nat → Prop} {w : World} {b : Nat} {g : Bg} (h : Bf S w b g) : Bf (fun k => S k ∧ k < w.heap.size) w b g := by
  obtain ⟨v, hB, hO, hv⟩ := h.ex
  exact ⟨h.ok, ⟨h.inB, hB.lt⟩, v, hB, hO, fun k hk => ⟨⟨(hv k hk).1, hO.lt hk⟩, (hv k hk).2⟩⟩
/-- At the beginning. -/
theorem sg_start {S R T : Nat → Prop} {w : World} {b lb : Nat} {g : Gd} {l : Lg} (hx : Fx S R T w b) (hG : Gf S R w b g) (hL : Rf T w lb l) {o1 o2 : Obj} (h1 : o1 = .cells (vcells ⟨0, 0, 0, false⟩) 44) (h2 : o2 = .cells (kcells AckPlain.zero none 0 none 0) 56) :
    ∃ bb p c q d S1, Sg S R T w ((w.alloc o1).alloc o2) b lb bb g.n g.ended g.e g.b l p c q d S1 (fun k => R k ∧ k < w.heap.size) ∧ ∀ j, S1 j → S j ∧ j < w.heap.size := by
  subst h1 h2
  obtain ⟨bb, p, c, q, d, S1, hB, hb, hw, h1⟩ := hG.ex
  have hA : Below w.heap.size w ((w.alloc (.cells (vcells ⟨0, 0, 0, false⟩) 44)).alloc (.cells (kcells AckPlain.zero none 0 none 0) 56)) := ((Below.refl w.heap.size w).alloc (Nat.le_refl _) _).alloc (by simp) _
  have B2 := Blk.new (w.alloc (.cells (vcells ⟨0, 0, 0, false⟩) 44)) (kcells AckPlain.zero none 0 none 0) 56
  rw [World.size_alloc] at B2
  have hcut := bf_cut hb
  exact ⟨bb, p, c, q, d, _, ⟨(Blk.new w _ _).alloc _, B2, hB.below hA hB.lt, hcut.below hA, (hw.mono fun j h1 h2 => (⟨h2, h1⟩ : R j ∧ j < w.heap.size)).below hA, hL.below hA, Fr.of_below hA, by simp only [World.size_alloc]; omega,
    fun j hj => ⟨(h1 j hj.1).2, .inl ⟨(h1 j hj.1).1, hj.2⟩⟩, fun j hj => .inl hj, fun j hj h2 => hx.sr j (h1 j hj.1).1 h2.1⟩, fun j hj => ⟨(h1 j hj.1).1, hj.2⟩⟩
theorem gcell {S R T : Nat → Prop} {w0 w : World} {b lb bb : Nat} {n : Ct} {ended : Bool} {e : Ev} {bg : Bg} {l : Lg} {p q : Option Addr} {c d : Nat} {S1 Re : Nat → Prop} (h : Sg S R T w0 w b lb bb n ended e bg l p c q d S1 Re) (i : Nat) : w.cell? ⟨b, i, none⟩ = (gcells bb n ended e p c q d)[i]? := h.gb.cell i
theorem take_late {S R T : Nat → Prop} {w : World} {b lb : Nat} {g : Gd} {l : Lg} {N : Nat} (hx : Fx S R T w b) (hG : Gf S R w b g) (hL : Rf T w lb l) (hc : Cb g N) (hN : N ≤ 1000000) (v : Value) (now : Int) (he : g.ended = true) :
    Calls Tryz.prog 40 #[.pointer (some ⟨b, 0, none⟩), .pointer (some ⟨lb, 0, none⟩), v, .int .u64 now] w (GPost S R T w b lb (lateT g l)) := by
  have l0 := hc.l0
  have l1 := hc.l1
  have hl : g.n.late ≤ 1000000 := by omega
  go_enter Tryz.func40, Tryz.ntmps40
  go_upto_region 1 with fail
  refine some_world ?_
  intro W hW
  obtain ⟨bb, p, c, q, d, S1, s0, _⟩ := sg_start hx hG hL (o1 := .cells (vcells ⟨0, 0, 0, false⟩) 44) (o2 := .cells (kcells AckPlain.zero none 0 none 0) 56) rfl rfl
  rw [show (w.alloc (.cells (vcells ⟨0, 0, 0, false⟩) 44)).alloc (.cells (kcells AckPlain.zero none 0 none 0) 56) = W from hW.symm] at s0
  clear hW
  rw [he] at s0
  have c6 : W.cell? ⟨b, 6, none⟩ = some (.bool true) := gcell s0 6
  have c5 : W.cell? ⟨b, 5, none⟩ = some (.int .u64 g.n.late) := gcell s0 5
  have f5 := s0.gb.free 5
  have hb := s0.gb.lt
  go_upto_region 3 with fail
  have s1 := s0.turn hx 5 (.int .u64 (g.n.late + 1)) (n' := { g.n with late := g.n.late + 1 }) (ended' := true) rfl
  generalize W.setCell ⟨b, 5, none⟩ (.int .u64 (g.n.late + 1)) = W1 at *
  clear c6 c5 f5 hb s0
  have rv := s1.rv
  have ra := s1.ra.otherRow (g := w.heap.size) (by omega) (vcells ⟨1, 8, 0, false⟩)
  have fin := s1.fin hx ⟨1, 8, 0, false⟩ AckPlain.zero none 0 none 0 (Rw.zero _ _)
  have b1 := (rv.setRow (vcells ⟨1, 8, 0, false⟩)).otherRow (g := w.heap.size + 1) (by omega) (kcells AckPlain.zero none 0 none 0)
  have b2 := ra.setRow (kcells AckPlain.zero none 0 none 0)
  go_wp2_with (first
    | (refine wpl_store_row rfl 44 (.tmp 8) (.tmp 29) rfl rv (vcells ⟨1, 8, 0, false⟩) rfl rfl (by kernel_rfl) rfl (by simp [vcells, Value.oneCell']) ?_)
    | (refine wpl_store_row rfl 56 (.tmp 9) (.tmp 30) rfl ra (kcells AckPlain.zero none 0 none 0) rfl rfl (by kernel_rfl) rfl (by simp [kcells, Value.oneCell']) ?_))
  refine bodyPost_ret (results_cells rfl _ _ w.heap.size (w.heap.size + 1) 44 56 (vcells ⟨1, 8, 0, false⟩) (kcells AckPlain.zero none 0 none 0) _ _ rfl rfl b1 b2 Tryz.underlying44 rfl (by kernel_rfl) Tryz.underlying56 rfl (by kernel_rfl)) rfl ?_
  unfold lateT
  rw [he]
  exact fin
end Go.Proofs.YtkiloaebokkjbaaGreat.Guard

/-
  Contract of the reference's guard: what it makes of a frame, its other ways.
-/
set_option linter.unusedSimpArgs false
set_option linter.unusedVariables false
namespace Go.Proofs.YtkiloaebokkjbaaGreat.Guard
set_option linter.unusedVariables false
set_option maxRecDepth 20000
open Go.ChangeShapes Go.WideShapes Go.ChangeAt Go.RowKit
open Go.Proofs.YtkiloaebokkjbaaGreat.Base Go.Proofs.YtkiloaebokkjbaaGreat.LedPlain Go.Proofs.YtkiloaebokkjbaaGreat.BudPlain Go.Proofs.YtkiloaebokkjbaaGreat.GuardPlain Go.Proofs.YtkiloaebokkjbaaGreat.Led Go.Proofs.YtkiloaebokkjbaaGreat.Bud Go.Proofs.YtkiloaebokkjbaaGreat.SpanPlain
open Go.Proofs.YtkiloaebokkjbaaGreat.AckPlain (K getAck)
open Go.Proofs.YtkiloaebokkjbaaGreat.OctPlain (Bytes)

section
variable {S R T : Nat → Prop} {w0 w w' : World} {b lb bb : Nat} {n : Ct} {ended : Bool} {e : Ev} {bg : Bg} {l : Lg} {p q : Option Addr} {c d : Nat} {S1 Re : Nat → Prop}
/-- The budget was asked. -/
theorem Sg.asked (hx : Fx S R T w0 b) (h : Sg S R T w0 w b lb bb n ended e bg l p c q d S1 Re) {bg' : Bg} (hb : Bf (Plus S1 w w') w' bb bg') (hf : Fr S1 w w') : Sg S R T w0 w' b lb bb n ended e bg' l p c q d (Plus S1 w w') Re := by
  have hs := hf.size
  have hz := h.sz
  have hbl := hx.blt
  refine ⟨h.rv.kept hf (fun hj => by have := (h.hS _ hj).2; omega), h.ra.kept hf (fun hj => by have := (h.hS _ hj).2; omega), h.gb.kept hf (fun hj => (h.hS _ hj).1 rfl), hb, h.rw.kept hf (fun j hj h2 => h.hD j h2 hj), h.rf.kept hf (fun j hj h2 => ?_), h.fr.trans hf (fun j hj h2 => .inl ?_), by omega, fun j hj => ?_, fun j hj => (h.hR j hj).imp id fun h => ⟨h.1, by omega⟩, fun j hj h2 => ?_⟩
  · have h3 := hx.t j hj
    rcases (h.hS j h2).2 with h4 | h4
    · exact hx.st j h4.1 hj
    · omega
  · rcases (h.hS j h2).2 with h4 | h4
    · exact h4.1
    · omega
  · rcases hj with hj | hj
    · exact ⟨(h.hS j hj).1, (h.hS j hj).2.imp id fun h => ⟨h.1, by omega⟩⟩
    · exact ⟨by omega, .inr (by omega)⟩
  · rcases hj with hj | hj
    · exact h.hD j hj h2
    · have := h.hR j h2
      omega
/-- A number was used. -/
theorem Sg.used (hx : Fx S R T w0 b) (h : Sg S R T w0 w b lb bb n ended e bg l p c q d S1 Re) {l' : Lg} (hr : Rf T w' lb l') (hf : Fr T w w') : Sg S R T w0 w' b lb bb n ended e bg l' p c q d S1 Re := by
  have hs := hf.size
  have hz := h.sz
  have hbl := hx.blt
  refine ⟨h.rv.kept hf (fun hj => by have := hx.t _ hj; omega), h.ra.kept hf (fun hj => by have := hx.t _ hj; omega), h.gb.kept hf (fun hj => hx.st _ hx.inB hj), h.bf.kept hf (fun j hj h2 => ?_), h.rw.kept hf (fun j hj h2 => ?_), hr, h.fr.trans hf (fun j hj h2 => .inr h2), by omega, fun j hj => ⟨(h.hS j hj).1, (h.hS j hj).2.imp id fun h => ⟨h.1, by omega⟩⟩, fun j hj => (h.hR j hj).imp id fun h => ⟨h.1, by omega⟩, h.hD⟩
  · have h3 := hx.t j h2
    rcases (h.hS j hj).2 with h4 | h4
    · exact hx.st j h4.1 h2
    · omega
  · have h3 := hx.t j h2
    rcases h.hR j hj with h4 | h4
    · exact hx.rt j h4.1 h2
    · omega
theorem Sg.drew (h : Sg S R T w0 w b lb bb n ended e bg l p c q d S1 Re) : Sg S R T w0 w.drew b lb bb n ended e bg l p c q d S1 Re := h.under (Base.drew1 (Below.refl _ _))
/-- What turns nothing that it is made of. -/
theorem Sg.apart {X : Nat → Prop} (hx : Fx S R T w0 b) (h : Sg S R T w0 w b lb bb n ended e bg l p c q d S1 Re) (hf : Fr X w w') (hX : ∀ j, X j → w0.heap.size + 2 ≤ j) (h1 : ∀ j, X j → ¬ S1 j) (h2 : ∀ j, X j → ¬ Re j) : Sg S R T w0 w' b lb bb n ended e bg l p c q d S1 Re := by
  have hs := hf.size
  have hz := h.sz
  have hbl := hx.blt
  exact ⟨h.rv.kept hf (fun hj => by have := hX _ hj; omega), h.ra.kept hf (fun hj => by have := hX _ hj; omega), h.gb.kept hf (fun hj => by have := hX _ hj; omega), h.bf.kept hf (fun j hj h3 => h1 j h3 hj), h.rw.kept hf (fun j hj h3 => h2 j h3 hj), h.rf.kept hf (fun j hj h3 => by have := hX j h3; have := hx.t j hj; omega), h.fr.trans hf (fun j hj h3 => by have := hX j h3; omega), by omega, fun j hj => ⟨(h.hS j hj).1, (h.hS j hj).2.imp id fun h => ⟨h.1, by omega⟩⟩, fun j hj => (h.hR j hj).imp id fun h => ⟨h.1, by omega⟩, h.hD⟩
def ecells (e : Ev) (p : Option Addr) (c : Nat) (q : Option Addr) (d : Nat) : Array Value := #[.int .u64 e.time, .int .u64 e.pn, .int .u64 e.used, .int .i64 e.why, .slice p e.ack.spans.length c, .slice q e.ack.marked.length d, .int .u64 e.ack.trigger, .int .u64 e.ack.xor, .bool e.ack.parity]
def setRange (cs : Array Value) : Nat → List Value → Array Value
  | _, [] => cs
  | o, v :: r => setRange (cs.setIfInBounds o v) (o + 1) r
theorem setCells_blk : ∀ (vs : List Value) {w : World} {b : Nat} {cs : Array Value} {T : TypeId} (h : Blk w b cs T) (o : Nat), Blk (w.setCells b o vs) b (setRange cs o vs) T
  | [], _, _, _, _, h, _ => h
  | v :: r, _, _, _, _, h, o => setCells_blk r (h.set o v) (o + 1)
theorem setCells_fr : ∀ (vs : List Value) (b o : Nat) (w : World), Fr (fun j => j = b) w (w.setCells b o vs)
  | [], _, _, _ => Fr.refl _ _
  | v :: r, b, o, w => ((Fr.refl (fun j => j = b) w).setCell (p := ⟨b, o, none⟩) (fun _ => rfl) v).trans (setCells_fr r b (o + 1) _) fun _ _ h => h
/-- The evidence was stored. -/
theorem Sg.evid (hx : Fx S R T w0 b) (h : Sg S R T w0 w b lb bb n ended e bg l p c q d S1 Re) (e' : Ev) {p' q' : Option Addr} {c' d' : Nat} (hk : Rw (fun j => w0.heap.size + 2 ≤ j ∧ j < w.heap.size) w e'.ack p' c' q' d') (hS1 : ∀ j, S1 j → j < w0.heap.size) :
    Sg S R T w0 (w.setCells b 7 (ecells e' p' c' q' d').toList) b lb bb n ended e' bg l p' c' q' d' S1 (fun j => w0.heap.size + 2 ≤ j ∧ j < w.heap.size) := by
  have fr : ∀ {u : World} (i : Nat) (x : Value), Fr (fun j => j = b) w u → Fr (fun j => j = b) w (u.setCell ⟨b, i, none⟩ x) := fun i x hu => hu.setCell (fun _ => rfl) x
  have hF : Fr (fun j => j = b) w (w.setCells b 7 (ecells e' p' c' q' d').toList) := fr _ _ (fr _ _ (fr _ _ (fr _ _ (fr _ _ (fr _ _ (fr _ _ (fr _ _ (fr _ _ (Fr.refl _ _)))))))))
  have hB := setCells_blk (ecells e' p' c' q' d').toList h.gb 7
  rw [show setRange (gcells bb n ended e p c q d) 7 (ecells e' p' c' q' d').toList = gcells bb n ended e' p' c' q' d' by simp [setRange, gcells, ecells]] at hB
  generalize w.setCells b 7 (ecells e' p' c' q' d').toList = u at *
  have hs := hF.size
  have hz := h.sz
  have hbl := hx.blt
  refine ⟨h.rv.kept hF (by omega), h.ra.kept hF (by omega), hB, h.bf.kept hF (fun k hk => (h.hS k hk).1), hk.kept hF (fun k hk => by omega), h.rf.kept hF (fun k hk hkb => by subst hkb; exact hx.st _ hx.inB hk), h.fr.trans hF (fun j _ hj => by subst hj; exact .inl hx.inB), by omega, fun j hj => ⟨(h.hS j hj).1, (h.hS j hj).2.imp id fun h => ⟨h.1, by omega⟩⟩, fun j hj => .inr ⟨hj.1, by omega⟩, fun j hj h2 => by have := hS1 j hj; omega⟩
/-- The acknowledgment in its variable, at block dd. -/
structure Av (w0 w : World) (dd : Nat) (x : K) (p : Option Addr) (c : Nat) (q : Option Addr) (d : Nat) : Prop where
  blk : Blk w dd (kcells x p c q d) 56
  new : w0.heap.size + 2 ≤ dd
  rows : Rw (fun j => w0.heap.size + 2 ≤ j ∧ j < w.heap.size) w x p c q d
theorem Av.under {dd : Nat} {x : K} (h : Av w0 w dd x p c q d) (hb : Below w.heap.size w w') : Av w0 w' dd x p c q d :=
  ⟨h.blk.below hb h.blk.lt, h.new, (h.rows.below hb).mono fun j _ hj => ⟨hj.1, Nat.lt_of_lt_of_le hj.2 hb.size⟩⟩
theorem Av.kept {X : Nat → Prop} {dd : Nat} {x : K} (h : Av w0 w dd x p c q d) (hf : Fr X w w') (hX : ∀ j, X j → j < w0.heap.size) : Av w0 w' dd x p c q d :=
  ⟨h.blk.kept hf (fun hj => by have := hX _ hj; have := h.new; omega), h.new, (h.rows.kept hf (fun j hj h2 => by have := hX _ h2; omega)).mono fun j _ hj => ⟨hj.1, Nat.lt_of_lt_of_le hj.2 hf.size⟩⟩
theorem Av.new_ {x : K} (hr : Rw (fun j => w0.heap.size + 2 ≤ j ∧ j < w.heap.size) w x p c q d) (hz : w0.heap.size + 2 ≤ w.heap.size) {o : Obj} (ho : o = .cells (kcells x p c q d) 56) : Av w0 (w.alloc o) w.heap.size x p c q d := by
  subst ho
  exact ⟨Blk.new _ _ _, hz, (hr.below ((Below.refl _ _).alloc (Nat.le_refl _) _)).mono fun j _ hj => ⟨hj.1, by simp; omega⟩⟩
theorem Av.cells {dd : Nat} {x : K} (h : Av w0 w dd x p c q d) : w.cell? ⟨dd, 0, none⟩ = some (.slice p x.spans.length c) ∧ w.cell? ⟨dd, 1, none⟩ = some (.slice q x.marked.length d) ∧ w.cell? ⟨dd, 2, none⟩ = some (.int .u64 x.trigger) ∧ w.cell? ⟨dd, 3, none⟩ = some (.int .u64 x.xor) ∧ w.cell? ⟨dd, 4, none⟩ = some (.bool x.parity) :=
  ⟨h.blk.cell 0, h.blk.cell 1, h.blk.cell 2, h.blk.cell 3, h.blk.cell 4⟩
end
/-- A store of a whole row of cells, as it runs. -/
theorem st_row {ρ : Operand → Value} {o : Oper} {u : World} (ty : TypeId) (x y : Operand) (ho : o.op = .store ty x y) {g : Nat} {old cells : Array Value} {t : TypeId} (hx : ρ x = .pointer (some ⟨g, 0, none⟩)) (hy : ρ y = .agg cells) (hB : Blk u g old t) (hi : (Tryz.prog.info? ty).map (·.size) = some cells.size) (hold : old.size = cells.size) (h1 : cells.all (·.oneCell') = true) : (execOp ρ o).run Tryz.prog u = .ok .skip (u.setRow g cells) := by
  unfold execOp
  simp only [ho, hx, hy, Instr.storeAt, Instr.sureAddr, Sem.run_bind, Sem.run_pure, Result.andThen_ok, run_storeVar_row u g t ty old cells hB hi hold h1]
/-- Number i alone may come up: a store. -/
theorem held_st {P : Program} {ops : Array Oper} {Q : Exit → Act → World → Prop} {md : Region.Mode} {S : World → Prop} {i : Nat} {oi : Oper} {fuel : Nat} {listed : Array Bool} {a : Act} {w w' : World} (hi : ops[i]? = some oi) (hr : Region.ready md ops listed = [i]) (hw : Region.wanted oi (yielded ops a.tmps) = true) (hv : (execOp a.eval oi).run P w = .ok .skip w') (hS : S w')
    (h : wpAnyH P md ops Q S fuel (listed.setIfInBounds i true) (a.put oi.dst undef) w') : wpAnyH P md ops Q S (fuel + 1) listed a w := by
  refine wpAnyH_all hr (by simp) fun k hk => ?_
  obtain rfl : k = i := by simpa using hk
  unfold wpOp
  simp only [hi, hw, if_true, Oper.wp, hv, Oper.upon]
  exact .inl ⟨hS, h⟩
theorem op_st {P : Program} {ops : Array Oper} {Q : Exit → Act → World → Prop} {i : Nat} {oi : Oper} {K : Act → World → Prop} {a : Act} {w w' : World} (hi : ops[i]? = some oi) (hw : Region.wanted oi (yielded ops a.tmps) = true) (hv : (execOp a.eval oi).run P w = .ok .skip w') (h : K (a.put oi.dst undef) w') : wpOp P ops Q i K a w := by
  unfold wpOp
  simp only [hi, hw, if_true, Oper.wp, hv, Oper.upon]
  exact .inl h
theorem held_end2 {P : Program} {ops : Array Oper} {Q : Exit → Act → World → Prop} {md : Region.Mode} {S : World → Prop} {fuel : Nat} {listed : Array Bool} {a : Act} {w : World} (t u : Nat) (v x : Value) (hr : Region.ready md ops listed = []) (hd : a.defers = []) (hv : a.tmps.getD t undef = v) (hx : a.tmps.getD u undef = x)
    (h : ∀ a' : Act, a'.defers = [] → a'.tmps.getD t undef = v → a'.tmps.getD u undef = x → Q .normal a' w) : wpAnyH P md ops Q S fuel listed a w := wpAnyH_done hr (h a hd hv hx) fuel
set_option maxHeartbeats 1000000 in
theorem take_mal {S R T : Nat → Prop} {w : World} {b lb : Nat} {g : Gd} {l : Lg} {N : Nat} (hx : Fx S R T w b) (hG : Gf S R w b g) (hL : Rf T w lb l) (hc : Cb g N) (hN : N ≤ 1000000) (a : Option Addr) (m cap : Nat) (f : List Int) (hm : f.length = m) (hcap : m ≤ cap) (hr : m ≤ 140737488355328) (hb : Bytes f) (hz : ∀ u, Fr (fun j => w.heap.size ≤ j) w u → Ints .u8 u a f) (now : Int) (n0 : 0 ≤ now) (n1 : now ≤ 18446744073709551615) (he : g.ended = false) (hy : (getAck f).2 ≠ 0) :
    Calls Tryz.prog 40 #[.pointer (some ⟨b, 0, none⟩), .pointer (some ⟨lb, 0, none⟩), .slice a m cap, .int .u64 now] w (GPost S R T w b lb (malT g l)) := by
  have m0 := hc.m0
  have m1 := hc.m1
  have hl : g.n.mal ≤ 1000000 := by omega
  have hF0 : Fr (fun j => w.heap.size ≤ j) w ((w.alloc (.cells (vcells ⟨0, 0, 0, false⟩) 44)).alloc (.cells (kcells AckPlain.zero none 0 none 0) 56)) := Fr.of_below (((Below.refl w.heap.size w).alloc (Nat.le_refl _) _).alloc (by simp) _)
  go_enter Tryz.func40, Tryz.ntmps40
  go_upto_region 1 with fail
  refine some_world ?_
  intro W hW
  obtain ⟨bb, p, c, q, d, S1, s0, hS1⟩ := sg_start hx hG hL (o1 := .cells (vcells ⟨0, 0, 0, false⟩) 44) (o2 := .cells (kcells AckPlain.zero none 0 none 0) 56) rfl rfl
  rw [show (w.alloc (.cells (vcells ⟨0, 0, 0, false⟩) 44)).alloc (.cells (kcells AckPlain.zero none 0 none 0) 56) = W from hW.symm] at s0 hF0
  clear hW
  rw [he] at s0
  have c6 : W.cell? ⟨b, 6, none⟩ = some (.bool false) := gcell s0 6
  have hbn := s0.gb.lt
  have C0 := Ack.ref_get_ack a m cap f W hm hcap hr hb (hz W hF0)
  unfold Ack.AckPost at C0
  have hsz := s0.sz
  generalize (getAck f).2 = er at *
  generalize (getAck f).1 = x at *
  go_upto_region 6 with (go_at_call 82; refine C0.mono ?_; rintro e w1 ⟨xa, xn, xc, xb, xm, xd, rfl, ⟨rfl, x1, x2, x3, x4⟩, ⟨rfl, y1, y2, y3, y4⟩, L1⟩; have s1 := s0.under L1; have k1 : Rw (fun j => w.heap.size + 2 ≤ j ∧ j < w1.heap.size) w1 x xa xc xb xd := ⟨x1, x2, y1, y2, x3, y3, x4.mono fun j h1 h2 => by omega, y4.mono fun j h1 h2 => by omega⟩; clear C0 c6 x4 y4)
  have s2 := s1.under ((Below.refl w1.heap.size w1).alloc (Nat.le_refl _) (.cells (kcells x xa xc xb xd) 56))
  unfold kcells at s2
  refine some_world ?_
  intro W2 hW2
  rw [← hW2] at s2
  clear hW2 s1 k1
  have c1 : W2.cell? ⟨b, 1, none⟩ = some (.int .u64 g.n.mal) := gcell s2 1
  have f1 := s2.gb.free 1
  have hb2 := s2.gb.lt
  go_upto_region 7 with fail
  have s3 := s2.turn hx 1 (.int .u64 (g.n.mal + 1)) (n' := { g.n with mal := g.n.mal + 1 }) (ended' := false) rfl
  generalize W2.setCell ⟨b, 1, none⟩ (.int .u64 (g.n.mal + 1)) = W3 at *
  clear c1 f1 hb2 s2
  have rv := s3.rv
  have ra := s3.ra.otherRow (g := w.heap.size) (by omega) (vcells ⟨1, 1, 0, false⟩)
  have fin := s3.fin hx ⟨1, 1, 0, false⟩ AckPlain.zero none 0 none 0 (Rw.zero _ _)
  have b1 := (rv.setRow (vcells ⟨1, 1, 0, false⟩)).otherRow (g := w.heap.size + 1) (by omega) (kcells AckPlain.zero none 0 none 0)
  have b2 := ra.setRow (kcells AckPlain.zero none 0 none 0)
  go_wp2_with (first
    | (refine wpl_store_row rfl 44 (.tmp 8) (.tmp 47) rfl rv (vcells ⟨1, 1, 0, false⟩) rfl rfl (by kernel_rfl) rfl (by simp [vcells, Value.oneCell']) ?_)
    | (refine wpl_store_row rfl 56 (.tmp 9) (.tmp 48) rfl ra (kcells AckPlain.zero none 0 none 0) rfl rfl (by kernel_rfl) rfl (by simp [kcells, Value.oneCell']) ?_))
  refine bodyPost_ret (results_cells rfl _ _ w.heap.size (w.heap.size + 1) 44 56 (vcells ⟨1, 1, 0, false⟩) (kcells AckPlain.zero none 0 none 0) _ _ rfl rfl b1 b2 Tryz.underlying44 rfl (by kernel_rfl) Tryz.underlying56 rfl (by kernel_rfl)) rfl ?_
  unfold malT
  rw [he]
  exact fin
set_option maxHeartbeats 16000000 in
theorem take_drop {S R T : Nat → Prop} {w : World} {b lb : Nat} {g : Gd} {l : Lg} {N : Nat} (hx : Fx S R T w b) (hG : Gf S R w b g) (hL : Rf T w lb l) (hc : Cb g N) (hN : N ≤ 1000000) (a : Option Addr) (m cap : Nat) (f : List Int) (hm : f.length = m) (hcap : m ≤ cap) (hr : m ≤ 140737488355328) (hb : Bytes f) (hz : ∀ u, Fr (fun j => w.heap.size ≤ j) w u → Ints .u8 u a f) (now : Int) (n0 : 0 ≤ now) (n1 : now ≤ 18446744073709551615) (he : g.ended = false) (hy : (getAck f).2 = 0) (hlk : (lookG l (getAck f).1).2 ≠ 0) :
    Calls Tryz.prog 40 #[.pointer (some ⟨b, 0, none⟩), .pointer (some ⟨lb, 0, none⟩), .slice a m cap, .int .u64 now] w (GPost S R T w b lb (dropT g l (lookG l (getAck f).1).2 now)) := by
  have m0 := hc.d0
  have m1 := hc.d1
  have hl : g.n.drop ≤ 1000000 := by omega
  have m2 := hc.c0
  have m3 := hc.c1
  have hl2 : g.n.chal ≤ 1000000 := by omega
  have hbl := hc.b
  have hF0 : Fr (fun j => w.heap.size ≤ j) w ((w.alloc (.cells (vcells ⟨0, 0, 0, false⟩) 44)).alloc (.cells (kcells AckPlain.zero none 0 none 0) 56)) := Fr.of_below (((Below.refl w.heap.size w).alloc (Nat.le_refl _) _).alloc (by simp) _)
  go_enter Tryz.func40, Tryz.ntmps40
  go_upto_region 1 with fail
  refine some_world ?_
  intro W hW
  obtain ⟨bb, p, c, q, d, S1, s0, hS1⟩ := sg_start hx hG hL (o1 := .cells (vcells ⟨0, 0, 0, false⟩) 44) (o2 := .cells (kcells AckPlain.zero none 0 none 0) 56) rfl rfl
  rw [show (w.alloc (.cells (vcells ⟨0, 0, 0, false⟩) 44)).alloc (.cells (kcells AckPlain.zero none 0 none 0) 56) = W from hW.symm] at s0 hF0
  clear hW
  rw [he] at s0
  have c6 : W.cell? ⟨b, 6, none⟩ = some (.bool false) := gcell s0 6
  have hbn := s0.gb.lt
  have C0 := Ack.ref_get_ack a m cap f W hm hcap hr hb (hz W hF0)
  unfold Ack.AckPost at C0
  have hsz := s0.sz
  have hk := (get_fine hb hy).2
  generalize hg0 : getAck f = gg at *
  obtain ⟨x, er⟩ := gg
  simp only at hk hy
  subst hy
  clear hg0
  go_upto_region 8 with (go_at_call 82; refine C0.mono ?_; rintro e w1 ⟨xa, xn, xc, xb, xm, xd, rfl, ⟨rfl, x1, x2, x3, x4⟩, ⟨rfl, y1, y2, y3, y4⟩, L1⟩; have s1 := s0.under L1; have k1 : Rw (fun j => w.heap.size + 2 ≤ j ∧ j < w1.heap.size) w1 x xa xc xb xd := ⟨x1, x2, y1, y2, x3, y3, x4.mono fun j h1 h2 => by omega, y4.mono fun j h1 h2 => by omega⟩; clear C0 c6 x4 y4)
  have s2 := s1.under ((Below.refl w1.heap.size w1).alloc (Nat.le_refl _) (.cells (kcells x xa xc xb xd) 56))
  have v2 := Av.new_ k1 s1.sz (o := .cells (kcells x xa xc xb xd) 56) rfl
  unfold kcells at s2 v2
  refine some_world ?_
  intro W2 hW2
  rw [← hW2] at s2 v2
  clear hW2 s1 k1
  obtain ⟨d0, d1, d2, d3, d4⟩ := v2.cells
  have hdl := v2.blk.lt
  have CK := ref_look s2.rf x xa xb x.spans.length xc x.marked.length xd rfl rfl (by unfold maxLen at *; omega) (by unfold maxLen at *; omega) hk.fs hk.fm v2.rows.s.row v2.rows.m.row
  have hwy := (look_bd s2.rf.ok x).2
  generalize (lookG l x).2 = wy at *
  generalize (lookG l x).1 = px at *
  go_upto_region 10 with (go_at_call 27; refine CK.mono ?_; rintro e w3 ⟨rfl, L3⟩; have s3 := s2.under L3; clear CK d0 d1 d2 d3 d4 hdl)
  have c2 : w3.cell? ⟨b, 2, none⟩ = some (.int .u64 g.n.drop) := gcell s3 2
  have f2 := s3.gb.free 2
  have hb2 := s3.gb.lt
  clear s2 v2
  go_upto_region 11 with fail
  have s4 := s3.turn hx 2 (.int .u64 (g.n.drop + 1)) (n' := { g.n with drop := g.n.drop + 1 }) (ended' := false) rfl
  generalize w3.setCell ⟨b, 2, none⟩ (.int .u64 (g.n.drop + 1)) = W4 at *
  clear c2 f2 hb2 s3
  go_upto_region 12 with fail
  have s5 := s4.under ((Below.refl W4.heap.size W4).alloc (Nat.le_refl _) (.cells #[.int .i64 1, .int .i64 wy, .int .u64 0, .bool false] 44))
  have t5 := Blk.new W4 #[.int .i64 1, .int .i64 wy, .int .u64 0, .bool false] 44
  have hz4 := s4.sz
  refine some_world ?_
  intro W5 hW5
  rw [← hW5] at s5 t5
  clear hW5 s4
  have hz5 := t5.lt
  have c0 : W5.cell? ⟨b, 0, none⟩ = some (.pointer (some ⟨bb, 0, none⟩)) := gcell s5 0
  have hb5 := s5.gb.lt
  have CA := Bud.ref_ask s5.bf (by omega) now n0 n1
  cases hgr : grants g.b now with
  | true =>
    rw [hgr] at CA
    go_upto_region 13 with (go_at_call 83; refine CA.mono ?_; rintro e w6 ⟨rfl, hb6, F6⟩; have s6 := s5.asked hx hb6 F6; clear CA)
    have t6 := t5.kept F6 (fun hj => by have := hS1 _ hj; omega)
    have c4 : w6.cell? ⟨b, 4, none⟩ = some (.int .u64 g.n.chal) := gcell s6 4
    have f4 := s6.gb.free 4
    have hb6' := s6.gb.lt
    clear c0 hb5 s5 t5
    go_upto_region 14 with fail
    have s7 := s6.turn hx 4 (.int .u64 (g.n.chal + 1)) (n' := { g.n with drop := g.n.drop + 1, chal := g.n.chal + 1 }) (ended' := false) rfl
    have t7 := t6.other (a := ⟨b, 4, none⟩) (show W4.heap.size ≠ b by have := hx.blt; omega) (.int .u64 (g.n.chal + 1))
    generalize w6.setCell ⟨b, 4, none⟩ (.int .u64 (g.n.chal + 1)) = W7 at *
    clear c4 f4 hb6' s6 t6
    have g3 : W7.cell? ⟨W4.heap.size, 3, none⟩ = some (.bool false) := t7.cell 3
    have g4 := t7.free 3
    have g5 := t7.lt
    go_upto_region 15 with fail
    have hF8 : Fr (fun j => j = W4.heap.size) W7 (W7.setCell ⟨W4.heap.size, 3, none⟩ (.bool true)) := (Fr.refl (fun j => j = W4.heap.size) W7).setCell (fun _ => rfl) _
    have t8 : Blk (W7.setCell ⟨W4.heap.size, 3, none⟩ (.bool true)) W4.heap.size #[.int .i64 1, .int .i64 wy, .int .u64 0, .bool true] 44 := t7.set 3 _
    have s8 := s7.apart hx hF8 (fun j hj => by omega) (fun j hj h2 => by
      rcases h2 with h2 | h2
      · have := hS1 j h2
        omega
      · omega) (fun j hj h2 => by have := h2.2; omega)
    generalize W7.setCell ⟨W4.heap.size, 3, none⟩ (.bool true) = W8 at *
    clear g3 g4 g5 s7 t7
    have q0 : W8.cell? ⟨W4.heap.size, 0, none⟩ = some (.int .i64 1) := t8.cell 0
    have q1 : W8.cell? ⟨W4.heap.size, 1, none⟩ = some (.int .i64 wy) := t8.cell 1
    have q2 : W8.cell? ⟨W4.heap.size, 2, none⟩ = some (.int .u64 0) := t8.cell 2
    have q3 : W8.cell? ⟨W4.heap.size, 3, none⟩ = some (.bool true) := t8.cell 3
    have q4 := t8.lt
    have rv := s8.rv
    have ra := s8.ra.otherRow (g := w.heap.size) (by omega) (vcells ⟨1, wy, 0, true⟩)
    have fin := s8.fin hx ⟨1, wy, 0, true⟩ AckPlain.zero none 0 none 0 (Rw.zero _ _)
    have b1 := (rv.setRow (vcells ⟨1, wy, 0, true⟩)).otherRow (g := w.heap.size + 1) (by omega) (kcells AckPlain.zero none 0 none 0)
    have b2 := ra.setRow (kcells AckPlain.zero none 0 none 0)
    go_wp2_with (first
      | (refine wpl_store_row rfl 44 (.tmp 8) (.tmp 84) rfl rv (vcells ⟨1, wy, 0, true⟩) rfl rfl (by kernel_rfl) rfl (by simp [vcells, Value.oneCell']) ?_)
      | (refine wpl_store_row rfl 56 (.tmp 9) (.tmp 85) rfl ra (kcells AckPlain.zero none 0 none 0) rfl rfl (by kernel_rfl) rfl (by simp [kcells, Value.oneCell']) ?_))
    refine bodyPost_ret (results_cells rfl _ _ w.heap.size (w.heap.size + 1) 44 56 (vcells ⟨1, wy, 0, true⟩) (kcells AckPlain.zero none 0 none 0) _ _ rfl rfl b1 b2 Tryz.underlying44 rfl (by kernel_rfl) Tryz.underlying56 rfl (by kernel_rfl)) rfl ?_
    unfold dropT
    rw [hgr, he]
    exact fin
  | false =>
    rw [hgr] at CA
    go_upto_region 15 with (go_at_call 83; refine CA.mono ?_; rintro e W8 ⟨rfl, hb6, F6⟩; have s8 := s5.asked hx hb6 F6; clear CA)
    have t8 := t5.kept F6 (fun hj => by have := hS1 _ hj; omega)
    clear c0 hb5 s5 t5
    have q0 : W8.cell? ⟨W4.heap.size, 0, none⟩ = some (.int .i64 1) := t8.cell 0
    have q1 : W8.cell? ⟨W4.heap.size, 1, none⟩ = some (.int .i64 wy) := t8.cell 1
    have q2 : W8.cell? ⟨W4.heap.size, 2, none⟩ = some (.int .u64 0) := t8.cell 2
    have q3 : W8.cell? ⟨W4.heap.size, 3, none⟩ = some (.bool false) := t8.cell 3
    have q4 := t8.lt
    have rv := s8.rv
    have ra := s8.ra.otherRow (g := w.heap.size) (by omega) (vcells ⟨1, wy, 0, false⟩)
    have fin := s8.fin hx ⟨1, wy, 0, false⟩ AckPlain.zero none 0 none 0 (Rw.zero _ _)
    have b1 := (rv.setRow (vcells ⟨1, wy, 0, false⟩)).otherRow (g := w.heap.size + 1) (by omega) (kcells AckPlain.zero none 0 none 0)
    have b2 := ra.setRow (kcells AckPlain.zero none 0 none 0)
    go_wp2_with (first
      | (refine wpl_store_row rfl 44 (.tmp 8) (.tmp 84) rfl rv (vcells ⟨1, wy, 0, false⟩) rfl rfl (by kernel_rfl) rfl (by simp [vcells, Value.oneCell']) ?_)
      | (refine wpl_store_row rfl 56 (.tmp 9) (.tmp 85) rfl ra (kcells AckPlain.zero none 0 none 0) rfl rfl (by kernel_rfl) rfl (by simp [kcells, Value.oneCell']) ?_))
    refine bodyPost_ret (results_cells rfl _ _ w.heap.size (w.heap.size + 1) 44 56 (vcells ⟨1, wy, 0, false⟩) (kcells AckPlain.zero none 0 none 0) _ _ rfl rfl b1 b2 Tryz.underlying44 rfl (by kernel_rfl) Tryz.underlying56 rfl (by kernel_rfl)) rfl ?_
    unfold dropT
    rw [hgr, he]
    simp only [Bool.false_eq_true, if_false, Int.add_zero]
    exact fin
set_option maxHeartbeats 16000000 in
theorem take_fine {S R T : Nat → Prop} {w : World} {b lb : Nat} {g : Gd} {l : Lg} {N : Nat} (hx : Fx S R T w b) (hG : Gf S R w b g) (hL : Rf T w lb l) (hc : Cb g N) (hN : N ≤ 1000000) (a : Option Addr) (m cap : Nat) (f : List Int) (hm : f.length = m) (hcap : m ≤ cap) (hr : m ≤ 140737488355328) (hb : Bytes f) (hz : ∀ u, Fr (fun j => w.heap.size ≤ j) w u → Ints .u8 u a f) (now : Int) (n0 : 0 ≤ now) (n1 : now ≤ 18446744073709551615) (he : g.ended = false) (hy : (getAck f).2 = 0) (hlk : (lookG l (getAck f).1).2 = 0) (hck : (checkG (useG l (lookG l (getAck f).1).1) (getAck f).1).1 = 0) :
    Calls Tryz.prog 40 #[.pointer (some ⟨b, 0, none⟩), .pointer (some ⟨lb, 0, none⟩), .slice a m cap, .int .u64 now] w (GPost S R T w b lb (fineT g (useG l (lookG l (getAck f).1).1) (getAck f).1 (lookG l (getAck f).1).1)) := by
  have m0 := hc.t0
  have m1 := hc.t1
  have hl : g.n.taken ≤ 1000000 := by omega
  have hF0 : Fr (fun j => w.heap.size ≤ j) w ((w.alloc (.cells (vcells ⟨0, 0, 0, false⟩) 44)).alloc (.cells (kcells AckPlain.zero none 0 none 0) 56)) := Fr.of_below (((Below.refl w.heap.size w).alloc (Nat.le_refl _) _).alloc (by simp) _)
  go_enter Tryz.func40, Tryz.ntmps40
  go_upto_region 1 with fail
  refine some_world ?_
  intro W hW
  obtain ⟨bb, p, c, q, d, S1, s0, hS1⟩ := sg_start hx hG hL (o1 := .cells (vcells ⟨0, 0, 0, false⟩) 44) (o2 := .cells (kcells AckPlain.zero none 0 none 0) 56) rfl rfl
  rw [show (w.alloc (.cells (vcells ⟨0, 0, 0, false⟩) 44)).alloc (.cells (kcells AckPlain.zero none 0 none 0) 56) = W from hW.symm] at s0 hF0
  clear hW
  rw [he] at s0
  have c6 : W.cell? ⟨b, 6, none⟩ = some (.bool false) := gcell s0 6
  have hbn := s0.gb.lt
  have C0 := Ack.ref_get_ack a m cap f W hm hcap hr hb (hz W hF0)
  unfold Ack.AckPost at C0
  have hsz := s0.sz
  have hk := (get_fine hb hy).2
  generalize hg0 : getAck f = gg at *
  obtain ⟨x, er⟩ := gg
  simp only at hk hy
  subst hy
  clear hg0
  go_upto_region 8 with (go_at_call 82; refine C0.mono ?_; rintro e w1 ⟨xa, xn, xc, xb, xm, xd, rfl, ⟨rfl, x1, x2, x3, x4⟩, ⟨rfl, y1, y2, y3, y4⟩, L1⟩; have s1 := s0.under L1; have k1 : Rw (fun j => w.heap.size + 2 ≤ j ∧ j < w1.heap.size) w1 x xa xc xb xd := ⟨x1, x2, y1, y2, x3, y3, x4.mono fun j h1 h2 => by omega, y4.mono fun j h1 h2 => by omega⟩; clear C0 c6 x4 y4)
  have s2 := s1.under ((Below.refl w1.heap.size w1).alloc (Nat.le_refl _) (.cells (kcells x xa xc xb xd) 56))
  have v2 := Av.new_ k1 s1.sz (o := .cells (kcells x xa xc xb xd) 56) rfl
  unfold kcells at s2 v2
  refine some_world ?_
  intro W2 hW2
  rw [← hW2] at s2 v2
  clear hW2 s1 k1
  obtain ⟨d0, d1, d2, d3, d4⟩ := v2.cells
  have hdl := v2.blk.lt
  have CK := ref_look s2.rf x xa xb x.spans.length xc x.marked.length xd rfl rfl (by unfold maxLen at *; omega) (by unfold maxLen at *; omega) hk.fs hk.fm v2.rows.s.row v2.rows.m.row
  have hwy := (look_bd s2.rf.ok x).1
  have hwz : (lookG l x).2 = 0 := hlk
  rw [hwz] at CK
  have CU0 := fun u (h : Rf T u lb l) => ref_use h (lookG l x).1 hwy.1 hwy.2
  generalize hpx : (lookG l x).1 = px at *
  clear hwz
  go_upto_region 16 with (go_at_call 27; refine CK.mono ?_; rintro e w3 ⟨rfl, L3⟩; have s3 := s2.under L3; have v3 := v2.under L3; clear CK d0 d1 d2 d3 d4 hdl s2 v2)
  have CU := CU0 _ s3.rf
  clear CU0
  have hok := ok_use s3.rf.ok px
  generalize hl1 : useG l px = l1 at *
  generalize useB l px = ub at *
  go_upto_region 17 with (go_at_call 20; refine CU.mono ?_; rintro e w4 ⟨rfl, r4, F4⟩; have s4 := s3.used hx r4 F4; have v4 := v3.kept F4 hx.t; clear CU s3 v3)
  obtain ⟨d0, d1, d2, d3, d4⟩ := v4.cells
  have hdl := v4.blk.lt
  have CC := ref_check_ack s4.rf x xa xb x.spans.length xc x.marked.length xd rfl rfl (by unfold maxLen at *; omega) (by unfold maxLen at *; omega) hk.fs hk.fm v4.rows.s.row v4.rows.m.row
  have hcz : (checkG l1 x).1 = 0 := hck
  rw [hcz] at CC
  generalize (checkG l1 x).2 = at_ at *
  clear hcz hck
  go_upto_region 22 with (go_at_call 84; refine CC.mono ?_; rintro e w5 ⟨rfl, L5⟩; have s5 := s4.under L5; have v5 := v4.under L5; clear CC d0 d1 d2 d3 d4 hdl s4 v4)
  have c3 : w5.cell? ⟨b, 3, none⟩ = some (.int .u64 g.n.taken) := gcell s5 3
  have f3 := s5.gb.free 3
  have hb5 := s5.gb.lt
  go_upto_region 23 with fail
  have s6 := s5.turn hx 3 (.int .u64 (g.n.taken + 1)) (n' := { g.n with taken := g.n.taken + 1 }) (ended' := false) rfl
  have F6 : Fr (fun j => j = b) w5 (w5.setCell ⟨b, 3, none⟩ (.int .u64 (g.n.taken + 1))) := (Fr.refl (fun j => j = b) w5).setCell (fun _ => rfl) _
  have v6 := v5.kept F6 (fun j hj => by have := hx.blt; omega)
  generalize w5.setCell ⟨b, 3, none⟩ (.int .u64 (g.n.taken + 1)) = W6 at *
  clear c3 f3 hb5 s5 v5 F6
  go_wp2
  refine held_start (fun _ => True) (by kernel_rfl) ?_
  have sd := s6.drew
  have vd := v6.under (Base.drew1 (Below.refl _ _))
  clear s6 v6
  generalize W6.drew = U at *
  have rv := sd.rv
  have ra := sd.ra
  have kb := vd.blk
  have hnew := vd.new
  have rg := Blk.range kb (o := 0) (l := [.slice xa x.spans.length xc, .slice xb x.marked.length xd, .int .u64 x.trigger, .int .u64 x.xor, .bool x.parity]) (fun j u hj => by rw [Nat.zero_add]; rcases j with _ | _ | _ | _ | _ | j <;> first | exact hj | simp at hj)
  have kb2 := kb.otherRow (g := w.heap.size) (by omega) (vcells ⟨2, 0, px, false⟩)
  have rg2 := Blk.range kb2 (o := 0) (l := [.slice xa x.spans.length xc, .slice xb x.marked.length xd, .int .u64 x.trigger, .int .u64 x.xor, .bool x.parity]) (fun j u hj => by rw [Nat.zero_add]; rcases j with _ | _ | _ | _ | _ | j <;> first | exact hj | simp at hj)
  have ra2 := ra.otherRow (g := w.heap.size) (by omega) (vcells ⟨2, 0, px, false⟩)
  have fin := sd.fin hx ⟨2, 0, px, false⟩ x xa xc xb xd vd.rows
  rw [show Tk.mk ⟨2, 0, px, false⟩ x ⟨g.b, { g.n with taken := g.n.taken + 1 }, false, g.e⟩ l1 = fineT g l1 x px by unfold fineT; rw [he]] at fin
  have b1 := (rv.setRow (vcells ⟨2, 0, px, false⟩)).otherRow (g := w.heap.size + 1) (by omega) (kcells x xa xc xb xd)
  have b2 := ra2.setRow (kcells x xa xc xb xd)
  refine held_take (i := 0) (v := .int .u64 px) rfl (by kernel_rfl) (by kernel_rfl) (by kernel_rfl) (fun _ _ _ h => h) (by kernel_rfl) trivial (fun _ hu => by kernel_rfl) ?_
  refine held_take (i := 1) (v := .agg (vcells ⟨2, 0, px, false⟩)) rfl (by kernel_rfl) (by kernel_rfl) (by kernel_rfl) (fun _ _ _ h => h) (by kernel_rfl) trivial (fun _ hu => by kernel_rfl) ?_
  refine held_two (i := 2) (j := 3) (by kernel_rfl) (op_value (i := 2) (v := .agg (kcells x xa xc xb xd)) rfl (by kernel_rfl) (lb_mid 56 (.tmp 10) rfl (by kernel_rfl) rg Tryz.underlying56 rfl (by kernel_rfl)) ⟨trivial, ?_⟩) ?_
  · refine held_st (i := 3) rfl (by kernel_rfl) (by kernel_rfl) (st_row 44 (.tmp 8) (.tmp 123) rfl (g := w.heap.size) (cells := vcells ⟨2, 0, px, false⟩) (by kernel_rfl) (by kernel_rfl) rv (by kernel_rfl) rfl (by simp [vcells, Value.oneCell'])) trivial ?_
    refine held_st (i := 4) rfl (by kernel_rfl) (by kernel_rfl) (st_row 56 (.tmp 9) (.tmp 124) rfl (g := w.heap.size + 1) (cells := kcells x xa xc xb xd) (by kernel_rfl) (by kernel_rfl) ra2 (by kernel_rfl) rfl (by simp [kcells, Value.oneCell'])) trivial ?_
    refine held_end2 8 9 (.pointer (some ⟨w.heap.size, 0, none⟩)) (.pointer (some ⟨w.heap.size + 1, 0, none⟩)) (by kernel_rfl) (by kernel_rfl) (by kernel_rfl) (by kernel_rfl) fun a' hd hv hv2 => ?_
    go_wp2
    refine bodyPost_ret (results_cells rfl _ _ w.heap.size (w.heap.size + 1) 44 56 (vcells ⟨2, 0, px, false⟩) (kcells x xa xc xb xd) _ _ hv hv2 b1 b2 Tryz.underlying44 rfl (by kernel_rfl) Tryz.underlying56 rfl (by kernel_rfl)) hd ?_
    exact fin
  · refine op_st (i := 3) rfl (by kernel_rfl) (st_row 44 (.tmp 8) (.tmp 123) rfl (g := w.heap.size) (cells := vcells ⟨2, 0, px, false⟩) (by kernel_rfl) (by kernel_rfl) rv (by kernel_rfl) rfl (by simp [vcells, Value.oneCell'])) ⟨trivial, ?_⟩
    refine held_one (i := 2) (v := .agg (kcells x xa xc xb xd)) rfl (by kernel_rfl) (by kernel_rfl) (lb_mid 56 (.tmp 10) rfl (by kernel_rfl) rg2 Tryz.underlying56 rfl (by kernel_rfl)) trivial ?_
    refine held_st (i := 4) rfl (by kernel_rfl) (by kernel_rfl) (st_row 56 (.tmp 9) (.tmp 124) rfl (g := w.heap.size + 1) (cells := kcells x xa xc xb xd) (by kernel_rfl) (by kernel_rfl) ra2 (by kernel_rfl) rfl (by simp [kcells, Value.oneCell'])) trivial ?_
    refine held_end2 8 9 (.pointer (some ⟨w.heap.size, 0, none⟩)) (.pointer (some ⟨w.heap.size + 1, 0, none⟩)) (by kernel_rfl) (by kernel_rfl) (by kernel_rfl) (by kernel_rfl) fun a' hd hv hv2 => ?_
    go_wp2
    refine bodyPost_ret (results_cells rfl _ _ w.heap.size (w.heap.size + 1) 44 56 (vcells ⟨2, 0, px, false⟩) (kcells x xa xc xb xd) _ _ hv hv2 b1 b2 Tryz.underlying44 rfl (by kernel_rfl) Tryz.underlying56 rfl (by kernel_rfl)) hd ?_
    exact fin
set_option maxHeartbeats 4000000 in
theorem take_end {S R T : Nat → Prop} {w : World} {b lb : Nat} {g : Gd} {l : Lg} {N : Nat} (hx : Fx S R T w b) (hG : Gf S R w b g) (hL : Rf T w lb l) (hc : Cb g N) (hN : N ≤ 1000000) (a : Option Addr) (m cap : Nat) (f : List Int) (hm : f.length = m) (hcap : m ≤ cap) (hr : m ≤ 140737488355328) (hb : Bytes f) (hz : ∀ u, Fr (fun j => w.heap.size ≤ j) w u → Ints .u8 u a f) (now : Int) (n0 : 0 ≤ now) (n1 : now ≤ 18446744073709551615) (he : g.ended = false) (hy : (getAck f).2 = 0) (hlk : (lookG l (getAck f).1).2 = 0) (hck : (checkG (useG l (lookG l (getAck f).1).1) (getAck f).1).1 ≠ 0) :
    Calls Tryz.prog 40 #[.pointer (some ⟨b, 0, none⟩), .pointer (some ⟨lb, 0, none⟩), .slice a m cap, .int .u64 now] w (GPost S R T w b lb (endT g (useG l (lookG l (getAck f).1).1) (getAck f).1 (lookG l (getAck f).1).1 (checkG (useG l (lookG l (getAck f).1).1) (getAck f).1).1 (checkG (useG l (lookG l (getAck f).1).1) (getAck f).1).2 now)) := by
  have hF0 : Fr (fun j => w.heap.size ≤ j) w ((w.alloc (.cells (vcells ⟨0, 0, 0, false⟩) 44)).alloc (.cells (kcells AckPlain.zero none 0 none 0) 56)) := Fr.of_below (((Below.refl w.heap.size w).alloc (Nat.le_refl _) _).alloc (by simp) _)
  go_enter Tryz.func40, Tryz.ntmps40
  go_upto_region 1 with fail
  refine some_world ?_
  intro W hW
  obtain ⟨bb, p, c, q, d, S1, s0, hS1⟩ := sg_start hx hG hL (o1 := .cells (vcells ⟨0, 0, 0, false⟩) 44) (o2 := .cells (kcells AckPlain.zero none 0 none 0) 56) rfl rfl
  rw [show (w.alloc (.cells (vcells ⟨0, 0, 0, false⟩) 44)).alloc (.cells (kcells AckPlain.zero none 0 none 0) 56) = W from hW.symm] at s0 hF0
  clear hW
  rw [he] at s0
  have c6 : W.cell? ⟨b, 6, none⟩ = some (.bool false) := gcell s0 6
  have hbn := s0.gb.lt
  have C0 := Ack.ref_get_ack a m cap f W hm hcap hr hb (hz W hF0)
  unfold Ack.AckPost at C0
  have hsz := s0.sz
  have hk := (get_fine hb hy).2
  generalize hg0 : getAck f = gg at *
  obtain ⟨x, er⟩ := gg
  simp only at hk hy
  subst hy
  clear hg0
  go_upto_region 8 with (go_at_call 82; refine C0.mono ?_; rintro e w1 ⟨xa, xn, xc, xb, xm, xd, rfl, ⟨rfl, x1, x2, x3, x4⟩, ⟨rfl, y1, y2, y3, y4⟩, L1⟩; have s1 := s0.under L1; have k1 : Rw (fun j => w.heap.size + 2 ≤ j ∧ j < w1.heap.size) w1 x xa xc xb xd := ⟨x1, x2, y1, y2, x3, y3, x4.mono fun j h1 h2 => by omega, y4.mono fun j h1 h2 => by omega⟩; clear C0 c6 x4 y4)
  have s2 := s1.under ((Below.refl w1.heap.size w1).alloc (Nat.le_refl _) (.cells (kcells x xa xc xb xd) 56))
  have v2 := Av.new_ k1 s1.sz (o := .cells (kcells x xa xc xb xd) 56) rfl
  unfold kcells at s2 v2
  refine some_world ?_
  intro W2 hW2
  rw [← hW2] at s2 v2
  clear hW2 s1 k1
  obtain ⟨d0, d1, d2, d3, d4⟩ := v2.cells
  have hdl := v2.blk.lt
  have CK := ref_look s2.rf x xa xb x.spans.length xc x.marked.length xd rfl rfl (by unfold maxLen at *; omega) (by unfold maxLen at *; omega) hk.fs hk.fm v2.rows.s.row v2.rows.m.row
  have hwy := (look_bd s2.rf.ok x).1
  have hwz : (lookG l x).2 = 0 := hlk
  rw [hwz] at CK
  have CU0 := fun u (h : Rf T u lb l) => ref_use h (lookG l x).1 hwy.1 hwy.2
  generalize hpx : (lookG l x).1 = px at *
  clear hwz
  go_upto_region 16 with (go_at_call 27; refine CK.mono ?_; rintro e w3 ⟨rfl, L3⟩; have s3 := s2.under L3; have v3 := v2.under L3; clear CK d0 d1 d2 d3 d4 hdl s2 v2)
  have CU := CU0 _ s3.rf
  clear CU0
  have hok := ok_use s3.rf.ok px
  generalize hl1 : useG l px = l1 at *
  generalize useB l px = ub at *
  go_upto_region 17 with (go_at_call 20; refine CU.mono ?_; rintro e w4 ⟨rfl, r4, F4⟩; have s4 := s3.used hx r4 F4; have v4 := v3.kept F4 hx.t; clear CU s3 v3)
  obtain ⟨d0, d1, d2, d3, d4⟩ := v4.cells
  have hdl := v4.blk.lt
  have CC := ref_check_ack s4.rf x xa xb x.spans.length xc x.marked.length xd rfl rfl (by unfold maxLen at *; omega) (by unfold maxLen at *; omega) hk.fs hk.fm v4.rows.s.row v4.rows.m.row
  have hcb := check_bd hok hk.fs
  generalize (checkG l1 x).2 = at_ at *
  generalize (checkG l1 x).1 = wc at *
  go_upto_region 19 with (go_at_call 84; refine CC.mono ?_; rintro e w5 ⟨rfl, L5⟩; have s5 := s4.under L5; have v5 := v4.under L5; clear CC d0 d1 d2 d3 d4 hdl s4 v4)
  have c6' : w5.cell? ⟨b, 6, none⟩ = some (.bool false) := gcell s5 6
  have f6 := s5.gb.free 6
  have hb5 := s5.gb.lt
  go_upto_region 20 with fail
  have s6 := s5.turn hx 6 (.bool true) (n' := g.n) (ended' := true) rfl
  have F6 : Fr (fun j => j = b) w5 (w5.setCell ⟨b, 6, none⟩ (.bool true)) := (Fr.refl (fun j => j = b) w5).setCell (fun _ => rfl) _
  have v6 := v5.kept F6 (fun j hj => by have := hx.blt; omega)
  generalize w5.setCell ⟨b, 6, none⟩ (.bool true) = W6 at *
  clear c6' f6 hb5 s5 v5 F6
  obtain ⟨d0, d1, d2, d3, d4⟩ := v6.cells
  have hdl := v6.blk.lt
  have th := Blk.there s6.gb (o := 7) (n := 9) (by simp [gcells])
  have s7 := s6.evid hx ⟨now, at_, px, wc, x⟩ v6.rows (fun j hj => (hS1 j hj).2)
  have F7 : Fr (fun j => j = b) W6 (W6.setCells b 7 (ecells ⟨now, at_, px, wc, x⟩ xa xc xb xd).toList) := setCells_fr _ _ _ _
  have v7 := v6.kept F7 (fun j hj => by have := hx.blt; omega)
  go_upto_region 21 with (refine wpList_store_mid rfl 65 (.tmp 108) (.tmp 106) rfl b 7 (ecells ⟨now, at_, px, wc, x⟩ xa xc xb xd) rfl rfl th (by kernel_rfl) (by simp [ecells, Value.oneCell']) ?_)
  refine some_world ?_
  intro W7 hW7
  rw [show W6.setCells b 7 (ecells ⟨now, at_, px, wc, x⟩ xa xc xb xd).toList = W7 from hW7.symm] at s7 v7
  clear hW7 d0 d1 d2 d3 d4 hdl th s6 v6 F7
  go_wp2
  refine held_start (fun _ => True) (by kernel_rfl) ?_
  have sd := s7.drew
  have vd := v7.under (Base.drew1 (Below.refl _ _))
  clear s7 v7
  generalize W7.drew = U at *
  have rv := sd.rv
  have ra := sd.ra
  have kb := vd.blk
  have hnew := vd.new
  have rg := Blk.range kb (o := 0) (l := [.slice xa x.spans.length xc, .slice xb x.marked.length xd, .int .u64 x.trigger, .int .u64 x.xor, .bool x.parity]) (fun j u hj => by rw [Nat.zero_add]; rcases j with _ | _ | _ | _ | _ | j <;> first | exact hj | simp at hj)
  have kb2 := kb.otherRow (g := w.heap.size) (by omega) (vcells ⟨3, wc, at_, false⟩)
  have rg2 := Blk.range kb2 (o := 0) (l := [.slice xa x.spans.length xc, .slice xb x.marked.length xd, .int .u64 x.trigger, .int .u64 x.xor, .bool x.parity]) (fun j u hj => by rw [Nat.zero_add]; rcases j with _ | _ | _ | _ | _ | j <;> first | exact hj | simp at hj)
  have ra2 := ra.otherRow (g := w.heap.size) (by omega) (vcells ⟨3, wc, at_, false⟩)
  have fin := sd.fin hx ⟨3, wc, at_, false⟩ x xa xc xb xd vd.rows
  rw [show Tk.mk ⟨3, wc, at_, false⟩ x ⟨g.b, g.n, true, ⟨now, at_, px, wc, x⟩⟩ l1 = endT g l1 x px wc at_ now from rfl] at fin
  have b1 := (rv.setRow (vcells ⟨3, wc, at_, false⟩)).otherRow (g := w.heap.size + 1) (by omega) (kcells x xa xc xb xd)
  have b2 := ra2.setRow (kcells x xa xc xb xd)
  refine held_take (i := 0) (v := .int .i64 wc) rfl (by kernel_rfl) (by kernel_rfl) (by kernel_rfl) (fun _ _ _ h => h) (by kernel_rfl) trivial (fun _ hu => by kernel_rfl) ?_
  refine held_take (i := 1) (v := .int .u64 at_) rfl (by kernel_rfl) (by kernel_rfl) (by kernel_rfl) (fun _ _ _ h => h) (by kernel_rfl) trivial (fun _ hu => by kernel_rfl) ?_
  refine held_take (i := 2) (v := .agg (vcells ⟨3, wc, at_, false⟩)) rfl (by kernel_rfl) (by kernel_rfl) (by kernel_rfl) (fun _ _ _ h => h) (by kernel_rfl) trivial (fun _ hu => by kernel_rfl) ?_
  refine held_two (i := 3) (j := 4) (by kernel_rfl) (op_value (i := 3) (v := .agg (kcells x xa xc xb xd)) rfl (by kernel_rfl) (lb_mid 56 (.tmp 10) rfl (by kernel_rfl) rg Tryz.underlying56 rfl (by kernel_rfl)) ⟨trivial, ?_⟩) ?_
  · refine held_st (i := 4) rfl (by kernel_rfl) (by kernel_rfl) (st_row 44 (.tmp 8) (.tmp 111) rfl (g := w.heap.size) (cells := vcells ⟨3, wc, at_, false⟩) (by kernel_rfl) (by kernel_rfl) rv (by kernel_rfl) rfl (by simp [vcells, Value.oneCell'])) trivial ?_
    refine held_st (i := 5) rfl (by kernel_rfl) (by kernel_rfl) (st_row 56 (.tmp 9) (.tmp 112) rfl (g := w.heap.size + 1) (cells := kcells x xa xc xb xd) (by kernel_rfl) (by kernel_rfl) ra2 (by kernel_rfl) rfl (by simp [kcells, Value.oneCell'])) trivial ?_
    refine held_end2 8 9 (.pointer (some ⟨w.heap.size, 0, none⟩)) (.pointer (some ⟨w.heap.size + 1, 0, none⟩)) (by kernel_rfl) (by kernel_rfl) (by kernel_rfl) (by kernel_rfl) fun a' hd hv hv2 => ?_
    go_wp2
    refine bodyPost_ret (results_cells rfl _ _ w.heap.size (w.heap.size + 1) 44 56 (vcells ⟨3, wc, at_, false⟩) (kcells x xa xc xb xd) _ _ hv hv2 b1 b2 Tryz.underlying44 rfl (by kernel_rfl) Tryz.underlying56 rfl (by kernel_rfl)) hd ?_
    exact fin
  · refine op_st (i := 4) rfl (by kernel_rfl) (st_row 44 (.tmp 8) (.tmp 111) rfl (g := w.heap.size) (cells := vcells ⟨3, wc, at_, false⟩) (by kernel_rfl) (by kernel_rfl) rv (by kernel_rfl) rfl (by simp [vcells, Value.oneCell'])) ⟨trivial, ?_⟩
    refine held_one (i := 3) (v := .agg (kcells x xa xc xb xd)) rfl (by kernel_rfl) (by kernel_rfl) (lb_mid 56 (.tmp 10) rfl (by kernel_rfl) rg2 Tryz.underlying56 rfl (by kernel_rfl)) trivial ?_
    refine held_st (i := 5) rfl (by kernel_rfl) (by kernel_rfl) (st_row 56 (.tmp 9) (.tmp 112) rfl (g := w.heap.size + 1) (cells := kcells x xa xc xb xd) (by kernel_rfl) (by kernel_rfl) ra2 (by kernel_rfl) rfl (by simp [kcells, Value.oneCell'])) trivial ?_
    refine held_end2 8 9 (.pointer (some ⟨w.heap.size, 0, none⟩)) (.pointer (some ⟨w.heap.size + 1, 0, none⟩)) (by kernel_rfl) (by kernel_rfl) (by kernel_rfl) (by kernel_rfl) fun a' hd hv hv2 => ?_
    go_wp2
    refine bodyPost_ret (results_cells rfl _ _ w.heap.size (w.heap.size + 1) 44 56 (vcells ⟨3, wc, at_, false⟩) (kcells x xa xc xb xd) _ _ hv hv2 b1 b2 Tryz.underlying44 rfl (by kernel_rfl) Tryz.underlying56 rfl (by kernel_rfl)) hd ?_
    exact fin
theorem ref_gtake {S R T : Nat → Prop} {w : World} {b lb : Nat} {g : Gd} {l : Lg} {N : Nat} (hx : Fx S R T w b) (hG : Gf S R w b g) (hL : Rf T w lb l) (hc : Cb g N) (hN : N ≤ 1000000) (a : Option Addr) (m cap : Nat) (f : List Int) (hm : f.length = m) (hcap : m ≤ cap) (hr : m ≤ 140737488355328) (hb : Bytes f) (hz : ∀ u, Fr (fun j => w.heap.size ≤ j) w u → Ints .u8 u a f) (now : Int) (n0 : 0 ≤ now) (n1 : now ≤ 18446744073709551615) :
    Calls Tryz.prog 40 #[.pointer (some ⟨b, 0, none⟩), .pointer (some ⟨lb, 0, none⟩), .slice a m cap, .int .u64 now] w (GPost S R T w b lb (takeT g l f now)) := by
  unfold takeT
  cases he : g.ended with
  | true =>
    rw [if_pos rfl]
    exact take_late hx hG hL hc hN _ now he
  | false =>
    rw [if_neg (by decide)]
    by_cases hy : (getAck f).2 = 0
    · rw [if_neg (by simp [hy])]
      unfold ackT
      by_cases hlk : (lookG l (getAck f).1).2 = 0
      · rw [if_neg (by simp [hlk])]
        unfold usedT
        by_cases hck : (checkG (useG l (lookG l (getAck f).1).1) (getAck f).1).1 = 0
        · rw [if_neg (by simp [hck])]
          exact take_fine hx hG hL hc hN a m cap f hm hcap hr hb hz now n0 n1 he hy hlk hck
        · rw [if_pos hck]
          exact take_end hx hG hL hc hN a m cap f hm hcap hr hb hz now n0 n1 he hy hlk hck
      · rw [if_pos hlk]
        exact take_drop hx hG hL hc hN a m cap f hm hcap hr hb hz now n0 n1 he hy hlk
    · rw [if_pos hy]
      exact take_mal hx hG hL hc hN a m cap f hm hcap hr hb hz now n0 n1 he hy
end Go.Proofs.YtkiloaebokkjbaaGreat.Guard

/-
  Contracts of ack.May, Decode, Number.
-/
set_option linter.unusedSimpArgs false
set_option linter.unusedVariables false
namespace Go.Proofs.YtkiloaebokkjbaaGreat.Ack
set_option linter.unusedVariables false
set_option maxRecDepth 20000
open Go.ChangeShapes Go.WideShapes Go.ChangeAt Go.RowKit
open Go.Proofs.YtkiloaebokkjbaaGreat.Base Go.Proofs.YtkiloaebokkjbaaGreat.OctPlain Go.Proofs.YtkiloaebokkjbaaGreat.Tab Go.Proofs.YtkiloaebokkjbaaGreat.Oct Go.Proofs.YtkiloaebokkjbaaGreat.SpanPlain
open Go.Proofs.YtkiloaebokkjbaaGreat.AckPlain (K putAck getAck getRow getSp putSp getNum comb Fit)

theorem may_any (x : K) (a b : Option Addr) (n c m d : Nat) (w : World) (hn : x.spans.length = n) (hm : x.marked.length = m) (hn' : n ≤ 9223372036854775807) (hm' : m ≤ 9223372036854775807) (hf : Fits x.spans) (hg : Fits x.marked) (hs : Spans w a x.spans) (ht : Spans w b x.marked) :
    Calls Tryz.prog 92 #[.agg #[.slice a n c, .slice b m d, .int .u64 x.trigger, .int .u64 x.xor, .bool x.parity]] w fun e w' => e = .returned (.bool (AckPlain.may x)) ∧ Below w.heap.size w w' := by
  have hE := Lib.hid (show AckPlain.may x = (decide (1 ≤ (n : Int)) && decide ((n : Int) ≤ 32) && decide ((m : Int) ≤ 32) && (good x.marked && good x.spans && inside x.marked x.spans)) by
    unfold AckPlain.may; rw [hn, hm, Bool.eq_iff_iff]; simp only [Bool.and_eq_true, decide_eq_true_eq]
    constructor
    · rintro ⟨⟨⟨⟨⟨h1, h2⟩, h3⟩, h4⟩, h5⟩, h6⟩; exact ⟨⟨⟨h1, h2⟩, h3⟩, ⟨h5, h4⟩, h6⟩
    · rintro ⟨⟨⟨h1, h2⟩, h3⟩, ⟨h5, h4⟩, h6⟩; exact ⟨⟨⟨⟨⟨h1, h2⟩, h3⟩, h4⟩, h5⟩, h6⟩)
  have G := fun W h1 h2 z y => Span.within_any b a m n d c x.marked x.spans W hm hn h1 h2 hg hf z y
  have hB := Blk.new w #[.slice a n c, .slice b m d, .int .u64 x.trigger, .int .u64 x.xor, .bool x.parity] 56
  have hL : Below w.heap.size w (w.alloc (.cells #[.slice a n c, .slice b m d, .int .u64 x.trigger, .int .u64 x.xor, .bool x.parity] 56)) := (Below.refl _ _).alloc (Nat.le_refl _) _
  generalize AckPlain.may x = v at *
  generalize (good x.marked && good x.spans && inside x.marked x.spans) = g at *
  clear hn hm
  go_enter Tryz.func92, Tryz.ntmps92
  go_upto_region 1 with fail
  generalize w.alloc (.cells #[.slice a n c, .slice b m d, .int .u64 x.trigger, .int .u64 x.xor, .bool x.parity] 56) = W at hB hL ⊢
  obtain ⟨p0, p1, p2, p3, p4⟩ := blk5 hB
  by_cases h1 : (1 : Int) ≤ (n : Int) ∧ (n : Int) ≤ 32 ∧ (m : Int) ≤ 32
  · obtain ⟨h1, h2, h3⟩ := h1
    rw [decide_eq_true h1, decide_eq_true h2, decide_eq_true h3] at hE
    go_wp2_with (go_at_call 91; refine (G W (by omega) (by omega) (ht.below hL) (hs.below hL)).mono ?_; rintro e w3 ⟨rfl, L3⟩; clear G; have M3 := Base.next hL L3)
    all_goals go_ret
    all_goals exact ⟨Base.ret_bool (by rw [hE.out]; simp), M3⟩
  · have hv : (decide (1 ≤ (n : Int)) && decide ((n : Int) ≤ 32) && decide ((m : Int) ≤ 32)) = false := by
      rw [Bool.eq_false_iff]
      intro h
      simp only [Bool.and_eq_true, decide_eq_true_eq] at h
      exact h1 ⟨h.1.1, h.1.2, h.2⟩
    have hv' : v = false := by rw [hE.out, hv]; rfl
    subst hv'
    clear hE hv G
    go_wp2
    all_goals first
      | (go_ret; exact ⟨rfl, hL⟩)
      | (exfalso; omega)
/-- A result of Decode that is none. -/
theorem ack_none {w w' : World} {l : List Int} {er : Int} (h : getAck l = (AckPlain.zero, er)) (hL : Below w.heap.size w w') : AckPost w l (.returned (.tuple #[.agg #[.slice none 0 0, .slice none 0 0, .int .u64 0, .int .u64 0, .bool false], .int .i64 er])) w' := by
  unfold AckPost
  rw [h]
  exact ⟨none, 0, 0, none, 0, 0, rfl, ⟨rfl, Nat.le_refl _, Nat.zero_le _, (fun _ => ⟨rfl, rfl⟩), RowIn.nil _ _ _⟩, ⟨rfl, Nat.le_refl _, Nat.zero_le _, (fun _ => ⟨rfl, rfl⟩), RowIn.nil _ _ _⟩, hL⟩
/-- What octet.New makes of the bytes l. -/
def NewPost (w : World) (l : List Int) : Ending → World → Prop := fun e w' => ∃ b, e = .returned (.pointer (some ⟨b, 0, none⟩)) ∧ Rd (fun k => w.heap.size ≤ k ∧ k < w'.heap.size) w' b l ∧ Below w.heap.size w w'
/-- octet.New of nil, whatever capacity is told with it. -/
theorem new_nil (cap : Nat) (w : World) : Calls Tryz.prog 88 #[.slice none 0 cap] w (NewPost w []) := by
  have qT : ∀ (w : World) (a : Option Addr) (n c : Nat), (binOp .eql 38 (.slice a n c) (.slice none 0 0)).run Tryz.prog w = .ok (.bool a.isNone) w := fun w a n c => Lib.run_eql_slice_nil w _ _ a n c 0 0 Tryz.underlying38
  have hcl : Calls Tryz.prog 110 #[.slice none 0 cap] w fun e w' => e = .returned (.slice none 0 0) ∧ Below w.heap.size w w' := by
    go_enter Tryz.func110, Tryz.ntmps110
    go_wp2
    all_goals go_ret
    all_goals exact ⟨rfl, Below.refl _ _⟩
  unfold NewPost
  go_enter Tryz.func88, Tryz.ntmps88
  go_wp2_with (go_at_call 110; refine hcl.mono ?_; rintro e w1 ⟨rfl, hb1⟩)
  all_goals go_ret
  have hsz := World.size_alloc (w := w1) (o := .cells #[.slice none 0 0] 184)
  exact ⟨w1.heap.size, rfl, ⟨⟨hb1.size, by rw [hsz]; omega⟩, none, 0, Blk.new _ _ _, Nat.le_refl _, Nat.zero_le _, fun _ => ⟨rfl, rfl⟩, RowIn.nil _ _ _⟩, hb1.alloc hb1.size _⟩
set_option maxHeartbeats 1000000 in
theorem decode_from (a : Option Addr) (n cap : Nat) (l : List Int) (w : World) (hlr : l.length ≤ 140737488355328) (hb : Bytes l) (C0 : Calls Tryz.prog 88 #[.slice a n cap] (w.alloc (.cells #[.slice none 0 0, .slice none 0 0, .int .u64 0, .int .u64 0, .bool false] 56)) (NewPost (w.alloc (.cells #[.slice none 0 0, .slice none 0 0, .int .u64 0, .int .u64 0, .bool false] 56)) l)) :
    Calls Tryz.prog 47 #[.slice a n cap] w (AckPost w l) := by
  unfold NewPost at C0
  have C1 := fun S W b (H : Rd S W b l) => fields_any H hb hlr
  have B0 := Blk.new w #[.slice none 0 0, .slice none 0 0, .int .u64 0, .int .u64 0, .bool false] 56
  have L0 : Below w.heap.size w (w.alloc (.cells #[.slice none 0 0, .slice none 0 0, .int .u64 0, .int .u64 0, .bool false] 56)) := (Below.refl _ _).alloc (Nat.le_refl _) _
  go_enter Tryz.func47, Tryz.ntmps47
  go_upto_region 1 with fail
  generalize hW : w.alloc (.cells #[.slice none 0 0, .slice none 0 0, .int .u64 0, .int .u64 0, .bool false] 56) = W at *
  go_upto_region 3 with (first
    | (go_at_call 88; refine C0.mono ?_; rintro e w1 ⟨b, rfl, H1, L1⟩; have B1 := B0.below L1 B0.lt; have M1 := Base.next L0 L1; have hbn := H1.1.1; clear C0)
    | (go_at_call 89; refine (C1 _ _ _ H1).mono ?_; rintro e w2 ⟨a1, n1, c1, a2, n2, c2, trig, xr, par, er, rfl, F2, X1, X2⟩))
  have hWs : W.heap.size = w.heap.size + 1 := by rw [← hW]; simp
  have hs1 := L1.size
  have hs2 := F2.size
  have hs2' := (B1.kept F2 (by omega)).lt
  obtain ⟨g, hg⟩ : ∃ g, w2.heap.size = g := ⟨_, rfl⟩
  have hgr : ¬ g = w.heap.size := by omega
  have hrg : ¬ w.heap.size = g := by omega
  have P5 := Blk.new w2 #[.slice a1 n1 c1, .slice a2 n2 c2, .int .u64 trig, .int .u64 xr, .bool par] 56
  have Pr := (B1.kept F2 (by omega)).alloc (.cells #[.slice a1 n1 c1, .slice a2 n2 c2, .int .u64 trig, .int .u64 xr, .bool par] 56)
  have M2 : Below w.heap.size w w2 := F2.below M1 M1.size (by rintro k rfl; omega)
  have M3 : Below w.heap.size w (w2.alloc (.cells #[.slice a1 n1 c1, .slice a2 n2 c2, .int .u64 trig, .int .u64 xr, .bool par] 56)) := M2.alloc M2.size _
  have LA : Below w2.heap.size w2 (w2.alloc (.cells #[.slice a1 n1 c1, .slice a2 n2 c2, .int .u64 trig, .int .u64 xr, .bool par] 56)) := (Below.refl _ _).alloc (Nat.le_refl _) _
  rw [hg] at P5 ⊢
  generalize w2.alloc (.cells #[.slice a1 n1 c1, .slice a2 n2 c2, .int .u64 trig, .int .u64 xr, .bool par] 56) = w3 at P5 Pr M3 LA ⊢
  obtain ⟨p0, p1, p2, p3, p4⟩ := blk5 P5
  obtain ⟨r0, r1, r2, r3, r4⟩ := blk5 Pr
  have f0 := Pr.free 0
  have f1 := Pr.free 1
  have f2 := Pr.free 2
  have f3 := Pr.free 3
  have f4 := Pr.free 4
  clear C1 B0 L0 H1 B1 M1 L1 F2 hb hlr
  by_cases z : er = 0
  · subst z
    obtain ⟨sp, mk, r, hG, hR, g1, g2, ⟨i1, i2, i3, i4, i5, i6⟩, j1, j2, j3, j4, j5, j6⟩ := X2 rfl
    clear X1 X2
    have hR3 := hR.below LA (fun k hk => by omega)
    have CL := left_any hR3
    by_cases hr0 : r = []
    · subst hr0
      rw [if_neg (by simp)] at hG
      have CW := Span.within_any a2 a1 n2 n1 c2 c1 mk sp w3 j1 i1 (by omega) (by omega) (Fits.of_good g2) (Fits.of_good g1) (Row.below j6.row LA) (Row.below i6.row LA)
      rw [g2, g1] at CW
      cases hi : inside mk sp with
      | false =>
        rw [hi] at hG CW
        have hE := Lib.hid hG
        clear hG i1 j1 hi
        go_wp2_with (first
          | (go_at_call 90; refine CL.mono ?_; rintro e w' ⟨rfl, rfl⟩)
          | (go_at_call 91; refine CW.mono ?_; rintro e w4 ⟨rfl, L4⟩; have B4 := Pr.below L4 Pr.lt; have M4 := Base.next M3 L4; clear p0 p1 p2 p3 p4 r0 r1 r2 r3 r4 f0 f1 f2 f3 f4; obtain ⟨r0, r1, r2, r3, r4⟩ := blk5 B4; have f0 := B4.free 0; have f1 := B4.free 1; have f2 := B4.free 2; have f3 := B4.free 3; have f4 := B4.free 4))
        refine bodyPost_ret (results_row2 rfl _ _ w.heap.size 56 #[.slice none 0 0, .slice none 0 0, .int .u64 0, .int .u64 0, .bool false] _ rfl (set5_blk B4 _ _ _ _ _) Tryz.underlying56 rfl (by kernel_rfl)) rfl ?_
        exact ack_none (by rw [hE.out]; rfl) ((set5_fr _ _ _ _ _ _ _).below M4 M4.size (by rintro k rfl; exact Nat.le_refl _))
      | true =>
        rw [hi] at hG CW
        have hE := Lib.hid hG
        have hi1 := Lib.hid i1
        have hj1 := Lib.hid j1
        clear hG i1 j1 hi
        go_wp2_with (first
          | (go_at_call 90; refine CL.mono ?_; rintro e w' ⟨rfl, rfl⟩)
          | (go_at_call 91; refine CW.mono ?_; rintro e w4 ⟨rfl, L4⟩; have B4 := Pr.below L4 Pr.lt; have B5 := P5.below L4 P5.lt; have M4 := Base.next M3 L4; clear p0 p1 p2 p3 p4 r0 r1 r2 r3 r4 f0 f1 f2 f3 f4; obtain ⟨r0, r1, r2, r3, r4⟩ := blk5 B4; obtain ⟨p0, p1, p2, p3, p4⟩ := blk5 B5; have f0 := B4.free 0; have f1 := B4.free 1; have f2 := B4.free 2; have f3 := B4.free 3; have f4 := B4.free 4))
        refine bodyPost_ret (results_row2 rfl _ _ w.heap.size 56 #[.slice a1 n1 c1, .slice a2 n2 c2, .int .u64 trig, .int .u64 xr, .bool par] _ rfl (set5_blk B4 _ _ _ _ _) Tryz.underlying56 rfl (by kernel_rfl)) rfl ?_
        have F := set5_fr w4 w.heap.size (.slice a1 n1 c1) (.slice a2 n2 c2) (.int .u64 trig) (.int .u64 xr) (.bool par)
        unfold AckPost
        rw [hE.out]
        exact ⟨a1, n1, c1, a2, n2, c2, rfl,
          ⟨hi1.out, i3, i4, i5, ((rowIn_under (rowIn_under i6 LA) L4).kept F (fun k hk e => by omega)).mono (fun k _ hk => by omega)⟩,
          ⟨hj1.out, j3, j4, j5, ((rowIn_under (rowIn_under j6 LA) L4).kept F (fun k hk e => by omega)).mono (fun k _ hk => by omega)⟩, F.below M4 M4.size (by rintro k rfl; exact Nat.le_refl _)⟩
    · rw [if_pos hr0] at hG
      have hlen : (0 : Int) < (r.length : Int) := by cases r with | nil => exact absurd rfl hr0 | cons y r => rw [List.length_cons]; omega
      generalize r.length = len at *
      have hE := Lib.hid hG
      clear hG i1 j1 hr0
      go_wp2_with (go_at_call 90; refine CL.mono ?_; rintro e w' ⟨rfl, rfl⟩)
      refine bodyPost_ret (results_row2 rfl _ _ w.heap.size 56 #[.slice none 0 0, .slice none 0 0, .int .u64 0, .int .u64 0, .bool false] _ rfl (set5_blk Pr _ _ _ _ _) Tryz.underlying56 rfl (by kernel_rfl)) rfl ?_
      exact ack_none hE.out ((set5_fr _ _ _ _ _ _ _).below M3 M3.size (by rintro k rfl; exact Nat.le_refl _))
  · have hE := Lib.hid (X1 z)
    clear X1 X2
    go_wp2
    refine bodyPost_ret (results_row2 rfl _ _ w.heap.size 56 #[.slice none 0 0, .slice none 0 0, .int .u64 0, .int .u64 0, .bool false] _ rfl (set5_blk Pr _ _ _ _ _) Tryz.underlying56 rfl (by kernel_rfl)) rfl ?_
    exact ack_none hE.out ((set5_fr _ _ _ _ _ _ _).below M3 M3.size (by rintro k rfl; exact Nat.le_refl _))
theorem decode_any (a : Option Addr) (n cap : Nat) (l : List Int) (w : World) (hn : l.length = n) (hc : n ≤ cap) (hr : n ≤ 140737488355328) (h0 : a = none → n = 0 ∧ cap = 0) (hb : Bytes l) (hz : Ints .u8 w a l) :
    Calls Tryz.prog 47 #[.slice a n cap] w (AckPost w l) :=
  decode_from a n cap l w (by omega) hb (new_any a n cap l _ hn hc hr h0 (Row.alloc hz _))
/-- .. of nil too, whatever capacity is told with it. -/
theorem decode_loose (a : Option Addr) (n cap : Nat) (l : List Int) (w : World) (hn : l.length = n) (hc : n ≤ cap) (hr : n ≤ 140737488355328) (hb : Bytes l) (hz : Ints .u8 w a l) :
    Calls Tryz.prog 47 #[.slice a n cap] w (AckPost w l) := by
  cases a with
  | some x => exact decode_any (some x) n cap l w hn hc hr (fun h => by cases h) hb hz
  | none =>
    cases l with
    | nil =>
      subst hn
      exact decode_from none 0 cap [] w (by simp) hb (new_nil cap _)
    | cons y l =>
      obtain ⟨b, off, h, _⟩ := hz 0 (.int .u8 y) (by simp)
      cases h
end Go.Proofs.YtkiloaebokkjbaaGreat.Ack

/-
  The frame of a shot by contract: bytes as they are, or an acknowledgment near what there is.
-/
set_option linter.unusedSimpArgs false
set_option linter.unusedVariables false
namespace Go.Proofs.YtkiloaebokkjbaaGreat.Guard
set_option linter.unusedVariables false
set_option maxRecDepth 20000
open Go.ChangeShapes Go.WideShapes Go.ChangeAt Go.RowKit
open Go.Proofs.YtkiloaebokkjbaaGreat.Base Go.Proofs.YtkiloaebokkjbaaGreat.LedPlain Go.Proofs.YtkiloaebokkjbaaGreat.BudPlain Go.Proofs.YtkiloaebokkjbaaGreat.GuardPlain Go.Proofs.YtkiloaebokkjbaaGreat.Led Go.Proofs.YtkiloaebokkjbaaGreat.Bud Go.Proofs.YtkiloaebokkjbaaGreat.SpanPlain
open Go.Proofs.YtkiloaebokkjbaaGreat.AckPlain (K)
open Go.Proofs.YtkiloaebokkjbaaGreat.OctPlain (Bytes)

theorem put_row_len {l : List Sp} (h : l.length ≤ 32) : (AckPlain.putRow l).length ≤ 513 := by
  have := AckPlain.put_sp_len l 0
  unfold AckPlain.putRow
  rw [List.length_cons]
  omega
theorem put_ack_len {x : K} (h : AckPlain.may x = true) : (AckPlain.putAck x).length ≤ 2000 := by
  obtain ⟨_, m1, m2, _⟩ := AckPlain.may_iff.1 h
  have h1 := put_row_len (l := x.spans) (by omega)
  have h2 := put_row_len (l := x.marked) (by omega)
  have b1 := OctPlain.be_len 8 x.trigger
  have b2 := OctPlain.be_len 8 x.xor
  unfold AckPlain.putAck AckPlain.q1 AckPlain.q2 AckPlain.q3 AckPlain.q4 AckPlain.q5
  simp only [List.length_cons, List.length_append, List.length_nil]
  omega
/-- A frame: its bytes, where they lie. -/
def FPost (Bk : Nat → Prop) (w : World) : Ending → World → Prop := fun e w' => ∃ p n c f, e = .returned (.slice p n c) ∧ f.length = n ∧ n ≤ c ∧ n ≤ 140737488355328 ∧ Bytes f ∧ RowIn (fun k => Bk k ∨ w.heap.size ≤ k) w' p (f.map (.int .u8)) ∧ Below w.heap.size w w'
def scells (kind : Int) (pb : Option Addr) (nb cb : Nat) (k0 k1 k2 k3 x : Int) (right : Bool) (wt : Int) : Array Value := #[.int .i64 kind, .slice pb nb cb, .int .u16 k0, .int .u16 k1, .int .u16 k2, .int .u16 k3, .int .u64 x, .bool right, .int .u16 wt]
theorem frame_raw (kind : Int) (q0 : -9223372036854775808 ≤ kind) (q1 : kind ≤ 9223372036854775807) (pb : Option Addr) (nb cb : Nat) (fb : List Int) (hfb : fb.length = nb) (hcb : nb ≤ cb) (hcm : cb ≤ maxLen) (hbb : Bytes fb) (Bk : Nat → Prop) (w : World) (hz : RowIn Bk w pb (fb.map (.int .u8)))
    (k0 k1 k2 k3 x : Int) (right : Bool) (wt : Int) (T : Array Value) (hT : T.size = 2) (hk : kind.tmod 5 = 0) :
    Calls Tryz.prog 14 #[.agg (scells kind pb nb cb k0 k1 k2 k3 x right wt), .agg T] w (FPost Bk w) := by
  unfold maxLen at hcm
  have fin : ∀ (n : Nat) (w' : World), n ≤ nb → n ≤ 300 → Below w.heap.size w w' → FPost Bk w (.returned (.slice pb n cb)) w' := fun n w' h1 h2 hL =>
    ⟨pb, n, cb, fb.take n, rfl, by rw [List.length_take]; omega, by omega, by omega, hbb.take n, by
      rw [List.map_take]
      exact (((hz.take n).mono fun k hk h => (⟨h, hk⟩ : Bk k ∧ k < w.heap.size)).below hL fun k h => h.2).mono fun k _ h => .inl h.1, hL⟩
  unfold scells
  have hL : Below w.heap.size w ((w.alloc (.cells #[.int .i64 kind, .slice pb nb cb, .int .u16 k0, .int .u16 k1, .int .u16 k2, .int .u16 k3, .int .u64 x, .bool right, .int .u16 wt] 42)).alloc (.cells T 28)) := ((Below.refl _ _).alloc (Nat.le_refl _) _).alloc (by simp) _
  have hA := (Blk.new w #[.int .i64 kind, .slice pb nb cb, .int .u16 k0, .int .u16 k1, .int .u16 k2, .int .u16 k3, .int .u64 x, .bool right, .int .u16 wt] 42).alloc (.cells T 28)
  go_enter Tryz.func14, Tryz.ntmps14
  go_upto_region 1 with fail
  refine some_world ?_
  intro W hW
  rw [show (w.alloc (.cells #[.int .i64 kind, .slice pb nb cb, .int .u16 k0, .int .u16 k1, .int .u16 k2, .int .u16 k3, .int .u64 x, .bool right, .int .u16 wt] 42)).alloc (.cells T 28) = W from hW.symm] at hL hA
  clear hW
  have c0 : W.cell? ⟨w.heap.size, 0, none⟩ = some (.int .i64 kind) := hA.cell 0
  have c1 : W.cell? ⟨w.heap.size, 1, none⟩ = some (.slice pb nb cb) := hA.cell 1
  have hbl := hA.lt
  by_cases h3 : (nb : Int) < 300
  · go_wp2
    all_goals go_ret
    all_goals exact fin nb _ (Nat.le_refl _) (by omega) hL
  · by_cases h4 : (nb : Int) = 300
    · go_wp2
      all_goals go_ret
      all_goals exact fin 300 _ (by omega) (Nat.le_refl _) hL
    · go_wp2
      all_goals go_ret
      all_goals exact fin 300 _ (by omega) (Nat.le_refl _) hL
section
variable {ρ : Operand → Value} {o : Oper} {u : World}
end
theorem sum_bd (cl mk : List Sp) : ∀ (l : List Sn) (x : Int) (o : Bool), 0 ≤ x → x ≤ 18446744073709551615 → 0 ≤ (sumT cl mk l x o).1 ∧ (sumT cl mk l x o).1 ≤ 18446744073709551615
  | [], x, o, h0, h1 => ⟨h0, h1⟩
  | s :: t, x, o, h0, h1 => by
    unfold sumT
    split
    · exact sum_bd cl mk t x o h0 h1
    · split
      · exact show (0 : Int) ≤ 0 ∧ (0 : Int) ≤ 18446744073709551615 by decide
      · exact sum_bd cl mk t _ _ (Led.bits_lo _ _ _) (Led.bits_hi _ _ _)
theorem sumG_bd (l : Lg) (cl mk : List Sp) : 0 ≤ (sumG l cl mk).1 ∧ (sumG l cl mk).1 ≤ 18446744073709551615 := by
  have z : (0 : Int) ≤ 0 ∧ (0 : Int) ≤ 18446744073709551615 := by decide
  unfold sumG
  repeat' split
  all_goals first
    | exact z
    | exact sum_bd _ _ _ (0 : Int) _ (by decide) (by decide)
theorem may_one {sp : List Sp} (n1 : 1 ≤ sp.length) (n2 : sp.length ≤ 2) (hg : good sp = true) (tr x : Int) (par : Bool) : AckPlain.may ⟨sp, [], tr, x, par⟩ = true :=
  AckPlain.may_iff.2 ⟨by simp only; omega, by simp only; omega, by simp, hg, rfl, rfl⟩
/-- The bytes of an acknowledgment that may be, as a frame. -/
theorem put_post {x : K} (hm : AckPlain.may x = true) {Bk : Nat → Prop} {w W : World} (hL : Below w.heap.size w W) {e : Ending} {w' : World}
    (h : ∃ a' c, e = .returned (.slice a' (AckPlain.putAck x).length c) ∧ (AckPlain.putAck x).length ≤ c ∧ c ≤ maxLen ∧ (a' = none → (AckPlain.putAck x).length = 0 ∧ c = 0) ∧ RowIn (fun k => W.heap.size ≤ k) w' a' ((AckPlain.putAck x).map (.int .u8)) ∧ Below W.heap.size W w') : FPost Bk w e w' := by
  obtain ⟨a', c, he, h1, _, _, hr, hb⟩ := h
  have := put_ack_len hm
  have := hL.size
  exact ⟨a', _, c, AckPlain.putAck x, he, rfl, h1, by omega, AckPlain.put_ack_bytes hm, hr.mono fun k _ hk => .inr (by omega), Base.next hL hb⟩
theorem frame_ack {S : Nat → Prop} {w : World} {a : Addr} {lb : Nat} {l : Lg} (h : Rf S w lb l) (hn : l.l.length ≤ 1000000) (kind : Int) (q0 : -9223372036854775808 ≤ kind) (q1 : kind ≤ 9223372036854775807) (pb : Option Addr) (nb cb : Nat) (Bk : Nat → Prop)
    (k0 k1 k2 k3 x : Int) (right : Bool) (wt : Int) (a0 : 0 ≤ k0) (a1 : k0 ≤ 65535) (b0 : 0 ≤ k1) (b1 : k1 ≤ 65535) (c0 : 0 ≤ k2) (c1 : k2 ≤ 65535) (d0 : 0 ≤ k3) (d1 : k3 ≤ 65535) (x0 : 0 ≤ x) (x1 : x ≤ 18446744073709551615) (hk : ¬ kind.tmod 5 = 0) :
    Calls Tryz.prog 14 #[.agg (scells kind pb nb cb k0 k1 k2 k3 x right wt), .agg #[.pointer (some a), .pointer (some ⟨lb, 0, none⟩)]] w (FPost Bk w) := by
  unfold scells
  have hL : Below w.heap.size w ((w.alloc (.cells #[.int .i64 kind, .slice pb nb cb, .int .u16 k0, .int .u16 k1, .int .u16 k2, .int .u16 k3, .int .u64 x, .bool right, .int .u16 wt] 42)).alloc (.cells #[.pointer (some a), .pointer (some ⟨lb, 0, none⟩)] 28)) := ((Below.refl _ _).alloc (Nat.le_refl _) _).alloc (by simp) _
  have hA := (Blk.new w #[.int .i64 kind, .slice pb nb cb, .int .u16 k0, .int .u16 k1, .int .u16 k2, .int .u16 k3, .int .u64 x, .bool right, .int .u16 wt] 42).alloc (.cells #[.pointer (some a), .pointer (some ⟨lb, 0, none⟩)] 28)
  have hB := Blk.new (w.alloc (.cells #[.int .i64 kind, .slice pb nb cb, .int .u16 k0, .int .u16 k1, .int .u16 k2, .int .u16 k3, .int .u64 x, .bool right, .int .u16 wt] 42)) #[.pointer (some a), .pointer (some ⟨lb, 0, none⟩)] 28
  rw [World.size_alloc] at hB
  have CA := fun (V : World) (hV : Below w.heap.size w V) => ask_b (a := a) (h.below hV) hn k0 k1 k2 k3 a0 a1 b0 b1 c0 c1 d0 d1 (bits .and .u64 x 7) (Led.bits_lo _ _ _) (Led.bits_hi _ _ _)
  go_enter Tryz.func14, Tryz.ntmps14
  go_upto_region 1 with fail
  refine some_world ?_
  intro W hW
  rw [show (w.alloc (.cells #[.int .i64 kind, .slice pb nb cb, .int .u16 k0, .int .u16 k1, .int .u16 k2, .int .u16 k3, .int .u64 x, .bool right, .int .u16 wt] 42)).alloc (.cells #[.pointer (some a), .pointer (some ⟨lb, 0, none⟩)] 28) = W from hW.symm] at hL hA hB
  clear hW
  have y0 : W.cell? ⟨w.heap.size, 0, none⟩ = some (.int .i64 kind) := hA.cell 0
  have y2 : W.cell? ⟨w.heap.size, 2, none⟩ = some (.int .u16 k0) := hA.cell 2
  have y3 : W.cell? ⟨w.heap.size, 3, none⟩ = some (.int .u16 k1) := hA.cell 3
  have y4 : W.cell? ⟨w.heap.size, 4, none⟩ = some (.int .u16 k2) := hA.cell 4
  have y5 : W.cell? ⟨w.heap.size, 5, none⟩ = some (.int .u16 k3) := hA.cell 5
  have y6 : W.cell? ⟨w.heap.size, 6, none⟩ = some (.int .u64 x) := hA.cell 6
  have z0 : W.cell? ⟨w.heap.size + 1, 0, none⟩ = some (.pointer (some a)) := hB.cell 0
  have z1 : W.cell? ⟨w.heap.size + 1, 1, none⟩ = some (.pointer (some ⟨lb, 0, none⟩)) := hB.cell 1
  have hbl := hA.lt
  have hbm := hB.lt
  go_upto_region 4 with (go_at_call 21; (with_reducible refine (CA _ hL).mono ?_); rintro e w1 ⟨p, c, sp, tr, xr, rfl, hc, hr, hf, n1, n2, hg, ht, L1⟩; have hA1 := hA.below L1 hA.lt; have hne := hA1.lt; have hB1 := hB.below L1 hB.lt; have hne2 := hB1.lt; have M1 := Base.next hL L1)
  refine some_world ?_
  intro W2 hW2
  obtain ⟨hD, hA2, hB2, hL2⟩ : Blk W2 w1.heap.size #[.slice p sp.length c, .slice none 0 0, .int .u64 tr, .int .u64 xr, .bool false] 56 ∧ Blk W2 w.heap.size #[.int .i64 kind, .slice pb nb cb, .int .u16 k0, .int .u16 k1, .int .u16 k2, .int .u16 k3, .int .u64 x, .bool right, .int .u16 wt] 42 ∧ Blk W2 (w.heap.size + 1) #[.pointer (some a), .pointer (some ⟨lb, 0, none⟩)] 28 ∧ Below w1.heap.size w1 W2 := by
    subst hW2
    exact ⟨Blk.new _ _ _, hA1.alloc _, hB1.alloc _, (Below.refl _ _).alloc (Nat.le_refl _) _⟩
  clear hW2 hA1 hB1 y0 y2 y3 y4 y5 y6 z0 z1 hbl hbm hA hB CA
  have M2 := Base.next M1 hL2
  have e6 : W2.cell? ⟨w.heap.size, 6, none⟩ = some (.int .u64 x) := hA2.cell 6
  have hS : Below W2.heap.size W2 W2.drew := Base.drew1 (Below.refl _ _)
  have f3 := hD.free 3
  have f4 := hD.free 4
  have d3 : W2.cell? ⟨w1.heap.size, 3, none⟩ = some (.int .u64 xr) := hD.cell 3
  have d4 : W2.cell? ⟨w1.heap.size, 4, none⟩ = some (.bool false) := hD.cell 4
  have hbl := hA2.lt
  have hbk := hD.lt
  go_wp2
  go_region_with (fail)
  all_goals go_upto_region 5 with fail
  all_goals refine some_world ?_
  all_goals intro W3 hW3
  all_goals
    obtain ⟨hD3, hA3, hB3, hF3⟩ : Blk W3 w1.heap.size #[.slice p sp.length c, .slice none 0 0, .int .u64 tr, .int .u64 x, .bool (bits .and .u64 x 1 == 1)] 56 ∧ Blk W3 w.heap.size #[.int .i64 kind, .slice pb nb cb, .int .u16 k0, .int .u16 k1, .int .u16 k2, .int .u16 k3, .int .u64 x, .bool right, .int .u16 wt] 42 ∧ Blk W3 (w.heap.size + 1) #[.pointer (some a), .pointer (some ⟨lb, 0, none⟩)] 28 ∧ Fr (fun k => k = w1.heap.size) W2 W3 := by
      subst hW3
      exact ⟨(hD.set 3 _).set 4 _, (hA2.other (by simp only; omega) _).other (by simp only; omega) _, (hB2.other (by simp only; omega) _).other (by simp only; omega) _, (((Fr.refl (fun k => k = w1.heap.size) W2).setCell (p := ⟨w1.heap.size, 3, none⟩) (fun _ => rfl) _).setCell (p := ⟨w1.heap.size, 4, none⟩) (fun _ => rfl) _).drew⟩
    clear hW3 hD hA2 hB2 f3 f4 d3 d4 e6 hbl hbk hS
    have M3 : Below w.heap.size w W3 := hF3.below M2 (by have := M2.size; omega) (fun k hk => by omega)
    have hr3 := (hr.mono fun k h1 h2 => (⟨Nat.le_trans hL.size h2, h1⟩ : w.heap.size ≤ k ∧ k < w1.heap.size)).below hL2 (fun k h => h.2) |>.kept hF3 (fun k h e => by omega)
    have e7 : W3.cell? ⟨w.heap.size, 7, none⟩ = some (.bool right) := hA3.cell 7
    have hbl := hA3.lt
    clear hr hc hL2 hL L1 hF3 M2 M1
    cases right with
    | false =>
      go_upto_region 9 with fail
      have W4e : W3 = W3 := rfl
      clear W4e
      obtain ⟨W4, rfl⟩ : ∃ W4, W4 = W3 := ⟨_, rfl⟩
      have hD4 := hD3
      have hr4 := hr3
      have M4 := M3
      have CP := Ack.ref_put_ack ⟨sp, [], tr, x, (bits .and .u64 x 1 == 1)⟩ p none sp.length c 0 0 W4 rfl rfl (may_one n1 n2 hg tr x (bits .and .u64 x 1 == 1)) ⟨ht, x0, x1⟩ hr4.row (Spans.nil _ _)
      obtain ⟨g0, g1, g2, g3, g4⟩ := (⟨hD4.cell 0, hD4.cell 1, hD4.cell 2, hD4.cell 3, hD4.cell 4⟩ : W4.cell? ⟨w1.heap.size, 0, none⟩ = some (.slice p sp.length c) ∧ W4.cell? ⟨w1.heap.size, 1, none⟩ = some (.slice none 0 0) ∧ W4.cell? ⟨w1.heap.size, 2, none⟩ = some (.int .u64 tr) ∧ W4.cell? ⟨w1.heap.size, 3, none⟩ = some (.int .u64 x) ∧ W4.cell? ⟨w1.heap.size, 4, none⟩ = some (.bool (bits .and .u64 x 1 == 1)))
      have g5 := hD4.lt
      go_wp2_with (go_at_call 22; (with_reducible refine CP.mono ?_); rintro e w9 hp; have FP := put_post (Bk := Bk) (may_one n1 n2 hg tr x (bits .and .u64 x 1 == 1)) M4 hp; obtain ⟨q, cq, rfl, _⟩ := hp)
      all_goals go_ret
      all_goals exact FP
    | true =>
      have CS := ref_sum (h.below M3) p none sp.length c 0 0 sp [] rfl rfl (by omega) (by omega) hf Fits.nil hr3.row (Spans.nil _ _)
      have sb := sumG_bd l sp []
      have b1 : W3.cell? ⟨w.heap.size + 1, 1, none⟩ = some (.pointer (some ⟨lb, 0, none⟩)) := hB3.cell 1
      have b2 := hB3.lt
      have h0 : W3.cell? ⟨w1.heap.size, 0, none⟩ = some (.slice p sp.length c) := hD3.cell 0
      have h1 : W3.cell? ⟨w1.heap.size, 1, none⟩ = some (.slice none 0 0) := hD3.cell 1
      have h2 := hD3.lt
      generalize (sumG l sp []).1 = sx at *
      generalize (sumG l sp []).2.1 = so at *
      cases hok : (sumG l sp []).2.2 with
      | false =>
        rw [hok] at CS
        go_upto_region 9 with (go_at_call 26; (with_reducible refine CS.mono ?_); rintro e W4 ⟨rfl, L4⟩; have hD4 := hD3.below L4 hD3.lt; have hr4 := hr3.below L4 (fun k hk => by omega); have M4 := Base.next M3 L4; clear hD3 hr3 M3)
        have CP := Ack.ref_put_ack ⟨sp, [], tr, x, (bits .and .u64 x 1 == 1)⟩ p none sp.length c 0 0 W4 rfl rfl (may_one n1 n2 hg tr x (bits .and .u64 x 1 == 1)) ⟨ht, x0, x1⟩ hr4.row (Spans.nil _ _)
        obtain ⟨g0, g1, g2, g3, g4⟩ := (⟨hD4.cell 0, hD4.cell 1, hD4.cell 2, hD4.cell 3, hD4.cell 4⟩ : W4.cell? ⟨w1.heap.size, 0, none⟩ = some (.slice p sp.length c) ∧ W4.cell? ⟨w1.heap.size, 1, none⟩ = some (.slice none 0 0) ∧ W4.cell? ⟨w1.heap.size, 2, none⟩ = some (.int .u64 tr) ∧ W4.cell? ⟨w1.heap.size, 3, none⟩ = some (.int .u64 x) ∧ W4.cell? ⟨w1.heap.size, 4, none⟩ = some (.bool (bits .and .u64 x 1 == 1)))
        have g5 := hD4.lt
        go_wp2_with (go_at_call 22; (with_reducible refine CP.mono ?_); rintro e w9 hp; have FP := put_post (Bk := Bk) (may_one n1 n2 hg tr x (bits .and .u64 x 1 == 1)) M4 hp; obtain ⟨q, cq, rfl, _⟩ := hp)
        all_goals go_ret
        all_goals exact FP
      | true =>
        rw [hok] at CS
        go_upto_region 8 with (go_at_call 26; (with_reducible refine CS.mono ?_); rintro e w5 ⟨rfl, L4⟩; have hD5 := hD3.below L4 hD3.lt; have hr5 := hr3.below L4 (fun k hk => by omega); have M5 := Base.next M3 L4; clear hD3 hr3 M3)
        have k3 : w5.cell? ⟨w1.heap.size, 3, none⟩ = some (.int .u64 x) := hD5.cell 3
        have k4 : w5.cell? ⟨w1.heap.size, 4, none⟩ = some (.bool (bits .and .u64 x 1 == 1)) := hD5.cell 4
        have k5 := hD5.free 3
        have k6 := hD5.free 4
        have k7 := hD5.lt
        go_upto_region 9 with fail
        refine some_world ?_
        intro W4 hW4
        obtain ⟨hD4, hF4⟩ : Blk W4 w1.heap.size #[.slice p sp.length c, .slice none 0 0, .int .u64 tr, .int .u64 sx, .bool so] 56 ∧ Fr (fun k => k = w1.heap.size) w5 W4 := by
          subst hW4
          exact ⟨(hD5.set 3 _).set 4 _, ((Fr.refl (fun k => k = w1.heap.size) w5).setCell (p := ⟨w1.heap.size, 3, none⟩) (fun _ => rfl) _).setCell (p := ⟨w1.heap.size, 4, none⟩) (fun _ => rfl) _⟩
        have M4 : Below w.heap.size w W4 := hF4.below M5 (by have := M5.size; omega) (fun k hk => by omega)
        have hr4 := hr5.kept hF4 (fun k h e => by omega)
        clear hW4 k3 k4 k5 k6 hD5 hr5 M5 hF4
        have CP := Ack.ref_put_ack ⟨sp, [], tr, sx, so⟩ p none sp.length c 0 0 W4 rfl rfl (may_one n1 n2 hg tr sx so) ⟨ht, sb⟩ hr4.row (Spans.nil _ _)
        obtain ⟨g0, g1, g2, g3, g4⟩ := (⟨hD4.cell 0, hD4.cell 1, hD4.cell 2, hD4.cell 3, hD4.cell 4⟩ : W4.cell? ⟨w1.heap.size, 0, none⟩ = some (.slice p sp.length c) ∧ W4.cell? ⟨w1.heap.size, 1, none⟩ = some (.slice none 0 0) ∧ W4.cell? ⟨w1.heap.size, 2, none⟩ = some (.int .u64 tr) ∧ W4.cell? ⟨w1.heap.size, 3, none⟩ = some (.int .u64 sx) ∧ W4.cell? ⟨w1.heap.size, 4, none⟩ = some (.bool so))
        have g5 := hD4.lt
        go_wp2_with (go_at_call 22; (with_reducible refine CP.mono ?_); rintro e w9 hp; have FP := put_post (Bk := Bk) (may_one n1 n2 hg tr sx so) M4 hp; obtain ⟨q, cq, rfl, _⟩ := hp)
        all_goals go_ret
        all_goals exact FP
end Go.Proofs.YtkiloaebokkjbaaGreat.Guard
