/-
  A shot against ledgers and guards side by side: what the laws' loops use.
-/
import Derived.Test.YtkiloaebokkjbaaGreatGuardSame
import Derived.Test.YtkiloaebokkjbaaGreatGuardTri
import Derived.Test.YtkiloaebokkjbaaGreatGuardAlive
import Derived.Test.YtkiloaebokkjbaaGreatM1
import Derived.Test.YtkiloaebokkjbaaGreatLedMake
set_option linter.unusedSimpArgs false
set_option linter.unusedVariables false
namespace Go.Proofs.YtkiloaebokkjbaaGreat.Guard
set_option linter.unusedVariables false
set_option maxRecDepth 20000
open Go.ChangeShapes Go.WideShapes Go.ChangeAt Go.RowKit
open Go.Proofs.YtkiloaebokkjbaaGreat.Base Go.Proofs.YtkiloaebokkjbaaGreat.LedPlain Go.Proofs.YtkiloaebokkjbaaGreat.BudPlain Go.Proofs.YtkiloaebokkjbaaGreat.GuardPlain Go.Proofs.YtkiloaebokkjbaaGreat.Led Go.Proofs.YtkiloaebokkjbaaGreat.Bud Go.Proofs.YtkiloaebokkjbaaGreat.SpanPlain
open Go.Proofs.YtkiloaebokkjbaaGreat.AckPlain (K)
open Go.Proofs.YtkiloaebokkjbaaGreat.OctPlain (Bytes)

theorem bel_setRow {B g : Nat} {A w : World} {cs : Array Value} (h : Below B A w) (hg : B ≤ g) : Below B A (w.setRow g cs) :=
  ⟨h.os, h.tape, h.output, by simpa [World.setRow] using h.size, fun k hk => by
    rw [← h.block k hk]
    simp only [World.setRow, Array.getElem?_modify]
    rw [if_neg (by omega)]⟩
theorem held_three {P : Program} {ops : Array Oper} {Q : Exit → Act → World → Prop} {md : Region.Mode} {S : World → Prop} {i j k : Nat} {fuel : Nat} {listed : Array Bool} {a : Act} {w : World} (hr : Region.ready md ops listed = [i, j, k]) (h1 : wpOp P ops Q i (fun a' w' => S w' ∧ wpAnyH P md ops Q S fuel (listed.setIfInBounds i true) a' w') a w)
    (h2 : wpOp P ops Q j (fun a' w' => S w' ∧ wpAnyH P md ops Q S fuel (listed.setIfInBounds j true) a' w') a w) (h3 : wpOp P ops Q k (fun a' w' => S w' ∧ wpAnyH P md ops Q S fuel (listed.setIfInBounds k true) a' w') a w) : wpAnyH P md ops Q S (fuel + 1) listed a w := by
  refine wpAnyH_all hr (by simp) fun m hm => ?_
  rcases List.mem_cons.1 hm with rfl | hm
  · exact h1
  · rcases List.mem_cons.1 hm with rfl | hm
    · exact h2
    · obtain rfl : m = k := by simpa using hm
      exact h3
/-- The frame of a shot that came in. -/
theorem frame_any {S : Nat → Prop} {w u : World} {a : Addr} {lb : Nat} {l : Lg} (h : Rf S u lb l) (hn : l.l.length ≤ 1000000) (hb : Below w.heap.size w u) {s : Sh} (hs : ShFit w s) :
    Calls Tryz.prog 14 #[.agg (shC s).toArray, .agg #[.pointer (some a), .pointer (some ⟨lb, 0, none⟩)]] u (FPost (fun k => k < w.heap.size) u) := by
  by_cases hk : s.kind.tmod 5 = 0
  · exact frame_raw s.kind hs.kind0 hs.kind1 s.pb s.nb s.cb s.fb hs.len hs.cap hs.max hs.byt (fun k => k < w.heap.size) u ((Row.in_ hs.row).below hb fun _ h => h) s.k0 s.k1 s.k2 s.k3 s.x s.right s.wt _ rfl hk
  · exact frame_ack h hn s.kind hs.kind0 hs.kind1 s.pb s.nb s.cb (fun k => k < w.heap.size) s.k0 s.k1 s.k2 s.k3 s.x s.right s.wt hs.a0 hs.a1 hs.b0 hs.b1 hs.c0 hs.c1 hs.d0 hs.d1 hs.x0 hs.x1 hk
section
variable {ρ : Operand → Value} {o : Oper} {u : World}
/-- The place of a shot in its slice. -/
theorem ix_shots (x y : Operand) (ho : o.op = .indexAddr 24 x y) {b off n cap t : Nat} (hx : ρ x = .slice (some ⟨b, off, none⟩) n cap) (hy : ρ y = .int .i64 t) (ht : t < n) : (execOp ρ o).run Tryz.prog u = .ok (.value (.pointer (some ⟨b, off + t * 9, none⟩))) u := by
  unfold execOp
  rw [ho]
  have h1 : (t : Int) < (n : Int) := by omega
  simp [hx, hy, go_sem, h1]
theorem eq_same (k : IntKind) (ty : TypeId) (x y : Operand) (ho : o.op = .binOp .eql ty x y ty) {n : Int} (hx : ρ x = .int k n) (hy : ρ y = .int k n) (hu : Tryz.prog.underlying ty = some (.int k)) : (execOp ρ o).run Tryz.prog u = .ok (.value (.bool true)) u := by
  unfold execOp
  rw [ho]
  simp [hx, hy, hu, go_sem]
theorem eq_cnt (x y : Operand) (ho : o.op = .binOp .eql 52 x y 52) {a b c d e : Int} (hx : ρ x = .agg #[.int .u64 a, .int .u64 b, .int .u64 c, .int .u64 d, .int .u64 e]) (hy : ρ y = .agg #[.int .u64 a, .int .u64 b, .int .u64 c, .int .u64 d, .int .u64 e]) : (execOp ρ o).run Tryz.prog u = .ok (.value (.bool true)) u := by
  unfold execOp
  rw [ho]
  simp [hx, hy, go_sem]
theorem cv_any (x : Operand) (ho : o.op = .convert 3 23 x) {n : Int} (hx : ρ x = .int .i64 n) (h0 : 0 ≤ n) (h1 : n ≤ 18446744073709551615) : (execOp ρ o).run Tryz.prog u = .ok (.value (.int .u64 n)) u := by
  unfold execOp
  rw [ho]
  have h2 : IntKind.u64.wrap n = n := by rw [IntKind.wrap_u64]; omega
  simp [hx, go_sem, h2]
theorem ad_any (x y : Operand) (ho : o.op = .binOp .add 3 x y 3) {n m : Int} (hx : ρ x = .int .i64 n) (hy : ρ y = .int .i64 m) (h0 : -9223372036854775808 ≤ n + m) (h1 : n + m ≤ 9223372036854775807) : (execOp ρ o).run Tryz.prog u = .ok (.value (.int .i64 (n + m))) u := by
  unfold execOp
  rw [ho]
  have h2 : IntKind.i64.wrap (n + m) = n + m := by rw [IntKind.wrap_i64]; omega
  simp [hx, hy, go_sem, h2]
end
/-- Both ledgers and both guards, each apart from the others. -/
theorem Quar.of {A S1 S2 T1 R1 T2 R2 : Nat → Prop} {u : World} {tp gp : Addr} {tr gr : Nat} {l : Lg} {g : Gd} (h1 : Led S1 u tp l) (h2 : Rf S2 u tr l) (h3 : Grd T1 R1 u gp g) (h4 : Gf T2 R2 u gr g) (s1 : ∀ k, S1 k → k < u.heap.size ∧ A k) (s2 : ∀ k, S2 k → k < u.heap.size ∧ A k) (t1 : ∀ k, T1 k → k < u.heap.size ∧ A k) (t2 : ∀ k, T2 k → k < u.heap.size ∧ A k)
    (r1 : ∀ k, R1 k → k < u.heap.size ∧ ¬ S1 k ∧ ¬ S2 k ∧ ¬ T2 k) (r2 : ∀ k, R2 k → k < u.heap.size ∧ ¬ S1 k ∧ ¬ S2 k ∧ ¬ T1 k) (d1 : ∀ k, S1 k → ¬ S2 k) (d2 : ∀ k, T1 k → ¬ S1 k ∧ ¬ S2 k) (d3 : ∀ k, T2 k → ¬ S1 k ∧ ¬ S2 k ∧ ¬ T1 k) : Quar A (fun _ => False) (fun _ => False) u u tp tr gp gr l l g g :=
  ⟨S1, S2, T1, R1, T2, R2, { s1 := fun k hk => ⟨(s1 k hk).1, .inl (s1 k hk).2⟩, s2 := fun k hk => ⟨(s2 k hk).1, .inl (s2 k hk).2⟩, t1 := fun k hk => ⟨(t1 k hk).1, .inl (t1 k hk).2⟩, t2 := fun k hk => ⟨(t2 k hk).1, .inl (t2 k hk).2⟩, r1 := fun k hk => (r1 k hk).1, r2 := fun k hk => (r2 k hk).1, s12 := d1, s1t1 := fun k hk => (d2 k hk).1, s1t2 := fun k hk => (d3 k hk).1, s2t1 := fun k hk => (d2 k hk).2, s2t2 := fun k hk => (d3 k hk).2.1, t12 := fun k hk h => (d3 k h).2.2 hk, r1s1 := fun k hk => (r1 k hk).2.1, r1s2 := fun k hk => (r1 k hk).2.2.1, r1t1 := fun k hk h => h3.dis k h hk, r1t2 := fun k hk => (r1 k hk).2.2.2, r2s1 := fun k hk => (r2 k hk).2.1, r2s2 := fun k hk => (r2 k hk).2.2.1, r2t1 := fun k hk => (r2 k hk).2.2.2, r2t2 := fun k hk h => h4.dis k h hk, f := fun _ h => h.elim, s1f := fun _ _ h => h, s2f := fun _ _ h => h, t1f := fun _ _ h => h, t2f := fun _ _ h => h, z := fun _ h => h, r1z := fun _ _ h => h, r2z := fun _ _ h => h, fr := Fr.refl _ _ }, h1, h2, h3, h4⟩
/-- Both ledgers and both guards, new. -/
theorem Quar.make {A S T1 T2 : Nat → Prop} {u : World} {tp gp : Addr} {tr gr : Nat} {l : Lg} {g : Gd} (hP : Pair S u tp tr l) (h1 : Grd T1 (fun _ => False) u gp g) (h2 : Gf T2 (fun _ => False) u gr g) (a1 : ∀ k, S k → A k) (a2 : ∀ k, T1 k → A k ∧ k < u.heap.size) (a3 : ∀ k, T2 k → A k ∧ k < u.heap.size)
    (d1 : ∀ k, T1 k → ¬ S k) (d2 : ∀ k, T2 k → ¬ S k) (d3 : ∀ k, T1 k → ¬ T2 k) : Quar A (fun _ => False) (fun _ => False) u u tp tr gp gr l l g g := by
  obtain ⟨S1, S2, p1, p2, q1, q2, q3⟩ := hP.two
  have f0 : ∀ {p : Prop}, False → p := fun h => h.elim
  exact ⟨S1, S2, T1, _, T2, _, ⟨fun k hk => ⟨hP.lt k (q1 k hk), .inl (a1 k (q1 k hk))⟩, fun k hk => ⟨hP.lt k (q2 k hk), .inl (a1 k (q2 k hk))⟩, fun k hk => ⟨(a2 k hk).2, .inl (a2 k hk).1⟩, fun k hk => ⟨(a3 k hk).2, .inl (a3 k hk).1⟩, fun k hk => hk.elim, fun k hk => hk.elim, q3, fun k hk h => d1 k hk (q1 k h), fun k hk h => d2 k hk (q1 k h), fun k hk h => d1 k hk (q2 k h), fun k hk h => d2 k hk (q2 k h), d3, fun k hk => hk.elim, fun k hk => hk.elim, fun k hk => hk.elim, fun k hk => hk.elim, fun k hk => hk.elim, fun k hk => hk.elim, fun k hk => hk.elim, fun k hk => hk.elim, fun k hk => hk.elim, fun _ _ h => h, fun _ _ h => h, fun _ _ h => h, fun _ _ h => h, fun k hk => hk, fun _ h => h.elim, fun _ h => h.elim, Fr.refl _ _⟩, p1, p2, h1, h2⟩
/-- Both ledgers and the program's guard, new. -/
theorem Tri.make {A S T1 : Nat → Prop} {u : World} {tp gp : Addr} {tr : Nat} {l : Lg} {g : Gd} (hP : Pair S u tp tr l) (h1 : Grd T1 (fun _ => False) u gp g) (a1 : ∀ k, S k → A k) (a2 : ∀ k, T1 k → A k ∧ k < u.heap.size)
    (d1 : ∀ k, T1 k → ¬ S k) : Tri A (fun _ => False) (fun _ => False) u u tp tr gp l l g := by
  obtain ⟨S1, S2, p1, p2, q1, q2, q3⟩ := hP.two
  exact ⟨S1, S2, T1, _, ⟨fun k hk => ⟨hP.lt k (q1 k hk), .inl (a1 k (q1 k hk))⟩, fun k hk => ⟨hP.lt k (q2 k hk), .inl (a1 k (q2 k hk))⟩, fun k hk => ⟨(a2 k hk).2, .inl (a2 k hk).1⟩, fun k hk => hk.elim, fun k hk => hk.elim, fun k hk => hk.elim, q3, fun k hk h => d1 k hk (q1 k h), fun k hk => hk.elim, fun k hk h => d1 k hk (q2 k h), fun k hk => hk.elim, fun _ _ h => h, fun k hk => hk.elim, fun k hk => hk.elim, fun k hk => hk.elim, fun k hk => hk.elim, fun k hk => hk.elim, fun k hk => hk.elim, fun k hk => hk.elim, fun k hk => hk.elim, fun k hk => hk.elim, fun _ _ h => h, fun _ _ h => h, fun _ _ h => h, fun _ _ h => h, fun k hk => hk, fun _ h => h.elim, fun _ h => h.elim, Fr.refl _ _⟩, p1, p2, h1⟩
section
variable {A F Z : Nat → Prop} {w U u : World} {tp gp : Addr} {tr gr : Nat} {lp lr : Lg} {g r : Gd}
theorem Tri.grow (h : Tri A F Z U u tp tr gp lp lr g) {u' : World} (hb : Below u.heap.size u u') (hn : u.heap.size < u'.heap.size) : ∃ F' Z', Tri A F' Z' U u' tp tr gp lp lr g ∧ (∀ k, Z k → Z' k) ∧ Z' u.heap.size :=
  ⟨_, _, h.more hb, fun k hk => .inl hk, .inr ⟨Nat.le_refl _, hn⟩⟩
theorem Tri.pick (h : Tri A F Z U u tp tr gp lp lr g) {p q : Nat} (h1 : Z p) (h2 : Z q) : Tri A (fun k => k = p ∨ k = q) (fun k => k = p ∨ k = q) U u tp tr gp lp lr g := by
  have hz : ∀ k, k = p ∨ k = q → Z k := fun k hk => by
    rcases hk with rfl | rfl
    · exact h1
    · exact h2
  have hf : ∀ k, Z k → F k := by
    obtain ⟨S1, S2, T1, R1, q, _⟩ := h
    exact q.z
  exact h.less (fun k hk => hf k (hz k hk)) hz fun k hk => hk
/-- From here on. -/
theorem Quar.at_ (h : Quar A F Z U u tp tr gp gr lp lr g r) (hA : ∀ k, U.heap.size ≤ k → A k) : Quar A F Z u u tp tr gp gr lp lr g r := by
  obtain ⟨S1, S2, T1, R1, T2, R2, q, h⟩ := h
  exact ⟨S1, S2, T1, R1, T2, R2, { q with s1 := fun k hk => ⟨(q.s1 k hk).1, .inl ((q.s1 k hk).2.elim id (hA k))⟩, s2 := fun k hk => ⟨(q.s2 k hk).1, .inl ((q.s2 k hk).2.elim id (hA k))⟩, t1 := fun k hk => ⟨(q.t1 k hk).1, .inl ((q.t1 k hk).2.elim id (hA k))⟩, t2 := fun k hk => ⟨(q.t2 k hk).1, .inl ((q.t2 k hk).2.elim id (hA k))⟩, fr := Fr.refl _ _ }, h⟩
theorem Tri.at_ (h : Tri A F Z U u tp tr gp lp lr g) (hA : ∀ k, U.heap.size ≤ k → A k) : Tri A F Z u u tp tr gp lp lr g := by
  obtain ⟨S1, S2, T1, R1, q, h⟩ := h
  exact ⟨S1, S2, T1, R1, { q with s1 := fun k hk => ⟨(q.s1 k hk).1, .inl ((q.s1 k hk).2.elim id (hA k))⟩, s2 := fun k hk => ⟨(q.s2 k hk).1, .inl ((q.s2 k hk).2.elim id (hA k))⟩, t1 := fun k hk => ⟨(q.t1 k hk).1, .inl ((q.t1 k hk).2.elim id (hA k))⟩, t2 := fun k hk => hk.elim, fr := Fr.refl _ _ }, h⟩
theorem Quar.rf (h : Quar A F Z U u tp tr gp gr lp lr g r) : ∃ S, Rf S u tr lr := by
  obtain ⟨S1, S2, T1, R1, T2, R2, q, h1, h2, h3, h4⟩ := h
  exact ⟨S2, h2⟩
theorem Quar.ok (h : Quar A F Z U u tp tr gp gr lp lr g r) : Ok lp := by
  obtain ⟨S1, S2, T1, R1, T2, R2, q, h1, h2, h3, h4⟩ := h
  exact h1.ok
theorem Tri.ok (h : Tri A F Z U u tp tr gp lp lr g) : Ok lp := by
  obtain ⟨S1, S2, T1, R1, q, h1, h2, h3⟩ := h
  exact h1.ok
/-- The reference's ledger uses a number. -/
theorem tri_use (h : Tri A F Z U u tp tr gp lp lr g) (pn : Int) (p0 : 0 ≤ pn) (p1 : pn ≤ 18446744073709551615) :
    Calls Tryz.prog 20 #[.pointer (some ⟨tr, 0, none⟩), .int .u64 pn] u fun e w' => e = .returned (.bool (useB lr pn)) ∧ Tri A F Z U w' tp tr gp lp (useG lr pn) g ∧ Fr (fun k => ¬ F k) u w' := by
  obtain ⟨S1, S2, T1, R1, q, h1, h2, h3⟩ := h
  refine (ref_use h2 pn p0 p1).mono fun e w' hp => ?_
  obtain ⟨he, h2', hF⟩ := hp
  have hs := hF.size
  have hU := q.fr.size
  refine ⟨he, ⟨S1, S2, T1, R1, { q with s1 := fun k hk => ⟨by have := (q.s1 k hk).1; omega, (q.s1 k hk).2⟩, s2 := fun k hk => ⟨by have := (q.s2 k hk).1; omega, (q.s2 k hk).2⟩, t1 := fun k hk => ⟨by have := (q.t1 k hk).1; omega, (q.t1 k hk).2⟩, t2 := fun k hk => hk.elim, r1 := fun k hk => by have := q.r1 k hk; omega, r2 := fun k hk => hk.elim, f := fun k hk => by have := q.f k hk; omega, fr := q.fr.trans hF fun k hk h => (q.s2 k h).2.resolve_right (by omega) }, h1.kept hF q.s12, h2', h3.kept hF (fun k hk h => q.s2t1 k hk h) fun k hk h => q.r1s2 k hk h⟩, hF.mono fun k hk h => q.s2f k h⟩
theorem Tri.pickK (h : Tri A F Z U u tp tr gp lp lr g) {K : Nat → Prop} (hK : ∀ k, K k → Z k) {p q : Nat} (h1 : Z p) (h2 : Z q) : Tri A (fun k => K k ∨ k = p ∨ k = q) (fun k => K k ∨ k = p ∨ k = q) U u tp tr gp lp lr g := by
  have hz : ∀ k, K k ∨ k = p ∨ k = q → Z k := fun k hk => by
    rcases hk with hk | rfl | rfl
    · exact hK k hk
    · exact h1
    · exact h2
  have hf : ∀ k, Z k → F k := by
    obtain ⟨S1, S2, T1, R1, q, _⟩ := h
    exact q.z
  exact h.less (fun k hk => hf k (hz k hk)) hz fun k hk => hk
/-- A local's block is written. -/
theorem Tri.poke (h : Tri A F Z U u tp tr gp lp lr g) {u' : World} (hf : Fr Z u u') (hA : ∀ k, U.heap.size ≤ k → A k) : Tri A F Z u' u' tp tr gp lp lr g := by
  obtain ⟨S1, S2, T1, R1, q, h1, h2, h3⟩ := h
  have hs := hf.size
  exact ⟨S1, S2, T1, R1, { q with s1 := fun k hk => ⟨by have := (q.s1 k hk).1; omega, .inl ((q.s1 k hk).2.elim id (hA k))⟩, s2 := fun k hk => ⟨by have := (q.s2 k hk).1; omega, .inl ((q.s2 k hk).2.elim id (hA k))⟩, t1 := fun k hk => ⟨by have := (q.t1 k hk).1; omega, .inl ((q.t1 k hk).2.elim id (hA k))⟩, t2 := fun k hk => hk.elim, r1 := fun k hk => by have := q.r1 k hk; omega, r2 := fun k hk => hk.elim, f := fun k hk => by have := q.f k hk; omega, fr := Fr.refl _ _ }, h1.kept hf (fun k hk h => q.s1f k hk (q.z k h)), h2.kept hf (fun k hk h => q.s2f k hk (q.z k h)), h3.kept hf (fun k hk h => q.t1f k hk (q.z k h)) fun k hk h => q.r1z k hk h⟩
/-- What may turn from here on, and no more. -/
theorem Tri.tight (h : Tri A F Z U u tp tr gp lp lr g) : ∃ A', Tri A' Z Z u u tp tr gp lp lr g ∧ (∀ k, u.heap.size ≤ k → A' k) ∧ ∀ k, k < u.heap.size → A' k → (A k ∨ U.heap.size ≤ k) ∧ ¬ F k := by
  obtain ⟨S1, S2, T1, R1, q, h⟩ := h
  refine ⟨fun k => S1 k ∨ S2 k ∨ T1 k ∨ u.heap.size ≤ k, ⟨S1, S2, T1, R1, { q with s1 := fun k hk => ⟨(q.s1 k hk).1, .inl (.inl hk)⟩, s2 := fun k hk => ⟨(q.s2 k hk).1, .inl (.inr (.inl hk))⟩, t1 := fun k hk => ⟨(q.t1 k hk).1, .inl (.inr (.inr (.inl hk)))⟩, t2 := fun k hk => hk.elim, f := fun k hk => q.f k (q.z k hk), s1f := fun k h hk => q.s1f k h (q.z k hk), s2f := fun k h hk => q.s2f k h (q.z k hk), t1f := fun k h hk => q.t1f k h (q.z k hk), t2f := fun _ h => h.elim, z := fun _ h => h, r2z := fun _ h => h.elim, fr := Fr.refl _ _ }, h⟩, fun k hk => .inr (.inr (.inr hk)), fun k hk h => ?_⟩
  rcases h with h | h | h | h
  · exact ⟨(q.s1 k h).2, q.s1f k h⟩
  · exact ⟨(q.s2 k h).2, q.s2f k h⟩
  · exact ⟨(q.t1 k h).2, q.t1f k h⟩
  · omega
/-- The evidence, its rows where nothing turns any more. -/
theorem tri_evidence {n : Nat} (h : Tri A F Z U u tp tr gp lp lr g) (hc : Cb g n) (hn : n ≤ 1000000) :
    Calls Tryz.prog 23 #[.pointer (some gp)] u fun e w' => ∃ p c q d A', e = .returned (.tuple #[.agg (ecells g.e p c q d), .bool g.ended]) ∧ Rw (fun k => k < w'.heap.size ∧ ¬ A' k) w' g.e.ack p c q d ∧ Tri A' (fun _ => False) (fun _ => False) w' w' tp tr gp lp lr g ∧ (∀ k, w'.heap.size ≤ k → A' k) ∧ (∀ k, k < w'.heap.size → A' k → k < u.heap.size ∧ (A k ∨ U.heap.size ≤ k) ∧ ¬ F k) ∧ Below u.heap.size u w' := by
  obtain ⟨S1, S2, T1, R1, q, h1, h2, h3⟩ := h
  refine (evidence_any h3 hc hn).mono fun e w' hp => ?_
  obtain ⟨p, c, q', d, he, hr, hb⟩ := hp
  have hs := hb.size
  refine ⟨p, c, q', d, fun k => S1 k ∨ S2 k ∨ T1 k ∨ w'.heap.size ≤ k, he, hr.mono fun k hk h => ⟨hk, fun h4 => ?_⟩, ⟨S1, S2, T1, R1, { q with s1 := fun k hk => ⟨by have := (q.s1 k hk).1; omega, .inl (.inl hk)⟩, s2 := fun k hk => ⟨by have := (q.s2 k hk).1; omega, .inl (.inr (.inl hk))⟩, t1 := fun k hk => ⟨by have := (q.t1 k hk).1; omega, .inl (.inr (.inr (.inl hk)))⟩, t2 := fun k hk => hk.elim, r1 := fun k hk => by have := q.r1 k hk; omega, r2 := fun k hk => hk.elim, f := fun _ hk => hk.elim, s1f := fun _ _ h => h, s2f := fun _ _ h => h, t1f := fun _ _ h => h, t2f := fun _ h => h.elim, z := fun _ h => h, r1z := fun _ _ h => h, r2z := fun _ h => h.elim, fr := Fr.refl _ _ }, h1.below hb, h2.below hb, h3.below hb⟩, fun k hk => .inr (.inr (.inr hk)), fun k hk h => ?_, hb⟩
  · rcases h with h | h
    · rcases h4 with h4 | h4 | h4 | h4
      · exact q.r1s1 k h h4
      · exact q.r1s2 k h h4
      · exact q.r1t1 k h h4
      · omega
    · rcases h4 with h4 | h4 | h4 | h4
      · have := (q.s1 k h4).1; omega
      · have := (q.s2 k h4).1; omega
      · have := (q.t1 k h4).1; omega
      · omega
  · rcases h with h | h | h | h
    · exact ⟨(q.s1 k h).1, (q.s1 k h).2, q.s1f k h⟩
    · exact ⟨(q.s2 k h).1, (q.s2 k h).2, q.s2f k h⟩
    · exact ⟨(q.t1 k h).1, (q.t1 k h).2, q.t1f k h⟩
    · omega
theorem quar_frame (h : Quar A F Z U u tp tr gp gr lp lr g r) (hn : lr.l.length ≤ 1000000) (hb : Below w.heap.size w u) {s : Sh} (hs : ShFit w s) :
    Calls Tryz.prog 14 #[.agg (shC s).toArray, .agg #[.pointer (some tp), .pointer (some ⟨tr, 0, none⟩)]] u (FPost (fun k => k < w.heap.size) u) := by
  obtain ⟨S, hS⟩ := h.rf
  exact frame_any hS hn hb hs
theorem tri_frame (h : Tri A F Z U u tp tr gp lp lr g) (hn : lr.l.length ≤ 1000000) (hb : Below w.heap.size w u) {s : Sh} (hs : ShFit w s) :
    Calls Tryz.prog 14 #[.agg (shC s).toArray, .agg #[.pointer (some tp), .pointer (some ⟨tr, 0, none⟩)]] u (FPost (fun k => k < w.heap.size) u) := by
  obtain ⟨S, hS⟩ := h.rf
  exact frame_any hS hn hb hs
end
end Go.Proofs.YtkiloaebokkjbaaGreat.Guard
