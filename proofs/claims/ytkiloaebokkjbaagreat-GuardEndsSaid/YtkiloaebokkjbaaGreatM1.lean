/-
  Several texts in one: Structs, Shots, Deeds.
-/
import Derived.Test.YtkiloaebokkjbaaGreatRow
import Derived.Deep.Fields
import Derived.Lib.SmallJoins
import Derived.Test.YtkiloaebokkjbaaGreatM2
import Derived.Test.YtkiloaebokkjbaaGreatM3
import Derived.Deep.Slices
/-
  Structs that came in by value, however many fields of one cell each they have: their values, and each field's own reading. Nothing here names a program.
-/
set_option linter.unusedSimpArgs false
set_option linter.unusedVariables false
namespace Go.Proofs.YtkiloaebokkjbaaGreat.Base
set_option linter.unusedVariables false
open Go.ChangeShapes Go.WideShapes Go.RowKit Go.Deep

section
variable {H : Type} {enc : TypeId × Value → H} {P : Program} {w : World} {base : Nat} {spare : Nat → Bool} {held : Bool}
theorem one_of {l : List Value} {j : Nat} {u : Value} (h : l[j]? = some u) : (l.drop j).take 1 = [u] := by
  obtain ⟨hlt, rfl⟩ := List.getElem?_eq_some_iff.1 h
  rw [List.drop_eq_getElem_cons hlt]
  rfl
end
end Go.Proofs.YtkiloaebokkjbaaGreat.Base

/-
  Slices of shots that came in: a number, bytes, four words, a word, a bool, a word. Nothing here names a program.
-/
set_option linter.unusedSimpArgs false
set_option linter.unusedVariables false
namespace Go.Proofs.YtkiloaebokkjbaaGreat.Base
set_option linter.unusedVariables false
open Go.ChangeShapes Go.WideShapes Go.RowKit Go.Deep
open Go.Proofs.YtkiloaebokkjbaaGreat.OctPlain (Bytes)

/-- A shot. -/
structure Sh where
  kind : Int
  pb : Option Addr
  nb : Nat
  cb : Nat
  fb : List Int
  k0 : Int
  k1 : Int
  k2 : Int
  k3 : Int
  x : Int
  right : Bool
  wt : Int
def sh0 : Sh := ⟨0, none, 0, 0, [], 0, 0, 0, 0, 0, false, 0⟩
instance : Inhabited Sh := ⟨sh0⟩
def shC (s : Sh) : List Value := [.int .i64 s.kind, .slice s.pb s.nb s.cb, .int .u16 s.k0, .int .u16 s.k1, .int .u16 s.k2, .int .u16 s.k3, .int .u64 s.x, .bool s.right, .int .u16 s.wt]
def shF (l : List Sh) : List Value := l.flatMap shC
theorem shF_len : ∀ l : List Sh, (shF l).length = l.length * 9
  | [] => rfl
  | s :: l => by
    show (shC s ++ shF l).length = _
    rw [List.length_append, shF_len l]
    simp [shC]
    omega
theorem shF_at : ∀ {l : List Sh} {i : Nat} (j : Nat), i < l.length → j < 9 → (shF l)[i * 9 + j]? = (shC (l.getD i sh0))[j]?
  | s :: l, 0, j, _, hj => by
    rw [show shF (s :: l) = shC s ++ shF l from rfl, Nat.zero_mul, Nat.zero_add, List.getElem?_append_left (by simpa [shC] using hj)]
    rfl
  | s :: l, i + 1, j, h, hj => by
    rw [show shF (s :: l) = shC s ++ shF l from rfl, show (i + 1) * 9 + j = i * 9 + j + 9 by omega, List.getElem?_append_right (by simp [shC]), show i * 9 + j + 9 - (shC s).length = i * 9 + j by simp [shC], shF_at j (by simpa using h) hj]
    rfl
/-- Shots from the pointer a on. -/
def Shots (w : World) (a : Option Addr) (l : List Sh) : Prop := Row w a (shF l)
theorem Shots.nil (w : World) (a : Option Addr) : Shots w a [] := Row.nil _ _
theorem Shots.below {w w' : World} {a : Option Addr} {l : List Sh} (h : Shots w a l) (hb : Below w.heap.size w w') : Shots w' a l := Row.below h hb
theorem Shots.at_ {w : World} {a : Option Addr} {l : List Sh} (h : Shots w a l) {i : Nat} (hi : i < l.length) :
    ∃ b off, a = some ⟨b, off, none⟩ ∧ b < w.heap.size ∧ ∀ j v, (shC (l.getD i sh0))[j]? = some v → w.cell? ⟨b, off + i * 9 + j, none⟩ = some v := by
  obtain ⟨b, off, e, hb, c0⟩ := h (i * 9 + 0) _ (shF_at 0 hi (by decide))
  refine ⟨b, off, e, hb, fun j v hv => ?_⟩
  have hj : j < 9 := by
    have := (List.getElem?_eq_some_iff.1 hv).1
    simpa [shC] using this
  obtain ⟨b', off', e', _, c⟩ := h (i * 9 + j) v (by rw [shF_at j hi hj]; exact hv)
  rw [e] at e'
  cases e'
  rw [Nat.add_assoc]
  exact c
/-- The numbers of a shot lie in their words, its bytes lie where they should. -/
structure ShFit (w : World) (s : Sh) : Prop where
  kind0 : -9223372036854775808 ≤ s.kind
  kind1 : s.kind ≤ 9223372036854775807
  len : s.fb.length = s.nb
  cap : s.nb ≤ s.cb
  max : s.cb ≤ maxLen
  row : Ints .u8 w s.pb s.fb
  byt : Bytes s.fb
  a0 : 0 ≤ s.k0
  a1 : s.k0 ≤ 65535
  b0 : 0 ≤ s.k1
  b1 : s.k1 ≤ 65535
  c0 : 0 ≤ s.k2
  c1 : s.k2 ≤ 65535
  d0 : 0 ≤ s.k3
  d1 : s.k3 ≤ 65535
  x0 : 0 ≤ s.x
  x1 : s.x ≤ 18446744073709551615
  w0 : 0 ≤ s.wt
  w1 : s.wt ≤ 65535
theorem ShFit.below {w w' : World} {s : Sh} (h : ShFit w s) (hb : Below w.heap.size w w') : ShFit w' s := { h with row := h.row.below hb }
section
variable {H : Type} {enc : TypeId × Value → H} {P : Program} {w : World} {base : Nat} {held : Bool}
theorem list9 {α : Type} {l : List α} (h : l.length = 9) : ∃ a b c d e f g i j, l = [a, b, c, d, e, f, g, i, j] := by
  match l, h with
  | [a, b, c, d, e, f, g, i, j], _ => exact ⟨a, b, c, d, e, f, g, i, j, rfl⟩
theorem open_four {k e : TypeId} {q : IntKind} {fuel : Nat} {v0 v1 v2 v3 : Value} {x : DataW H × List MemPlace} (hu : P.underlying k = some (.array 4 e)) (he : P.underlying e = some (.int q)) (one : P.cellsOf e = 1) (size : P.cellsOf k = 4)
    (hf : DataW.trod enc P w base (fun _ => true) held fuel k [v0, v1, v2, v3] = some x) :
    ∃ a b c d' : Int, v0 = .int q a ∧ v1 = .int q b ∧ v2 = .int q c ∧ v3 = .int q d' ∧ (Lit.int q a).wf = true ∧ (Lit.int q b).wf = true ∧ (Lit.int q c).wf = true ∧ (Lit.int q d').wf = true := by
  cases fuel with
  | zero => simp [DataW.trod] at hf
  | succ n =>
    rw [DataW.trod_step] at hf
    unfold DataW.trodStep at hf
    simp only [hu, size] at hf
    rw [if_pos (show [v0, v1, v2, v3].length = 4 from rfl), Option.map_eq_some_iff] at hf
    obtain ⟨xs, hx, _⟩ := hf
    rw [show List.range 4 = [0, 1, 2, 3] from rfl] at hx
    simp only [List.mapM_cons, List.mapM_nil, bind, Option.bind_eq_some_iff, pure, Option.some.injEq, one] at hx
    obtain ⟨_, h0, _, ⟨_, h1, _, ⟨_, h2, _, ⟨_, h3, _⟩, _⟩, _⟩, _⟩ := hx
    obtain ⟨x0, e0, _, w0⟩ := DataW.trod_int he h0
    obtain ⟨x1, e1, _, w1⟩ := DataW.trod_int he h1
    obtain ⟨x2, e2, _, w2⟩ := DataW.trod_int he h2
    obtain ⟨x3, e3, _, w3⟩ := DataW.trod_int he h3
    simp at e0 e1 e2 e3
    exact ⟨x0, x1, x2, x3, e0, e1, e2, e3, w0, w1, w2, w3⟩
/-- Where the fields lie, and how long each is. -/
def shotFields (P : Program) (f0 f1 f2 f3 f4 f5 : Field) : Bool := f0.offset == 0 && f1.offset == 1 && f2.offset == 2 && f3.offset == 6 && f4.offset == 7 && f5.offset == 8 && P.cellsOf f0.type == 1 && P.cellsOf f1.type == 1 && P.cellsOf f2.type == 4 && P.cellsOf f3.type == 1 && P.cellsOf f4.type == 1 && P.cellsOf f5.type == 1
/-- A slice of shots that came in. -/
theorem open_shots {t e te tk : TypeId} {f0 f1 f2 f3 f4 f5 : Field} {fuel : Nat} {cs : List Value} {x : DataW H × List MemPlace} (ht : P.underlying t = some (.slice e)) (he : P.underlying e = some (.struct #[f0, f1, f2, f3, f4, f5]))
    (hz : shotFields P f0 f1 f2 f3 f4 f5 = true) (ce : P.cellsOf e = 9)
    (u0 : P.underlying f0.type = some (.int .i64)) (u1 : P.underlying f1.type = some (.slice te)) (ue : P.underlying te = some (.int .u8)) (cte : P.cellsOf te = 1) (u2 : P.underlying f2.type = some (.array 4 tk)) (uk : P.underlying tk = some (.int .u16)) (ck : P.cellsOf tk = 1)
    (u3 : P.underlying f3.type = some (.int .u64)) (u4 : P.underlying f4.type = some .bool) (u5 : P.underlying f5.type = some (.int .u16)) (h : DataW.trod enc P w base (fun _ => true) held fuel t cs = some x) :
    (cs = [.slice none 0 0] ∧ x = (.nil, [])) ∨
    ∃ (a : Addr) (len cap : Nat) (zs : List Sh), cs = [.slice (some a) len cap] ∧ len ≤ cap ∧ cap ≤ maxLen ∧ zs.length = len ∧ Shots w (some a) zs ∧ ∀ s ∈ zs, ShFit w s := by
  unfold shotFields at hz
  simp only [Bool.and_eq_true, beq_iff_eq] at hz
  obtain ⟨⟨⟨⟨⟨⟨⟨⟨⟨⟨⟨o0, o1⟩, o2⟩, o3⟩, o4⟩, o5⟩, z0⟩, z1⟩, z2⟩, z3⟩, z4⟩, z5⟩ := hz
  rcases open_slice ht h with h0 | ⟨a, len, cap, m, n, D, Pl, rfl, hb, hl, hm, hmm, rfl, hx⟩
  · exact Or.inl h0
  right
  simp only [if_true] at hmm
  subst hmm
  have each : ∀ i, i < len → ∃ s : Sh, (∀ j v, (shC s)[j]? = some v → w.cell? (a.add (i * 9 + j)) = some v) ∧ ShFit w s := fun i hi => by
    obtain ⟨vs, h1, h2⟩ := hx i (by omega)
    rw [ce] at h1
    obtain ⟨_, hlen, hcell⟩ := World.cells?_some h1
    obtain ⟨ys, k, hk, hxy, _, hxl, hf⟩ := DataW.trod_struct he h2
    obtain ⟨v0, v1, v2, v3, v4, v5, v6, v7, v8, rfl⟩ := list9 hlen
    have g (j : Nat) (f : Field) (hj : (#[f0, f1, f2, f3, f4, f5] : Array Field)[j]? = some f) : ∃ y, DataW.trod enc P w base (fun _ => true) held k f.type (([v0, v1, v2, v3, v4, v5, v6, v7, v8].drop f.offset).take (P.cellsOf f.type)) = some y := by
      have h3 := hf j f hj
      have hjl : j < ys.length := by
        have := (Array.getElem?_eq_some_iff.1 hj).1
        rw [hxl]
        simpa using this
      exact ⟨_, h3.trans (List.getElem?_eq_getElem hjl)⟩
    obtain ⟨y0, t0⟩ := g 0 f0 rfl
    obtain ⟨y1, t1⟩ := g 1 f1 rfl
    obtain ⟨y2, t2⟩ := g 2 f2 rfl
    obtain ⟨y3, t3⟩ := g 3 f3 rfl
    obtain ⟨y4, t4⟩ := g 4 f4 rfl
    obtain ⟨y5, t5⟩ := g 5 f5 rfl
    rw [o0, z0] at t0
    rw [o1, z1] at t1
    rw [o2, z2] at t2
    rw [o3, z3] at t3
    rw [o4, z4] at t4
    rw [o5, z5] at t5
    simp only [List.drop_succ_cons, List.drop_zero, List.take_succ_cons, List.take_zero] at t0 t1 t2 t3 t4 t5
    obtain ⟨n0, g0, _, w0⟩ := DataW.trod_int u0 t0
    obtain ⟨n3, g3, _, w3⟩ := DataW.trod_int u3 t3
    obtain ⟨n4, g4, _⟩ := DataW.trod_bool u4 t4
    obtain ⟨n5, g5, _, w5⟩ := DataW.trod_int u5 t5
    obtain ⟨q0, q1, q2, q3, e0, e1, e2, e3, s0, s1, s2, s3⟩ := open_four u2 uk ck z2 t2
    injection g0 with g0
    injection g3 with g3
    injection g4 with g4
    injection g5 with g5
    subst g0 g3 g4 g5 e0 e1 e2 e3
    have fin : ∀ (pb : Option Addr) (nb cb : Nat) (fb : List Int), v1 = .slice pb nb cb → fb.length = nb → nb ≤ cb → cb ≤ maxLen → Ints .u8 w pb fb → Bytes fb → ∃ s : Sh, (∀ j v, (shC s)[j]? = some v → w.cell? (a.add (i * 9 + j)) = some v) ∧ ShFit w s := fun pb nb cb fb hv e1 e2 e3 e4 e5 => by
      subst hv
      refine ⟨⟨n0, pb, nb, cb, fb, q0, q1, q2, q3, n3, n4, n5⟩, fun j v hv => ?_, (i64_of w0).1, (i64_of w0).2, e1, e2, e3, e4, e5, (u16_of s0).1, (u16_of s0).2, (u16_of s1).1, (u16_of s1).2, (u16_of s2).1, (u16_of s2).2, (u16_of s3).1, (u16_of s3).2, (u64_of w3).1, (u64_of w3).2, (u16_of w5).1, (u16_of w5).2⟩
      have hj : j < 9 := by
        have := (List.getElem?_eq_some_iff.1 hv).1
        simpa [shC] using this
      have := hcell j hj
      rw [add_add] at this
      rw [this]
      exact hv
    rcases open_ints u1 ue cte t1 with ⟨hcs, _⟩ | ⟨xx, l1, c1, zs, hcs, _, hle, hm1, hz1, _, hc1, hwz⟩
    · injection hcs with hcs
      exact fin none 0 0 [] hcs rfl (Nat.le_refl _) (Nat.zero_le _) (Ints.nil _ _ _) Bytes.nil
    · injection hcs with hcs
      exact fin (some xx) l1 c1 (zs.take l1) hcs (take_len hle (by simpa using hz1)) hle hm1 (ints_of hle (by simpa using hz1) hc1) (fun y hy => u8_of (hwz y (List.mem_of_mem_take hy)))
  obtain ⟨Z, hZ⟩ := choose_lt each
  refine ⟨a, len, _, (List.range len).map Z, rfl, hl, hm, by simp, fun j u hj => ?_, fun s hs => ?_⟩
  · have hjl : j < len * 9 := by
      have := (List.getElem?_eq_some_iff.1 hj).1
      rw [shF_len] at this
      simpa using this
    obtain ⟨i, k, hk, rfl⟩ : ∃ i k, k < 9 ∧ j = i * 9 + k := ⟨j / 9, j % 9, by omega, by omega⟩
    have hil : i < len := by omega
    rw [shF_at k (by simpa using hil) hk] at hj
    rw [show ((List.range len).map Z).getD i sh0 = Z i by simp [List.getD, hil]] at hj
    have hc := (hZ i hil).1 k u hj
    obtain ⟨b, off, spot⟩ := a
    have hspot : spot = none := by
      have := World.cell?_spot ((hZ 0 (by omega)).1 0 _ rfl)
      simpa [Addr.add] using this
    subst hspot
    rw [add_plain] at hc
    exact ⟨b, off, rfl, World.block_lt_of_cell? w _ hc, hc⟩
  · obtain ⟨i, hi', rfl⟩ := List.mem_map.1 hs
    exact (hZ i (List.mem_range.1 hi')).2
end
end Go.Proofs.YtkiloaebokkjbaaGreat.Base

/-
  Slices of structs of one-cell fields that came in; deeds (an int and two words). Nothing here names a program.
-/
set_option linter.unusedSimpArgs false
set_option linter.unusedVariables false
namespace Go.Proofs.YtkiloaebokkjbaaGreat.Base
set_option linter.unusedVariables false
open Go.ChangeShapes Go.WideShapes Go.RowKit Go.Deep
section
variable {H : Type} {enc : TypeId × Value → H} {P : Program} {w : World} {base : Nat} {held : Bool}
/-- A slice of such structs: each element's cells, and each field's own reading. -/
theorem open_slice_structs {t e : TypeId} {fs : Array Field} {fuel : Nat} {cs : List Value} {x : DataW H × List MemPlace} (ht : P.underlying t = some (.slice e)) (he : P.underlying e = some (.struct fs)) (hone : oneCellFields P fs = true) (ce : P.cellsOf e = fs.size)
    (h : DataW.trod enc P w base (fun _ => true) held fuel t cs = some x) :
    (cs = [.slice none 0 0] ∧ x = (.nil, [])) ∨
    ∃ (a : Addr) (len cap : Nat) (E S : List (DataW H)), cs = [.slice (some a) len cap] ∧ len ≤ cap ∧ cap ≤ maxLen ∧ x.1 = .slice E S ∧ E.length = len ∧ S.length = cap - len ∧
      ∀ i, i < cap → ∃ (vs : List Value) (ys : List (DataW H × List MemPlace)) (n : Nat), vs.length = fs.size ∧ (∀ (j : Nat) (v : Value), vs[j]? = some v → w.cell? (a.add (i * fs.size + j)) = some v) ∧
        ∀ (j : Nat) (f : Field), fs[j]? = some f → ∃ (u : Value) (y : DataW H × List MemPlace), vs[j]? = some u ∧ ys[j]? = some y ∧ DataW.trod enc P w base (fun _ => true) held n f.type [u] = some y := by
  rcases open_slice ht h with h0 | ⟨a, len, cap, m, n, D, Pl, rfl, hb, hl, hm, hmm, rfl, hx⟩
  · exact Or.inl h0
  right
  simp only [if_true] at hmm
  subst hmm
  refine ⟨a, len, m, _, _, rfl, hl, hm, rfl, by simp, by simp, fun i hi => ?_⟩
  obtain ⟨vs, h1, h2⟩ := hx i hi
  rw [ce] at h1
  obtain ⟨_, hlen, hcell⟩ := World.cells?_some h1
  obtain ⟨ys, k, hk, hxy, _, hxl, hf⟩ := DataW.trod_struct he h2
  refine ⟨vs, ys, k, hlen, fun j v hj => ?_, fun j f hj => ?_⟩
  · have hjl : j < vs.length := (List.getElem?_eq_some_iff.1 hj).1
    have := hcell j (by omega)
    rw [add_add] at this
    rw [this]
    exact hj
  · obtain ⟨o, c⟩ := hone_of hone j f hj
    have hjl : j < fs.size := (Array.getElem?_eq_some_iff.1 hj).1
    have hv : vs[j]? = some vs[j] := List.getElem?_eq_getElem (by omega)
    have hy : ys[j]? = some ys[j] := List.getElem?_eq_getElem (by omega)
    refine ⟨_, _, hv, hy, ?_⟩
    have := hf j f hj
    rw [o, c, one_of hv, hy] at this
    exact this
end
/-- A deed's numbers. -/
abbrev Dd := Int × Int × Int
def dcells (d : Dd) : List Value := [.int .i64 d.1, .int .u64 d.2.1, .int .u64 d.2.2]
def dflat (l : List Dd) : List Value := l.flatMap dcells
theorem dflat_len : ∀ l : List Dd, (dflat l).length = l.length * 3
  | [] => rfl
  | s :: l => by
    show (dcells s ++ dflat l).length = _
    rw [List.length_append, dflat_len l]
    simp [dcells]
    omega
theorem dflat_at : ∀ {l : List Dd} {i : Nat} (j : Nat), i < l.length → j < 3 → (dflat l)[i * 3 + j]? = (dcells (l.getD i (0, 0, 0)))[j]?
  | s :: l, 0, j, _, hj => by
    rw [show dflat (s :: l) = dcells s ++ dflat l from rfl, Nat.zero_mul, Nat.zero_add, List.getElem?_append_left (by simpa [dcells] using hj)]
    rfl
  | s :: l, i + 1, j, h, hj => by
    rw [show dflat (s :: l) = dcells s ++ dflat l from rfl, show (i + 1) * 3 + j = i * 3 + j + 3 by omega, List.getElem?_append_right (by simp [dcells]), show i * 3 + j + 3 - (dcells s).length = i * 3 + j by simp [dcells], dflat_at j (by simpa using h) hj]
    rfl
/-- Deeds from the pointer a on. -/
def Deeds (w : World) (a : Option Addr) (l : List Dd) : Prop := Row w a (dflat l)
theorem Deeds.nil (w : World) (a : Option Addr) : Deeds w a [] := Row.nil _ _
theorem Deeds.below {w w' : World} {a : Option Addr} {l : List Dd} (h : Deeds w a l) (hb : Below w.heap.size w w') : Deeds w' a l := Row.below h hb
theorem Deeds.at_ {w : World} {a : Option Addr} {l : List Dd} (h : Deeds w a l) {i : Nat} (hi : i < l.length) :
    ∃ b off, a = some ⟨b, off, none⟩ ∧ b < w.heap.size ∧ w.cell? ⟨b, off + i * 3, none⟩ = some (.int .i64 (l.getD i (0, 0, 0)).1) ∧ w.cell? ⟨b, off + i * 3 + 1, none⟩ = some (.int .u64 (l.getD i (0, 0, 0)).2.1) ∧ w.cell? ⟨b, off + i * 3 + 2, none⟩ = some (.int .u64 (l.getD i (0, 0, 0)).2.2) := by
  obtain ⟨b, off, rfl, hb, c0⟩ := h (i * 3 + 0) _ (dflat_at 0 hi (by decide))
  obtain ⟨_, _, e1, _, c1⟩ := h (i * 3 + 1) _ (dflat_at 1 hi (by decide))
  cases e1
  obtain ⟨_, _, e2, _, c2⟩ := h (i * 3 + 2) _ (dflat_at 2 hi (by decide))
  cases e2
  exact ⟨b, off, rfl, hb, c0, by rw [Nat.add_assoc]; exact c1, by rw [Nat.add_assoc]; exact c2⟩
def intV : Value → Int
  | .int _ n => n
  | _ => 0
/-- The numbers are words. -/
def Fit (d : Dd) : Prop := (Lit.int .i64 d.1).wf = true ∧ (Lit.int .u64 d.2.1).wf = true ∧ (Lit.int .u64 d.2.2).wf = true
section
variable {H : Type} {enc : TypeId × Value → H} {P : Program} {w : World} {base : Nat} {held : Bool}
/-- A slice of deeds that came in. -/
theorem open_deeds {t e : TypeId} {f0 f1 f2 : Field} {fuel : Nat} {cs : List Value} {x : DataW H × List MemPlace} (ht : P.underlying t = some (.slice e)) (he : P.underlying e = some (.struct #[f0, f1, f2])) (hone : oneCellFields P #[f0, f1, f2] = true) (ce : P.cellsOf e = 3)
    (u0 : P.underlying f0.type = some (.int .i64)) (u1 : P.underlying f1.type = some (.int .u64)) (u2 : P.underlying f2.type = some (.int .u64)) (h : DataW.trod enc P w base (fun _ => true) held fuel t cs = some x) :
    (cs = [.slice none 0 0] ∧ x = (.nil, [])) ∨
    ∃ (a : Addr) (len cap : Nat) (zs : List Dd) (E S : List (DataW H)), cs = [.slice (some a) len cap] ∧ len ≤ cap ∧ cap ≤ maxLen ∧ zs.length = len ∧ x.1 = .slice E S ∧ E.length = len ∧ S.length = cap - len ∧ Deeds w (some a) zs ∧ ∀ d ∈ zs, Fit d := by
  rcases open_slice_structs ht he hone ce h with h0 | ⟨a, len, cap, E, S, rfl, hl, hm, hx, hE, hS, hi⟩
  · exact Or.inl h0
  right
  have each : ∀ i, i < cap → ∃ d : Dd, w.cell? (a.add (i * 3)) = some (.int .i64 d.1) ∧ w.cell? (a.add (i * 3 + 1)) = some (.int .u64 d.2.1) ∧ w.cell? (a.add (i * 3 + 2)) = some (.int .u64 d.2.2) ∧ Fit d := fun i hc => by
    obtain ⟨vs, ys, n, hv, hcell, hf⟩ := hi i hc
    obtain ⟨v0, y0, e0, _, t0⟩ := hf 0 f0 rfl
    obtain ⟨n0, g0, _, w0⟩ := DataW.trod_int u0 t0
    obtain ⟨v1, y1, e1, _, t1⟩ := hf 1 f1 rfl
    obtain ⟨n1, g1, _, w1⟩ := DataW.trod_int u1 t1
    obtain ⟨v2, y2, e2, _, t2⟩ := hf 2 f2 rfl
    obtain ⟨n2, g2, _, w2⟩ := DataW.trod_int u2 t2
    injection g0 with g0
    injection g1 with g1
    injection g2 with g2
    subst g0 g1 g2
    exact ⟨(n0, n1, n2), hcell 0 _ e0, hcell 1 _ e1, hcell 2 _ e2, w0, w1, w2⟩
  have he0 : ∀ i, i < cap → ∃ d : Dd, d = (intV ((w.cell? (a.add (i * 3))).getD undef), intV ((w.cell? (a.add (i * 3 + 1))).getD undef), intV ((w.cell? (a.add (i * 3 + 2))).getD undef)) ∧ w.cell? (a.add (i * 3)) = some (.int .i64 d.1) ∧ w.cell? (a.add (i * 3 + 1)) = some (.int .u64 d.2.1) ∧ w.cell? (a.add (i * 3 + 2)) = some (.int .u64 d.2.2) ∧ Fit d := fun i hc => by
    obtain ⟨d, h1, h2, h3, h4⟩ := each i hc
    exact ⟨d, by rw [h1, h2, h3]; rfl, h1, h2, h3, h4⟩
  refine ⟨a, len, cap, (List.range len).map fun i => (intV ((w.cell? (a.add (i * 3))).getD undef), intV ((w.cell? (a.add (i * 3 + 1))).getD undef), intV ((w.cell? (a.add (i * 3 + 2))).getD undef)), E, S, rfl, hl, hm, by simp, hx, hE, hS, ?_, ?_⟩
  · intro j u hj
    have hjl : j < len * 3 := by
      have := (List.getElem?_eq_some_iff.1 hj).1
      rw [dflat_len] at this
      simpa using this
    obtain ⟨b, off, spot⟩ := a
    have hspot : spot = none := by
      obtain ⟨d, _, h1, _⟩ := he0 0 (by omega)
      simpa [Addr.add] using World.cell?_spot h1
    subst hspot
    obtain ⟨i, k, hk, rfl⟩ : ∃ i k, k < 3 ∧ j = i * 3 + k := ⟨j / 3, j % 3, by omega, by omega⟩
    have hil : i < len := by omega
    rw [dflat_at k (by simpa using hil) hk] at hj
    obtain ⟨d, ed, h1, h2, h3, _⟩ := he0 i (by omega)
    have hd : ((List.range len).map fun i => (intV ((w.cell? ((⟨b, off, none⟩ : Addr).add (i * 3))).getD undef), intV ((w.cell? ((⟨b, off, none⟩ : Addr).add (i * 3 + 1))).getD undef), intV ((w.cell? ((⟨b, off, none⟩ : Addr).add (i * 3 + 2))).getD undef))).getD i (0, 0, 0) = d := by
      rw [ed]
      simp [List.getD, hil]
    rw [hd] at hj
    have fin : ∀ v, w.cell? ((⟨b, off, none⟩ : Addr).add (i * 3 + k)) = some v → (dcells d)[k]? = some v → ∃ b' off', some (⟨b, off, none⟩ : Addr) = some ⟨b', off', none⟩ ∧ b' < w.heap.size ∧ w.cell? ⟨b', off' + (i * 3 + k), none⟩ = some u := fun v hv hk2 => by
      rw [hk2] at hj
      injection hj with hj
      subst hj
      rw [add_plain] at hv
      exact ⟨b, off, rfl, World.block_lt_of_cell? w _ hv, hv⟩
    match k, hk with
    | 0, _ => exact fin _ h1 rfl
    | 1, _ => exact fin _ h2 rfl
    | 2, _ => exact fin _ h3 rfl
  · intro d hd
    obtain ⟨i, hi', rfl⟩ := List.mem_map.1 hd
    obtain ⟨d, ed, _, _, _, hF⟩ := he0 i (by have := List.mem_range.1 hi'; omega)
    rw [← ed]
    exact hF
end
end Go.Proofs.YtkiloaebokkjbaaGreat.Base
