/-
  Slices of structs of one-cell fields that came in; deeds (an int and two words). Nothing here names a program.
-/
import Derived.Test.YtoncominjgkjoaaStructs
import Derived.Test.YtoncominjgkjoaaFr
import Derived.Deep.Slices
import Derived.Deep.Fields
set_option linter.unusedSimpArgs false
set_option linter.unusedVariables false
namespace Go.Proofs.Ytoncominjgkjoaa.Base
set_option linter.unusedVariables false
open Go.ChangeShapes Go.WideShapes Go.RowKit Go.Deep
section
variable {H : Type} {enc : TypeId × Value → H} {P : Program} {w : World} {base : Nat} {held : Bool}
/-- A slice of such structs: each element's cells, and each field's own reading. -/
theorem open_slice_structs {t e : TypeId} {fs : Array Field} {fuel : Nat} {cs : List Value} {x : DataW H × List MemPlace} (ht : P.underlying t = some (.slice e)) (he : P.underlying e = some (.struct fs)) (hone : oneCellFields P fs = true) (ce : P.cellsOf e = fs.size)
    (h : DataW.trod enc P w base (fun _ => true) held fuel t cs = some x) :
    (cs = [.slice none 0 0] ∧ x = (.nil, [])) ∨
    ∃ (a : Addr) (len cap : Nat) (E S : List (DataW H)), cs = [.slice (some a) len cap] ∧ len ≤ cap ∧ cap ≤ maxLen ∧ x.1 = .slice E S ∧ E.length = len ∧ S.length = cap - len ∧
      ∀ i, i < cap → ∃ (vs : List Value) (ys : List (DataW H × List MemPlace)) (n : Nat), vs.length = fs.size ∧ (∀ (j : Nat) (v : Value), vs[j]? = some v → w.cell? (a.add (i * fs.size + j)) = some v) ∧
        ∀ (j : Nat) (f : Field), fs[j]? = some f → ∃ (u : Value) (y : DataW H × List MemPlace), vs[j]? = some u ∧ ys[j]? = some y ∧ DataW.trod enc P w base (fun _ => true) held n f.type [u] = some y := by
  rcases open_slice ht h with h0 | ⟨a, len, cap, m, n, D, Pl, rfl, hb, hl, hm, hmm, rfl, hx⟩
  · exact Or.inl h0
  right
  simp only [if_true] at hmm
  subst hmm
  refine ⟨a, len, m, _, _, rfl, hl, hm, rfl, by simp, by simp, fun i hi => ?_⟩
  obtain ⟨vs, h1, h2⟩ := hx i hi
  rw [ce] at h1
  obtain ⟨_, hlen, hcell⟩ := World.cells?_some h1
  obtain ⟨ys, k, hk, hxy, _, hxl, hf⟩ := DataW.trod_struct he h2
  refine ⟨vs, ys, k, hlen, fun j v hj => ?_, fun j f hj => ?_⟩
  · have hjl : j < vs.length := (List.getElem?_eq_some_iff.1 hj).1
    have := hcell j (by omega)
    rw [add_add] at this
    rw [this]
    exact hj
  · obtain ⟨o, c⟩ := hone_of hone j f hj
    have hjl : j < fs.size := (Array.getElem?_eq_some_iff.1 hj).1
    have hv : vs[j]? = some vs[j] := List.getElem?_eq_getElem (by omega)
    have hy : ys[j]? = some ys[j] := List.getElem?_eq_getElem (by omega)
    refine ⟨_, _, hv, hy, ?_⟩
    have := hf j f hj
    rw [o, c, one_of hv, hy] at this
    exact this
end
/-- A deed's numbers. -/
abbrev Dd := Int × Int × Int
def dcells (d : Dd) : List Value := [.int .i64 d.1, .int .u64 d.2.1, .int .u64 d.2.2]
def dflat (l : List Dd) : List Value := l.flatMap dcells
theorem dflat_len : ∀ l : List Dd, (dflat l).length = l.length * 3
  | [] => rfl
  | s :: l => by
    show (dcells s ++ dflat l).length = _
    rw [List.length_append, dflat_len l]
    simp [dcells]
    omega
theorem dflat_at : ∀ {l : List Dd} {i : Nat} (j : Nat), i < l.length → j < 3 → (dflat l)[i * 3 + j]? = (dcells (l.getD i (0, 0, 0)))[j]?
  | s :: l, 0, j, _, hj => by
    rw [show dflat (s :: l) = dcells s ++ dflat l from rfl, Nat.zero_mul, Nat.zero_add, List.getElem?_append_left (by simpa [dcells] using hj)]
    rfl
  | s :: l, i + 1, j, h, hj => by
    rw [show dflat (s :: l) = dcells s ++ dflat l from rfl, show (i + 1) * 3 + j = i * 3 + j + 3 by omega, List.getElem?_append_right (by simp [dcells]), show i * 3 + j + 3 - (dcells s).length = i * 3 + j by simp [dcells], dflat_at j (by simpa using h) hj]
    rfl
/-- Deeds from the pointer a on. -/
def Deeds (w : World) (a : Option Addr) (l : List Dd) : Prop := Row w a (dflat l)
theorem Deeds.nil (w : World) (a : Option Addr) : Deeds w a [] := Row.nil _ _
theorem Deeds.below {w w' : World} {a : Option Addr} {l : List Dd} (h : Deeds w a l) (hb : Below w.heap.size w w') : Deeds w' a l := Row.below h hb
theorem Deeds.at_ {w : World} {a : Option Addr} {l : List Dd} (h : Deeds w a l) {i : Nat} (hi : i < l.length) :
    ∃ b off, a = some ⟨b, off, none⟩ ∧ b < w.heap.size ∧ w.cell? ⟨b, off + i * 3, none⟩ = some (.int .i64 (l.getD i (0, 0, 0)).1) ∧ w.cell? ⟨b, off + i * 3 + 1, none⟩ = some (.int .u64 (l.getD i (0, 0, 0)).2.1) ∧ w.cell? ⟨b, off + i * 3 + 2, none⟩ = some (.int .u64 (l.getD i (0, 0, 0)).2.2) := by
  obtain ⟨b, off, rfl, hb, c0⟩ := h (i * 3 + 0) _ (dflat_at 0 hi (by decide))
  obtain ⟨_, _, e1, _, c1⟩ := h (i * 3 + 1) _ (dflat_at 1 hi (by decide))
  cases e1
  obtain ⟨_, _, e2, _, c2⟩ := h (i * 3 + 2) _ (dflat_at 2 hi (by decide))
  cases e2
  exact ⟨b, off, rfl, hb, c0, by rw [Nat.add_assoc]; exact c1, by rw [Nat.add_assoc]; exact c2⟩
def intV : Value → Int
  | .int _ n => n
  | _ => 0
/-- The numbers are words. -/
def Fit (d : Dd) : Prop := (Lit.int .i64 d.1).wf = true ∧ (Lit.int .u64 d.2.1).wf = true ∧ (Lit.int .u64 d.2.2).wf = true
section
variable {H : Type} {enc : TypeId × Value → H} {P : Program} {w : World} {base : Nat} {held : Bool}
/-- A slice of deeds that came in. -/
theorem open_deeds {t e : TypeId} {f0 f1 f2 : Field} {fuel : Nat} {cs : List Value} {x : DataW H × List MemPlace} (ht : P.underlying t = some (.slice e)) (he : P.underlying e = some (.struct #[f0, f1, f2])) (hone : oneCellFields P #[f0, f1, f2] = true) (ce : P.cellsOf e = 3)
    (u0 : P.underlying f0.type = some (.int .i64)) (u1 : P.underlying f1.type = some (.int .u64)) (u2 : P.underlying f2.type = some (.int .u64)) (h : DataW.trod enc P w base (fun _ => true) held fuel t cs = some x) :
    (cs = [.slice none 0 0] ∧ x = (.nil, [])) ∨
    ∃ (a : Addr) (len cap : Nat) (zs : List Dd) (E S : List (DataW H)), cs = [.slice (some a) len cap] ∧ len ≤ cap ∧ cap ≤ maxLen ∧ zs.length = len ∧ x.1 = .slice E S ∧ E.length = len ∧ S.length = cap - len ∧ Deeds w (some a) zs ∧ ∀ d ∈ zs, Fit d := by
  rcases open_slice_structs ht he hone ce h with h0 | ⟨a, len, cap, E, S, rfl, hl, hm, hx, hE, hS, hi⟩
  · exact Or.inl h0
  right
  have each : ∀ i, i < cap → ∃ d : Dd, w.cell? (a.add (i * 3)) = some (.int .i64 d.1) ∧ w.cell? (a.add (i * 3 + 1)) = some (.int .u64 d.2.1) ∧ w.cell? (a.add (i * 3 + 2)) = some (.int .u64 d.2.2) ∧ Fit d := fun i hc => by
    obtain ⟨vs, ys, n, hv, hcell, hf⟩ := hi i hc
    obtain ⟨v0, y0, e0, _, t0⟩ := hf 0 f0 rfl
    obtain ⟨n0, g0, _, w0⟩ := DataW.trod_int u0 t0
    obtain ⟨v1, y1, e1, _, t1⟩ := hf 1 f1 rfl
    obtain ⟨n1, g1, _, w1⟩ := DataW.trod_int u1 t1
    obtain ⟨v2, y2, e2, _, t2⟩ := hf 2 f2 rfl
    obtain ⟨n2, g2, _, w2⟩ := DataW.trod_int u2 t2
    injection g0 with g0
    injection g1 with g1
    injection g2 with g2
    subst g0 g1 g2
    exact ⟨(n0, n1, n2), hcell 0 _ e0, hcell 1 _ e1, hcell 2 _ e2, w0, w1, w2⟩
  have he0 : ∀ i, i < cap → ∃ d : Dd, d = (intV ((w.cell? (a.add (i * 3))).getD undef), intV ((w.cell? (a.add (i * 3 + 1))).getD undef), intV ((w.cell? (a.add (i * 3 + 2))).getD undef)) ∧ w.cell? (a.add (i * 3)) = some (.int .i64 d.1) ∧ w.cell? (a.add (i * 3 + 1)) = some (.int .u64 d.2.1) ∧ w.cell? (a.add (i * 3 + 2)) = some (.int .u64 d.2.2) ∧ Fit d := fun i hc => by
    obtain ⟨d, h1, h2, h3, h4⟩ := each i hc
    exact ⟨d, by rw [h1, h2, h3]; rfl, h1, h2, h3, h4⟩
  refine ⟨a, len, cap, (List.range len).map fun i => (intV ((w.cell? (a.add (i * 3))).getD undef), intV ((w.cell? (a.add (i * 3 + 1))).getD undef), intV ((w.cell? (a.add (i * 3 + 2))).getD undef)), E, S, rfl, hl, hm, by simp, hx, hE, hS, ?_, ?_⟩
  · intro j u hj
    have hjl : j < len * 3 := by
      have := (List.getElem?_eq_some_iff.1 hj).1
      rw [dflat_len] at this
      simpa using this
    obtain ⟨b, off, spot⟩ := a
    have hspot : spot = none := by
      obtain ⟨d, _, h1, _⟩ := he0 0 (by omega)
      simpa [Addr.add] using World.cell?_spot h1
    subst hspot
    obtain ⟨i, k, hk, rfl⟩ : ∃ i k, k < 3 ∧ j = i * 3 + k := ⟨j / 3, j % 3, by omega, by omega⟩
    have hil : i < len := by omega
    rw [dflat_at k (by simpa using hil) hk] at hj
    obtain ⟨d, ed, h1, h2, h3, _⟩ := he0 i (by omega)
    have hd : ((List.range len).map fun i => (intV ((w.cell? ((⟨b, off, none⟩ : Addr).add (i * 3))).getD undef), intV ((w.cell? ((⟨b, off, none⟩ : Addr).add (i * 3 + 1))).getD undef), intV ((w.cell? ((⟨b, off, none⟩ : Addr).add (i * 3 + 2))).getD undef))).getD i (0, 0, 0) = d := by
      rw [ed]
      simp [List.getD, hil]
    rw [hd] at hj
    have fin : ∀ v, w.cell? ((⟨b, off, none⟩ : Addr).add (i * 3 + k)) = some v → (dcells d)[k]? = some v → ∃ b' off', some (⟨b, off, none⟩ : Addr) = some ⟨b', off', none⟩ ∧ b' < w.heap.size ∧ w.cell? ⟨b', off' + (i * 3 + k), none⟩ = some u := fun v hv hk2 => by
      rw [hk2] at hj
      injection hj with hj
      subst hj
      rw [add_plain] at hv
      exact ⟨b, off, rfl, World.block_lt_of_cell? w _ hv, hv⟩
    match k, hk with
    | 0, _ => exact fin _ h1 rfl
    | 1, _ => exact fin _ h2 rfl
    | 2, _ => exact fin _ h3 rfl
  · intro d hd
    obtain ⟨i, hi', rfl⟩ := List.mem_map.1 hd
    obtain ⟨d, ed, _, _, _, hF⟩ := he0 i (by have := List.mem_range.1 hi'; omega)
    rw [← ed]
    exact hF
end
end Go.Proofs.Ytoncominjgkjoaa.Base
