/-
  Plain data that came in, whatever its type: the cells of numbers, bools and rows of numbers, of structs and arrays of such, and slices of them. Nothing here names a program.
-/
import Derived.Test.YtbamdilihpnhjaaStructs
import Derived.Deep.Slices
import Derived.Deep.Fields
set_option linter.unusedSimpArgs false
set_option linter.unusedVariables false
namespace Go.Proofs.Ytbamdilihpnhjaa.Base
set_option linter.unusedVariables false
open Go.ChangeShapes Go.WideShapes Go.RowKit Go.Deep

/-- What one cell of plain data holds: a number, a bool, a row of numbers. -/
inductive FK where
  | int (q : IntKind)
  | bool
  | row (q : IntKind)
def FK.fits (w : World) : FK → Value → Prop
  | .int q, v => ∃ n : Int, v = .int q n ∧ (Lit.int q n).wf = true
  | .bool, v => ∃ b : Bool, v = .bool b
  | .row q, v => ∃ (a : Option Addr) (n c : Nat) (l : List Int), v = .slice a n c ∧ l.length = n ∧ n ≤ c ∧ c ≤ maxLen ∧ (a = none → n = 0 ∧ c = 0) ∧ Ints q w a l ∧ ∀ x ∈ l, (Lit.int q x).wf = true
theorem FK.fits.below {w w' : World} (hb : Below w.heap.size w w') : ∀ {k : FK} {v : Value}, k.fits w v → k.fits w' v
  | .int _, _, h => h
  | .bool, _, h => h
  | .row _, _, ⟨a, n, c, l, h1, h2, h3, h4, h5, h6, h7⟩ => ⟨a, n, c, l, h1, h2, h3, h4, h5, h6.below hb, h7⟩
/-- Cells that hold plain data of these kinds, one for one. -/
def Flat (w : World) : List FK → List Value → Prop
  | [], [] => True
  | k :: ks, v :: vs => k.fits w v ∧ Flat w ks vs
  | _, _ => False
theorem Flat.below {w w' : World} (hb : Below w.heap.size w w') : ∀ {ks : List FK} {vs : List Value}, Flat w ks vs → Flat w' ks vs
  | [], [], _ => trivial
  | _ :: _, _ :: _, ⟨h1, h2⟩ => ⟨h1.below hb, Flat.below hb h2⟩
theorem Flat.len {w : World} : ∀ {ks : List FK} {vs : List Value}, Flat w ks vs → vs.length = ks.length
  | [], [], _ => rfl
  | _ :: ks, _ :: vs, ⟨_, h2⟩ => by rw [List.length_cons, List.length_cons, Flat.len h2]
theorem Flat.append {w : World} : ∀ {ks ls : List FK} {vs us : List Value}, Flat w ks vs → Flat w ls us → Flat w (ks ++ ls) (vs ++ us)
  | [], _, [], _, _, h => h
  | _ :: _, _, _ :: _, _, ⟨h1, h2⟩, h => ⟨h1, Flat.append h2 h⟩
theorem Flat.cons_ {w : World} {k : FK} {ks : List FK} {vs : List Value} (h : Flat w (k :: ks) vs) : ∃ v us, vs = v :: us ∧ k.fits w v ∧ Flat w ks us := by
  match vs, h with
  | v :: us, ⟨h1, h2⟩ => exact ⟨v, us, rfl, h1, h2⟩
theorem Flat.nil_ {w : World} {vs : List Value} (h : Flat w [] vs) : vs = [] := by
  match vs, h with
  | [], _ => rfl
theorem Flat.int_ {w : World} {q : IntKind} {ks : List FK} {vs : List Value} (h : Flat w (.int q :: ks) vs) : ∃ (n : Int) (us : List Value), vs = .int q n :: us ∧ (Lit.int q n).wf = true ∧ Flat w ks us := by
  obtain ⟨v, us, rfl, ⟨n, rfl, hn⟩, h2⟩ := h.cons_
  exact ⟨n, us, rfl, hn, h2⟩
theorem Flat.bool_ {w : World} {ks : List FK} {vs : List Value} (h : Flat w (.bool :: ks) vs) : ∃ (b : Bool) (us : List Value), vs = .bool b :: us ∧ Flat w ks us := by
  obtain ⟨v, us, rfl, ⟨n, rfl⟩, h2⟩ := h.cons_
  exact ⟨n, us, rfl, h2⟩
theorem Flat.row_ {w : World} {q : IntKind} {ks : List FK} {vs : List Value} (h : Flat w (.row q :: ks) vs) : ∃ (a : Option Addr) (n c : Nat) (l : List Int) (us : List Value), vs = .slice a n c :: us ∧ (l.length = n ∧ n ≤ c ∧ c ≤ maxLen ∧ (a = none → n = 0 ∧ c = 0) ∧ Ints q w a l ∧ ∀ x ∈ l, (Lit.int q x).wf = true) ∧ Flat w ks us := by
  obtain ⟨v, us, rfl, ⟨a, n, c, l, rfl, hh⟩, h2⟩ := h.cons_
  exact ⟨a, n, c, l, us, rfl, hh, h2⟩

/-- The kinds of a struct's cells, field by field, where the fields lie side by side. -/
def leafFields (P : Program) (rec : TypeId → Option (List FK)) : Nat → List Field → Option (List FK)
  | _, [] => some []
  | off, f :: fs => match rec f.type with
    | some ks => if f.offset = off ∧ P.cellsOf f.type = ks.length then (leafFields P rec (off + ks.length) fs).map (ks ++ ·) else none
    | none => none
/-- The kinds of the cells of a type of plain data. -/
def leaf (P : Program) : Nat → TypeId → Option (List FK)
  | 0, _ => none
  | n + 1, t => match P.underlying t with
    | some (.int q) => some [.int q]
    | some .bool => some [.bool]
    | some (.slice e) => match P.underlying e with
      | some (.int q) => if P.cellsOf e = 1 then some [.row q] else none
      | _ => none
    | some (.struct fs) => match leafFields P (leaf P n) 0 fs.toList with
      | some ks => if P.cellsOf t = ks.length then some ks else none
      | none => none
    | some (.array m e) => match leaf P n e with
      | some ks => if P.cellsOf e = ks.length ∧ P.cellsOf t = m * ks.length then some (List.replicate m ks).flatten else none
      | none => none
    | _ => none
section
variable {H : Type} {enc : TypeId × Value → H} {P : Program} {w : World} {base : Nat} {held : Bool}
theorem flat_fields {rec : TypeId → Option (List FK)} {m : Nat} {cs : List Value}
    (hrec : ∀ t ks us x, rec t = some ks → DataW.trod enc P w base (fun _ => true) held m t us = some x → Flat w ks us) :
    ∀ (fs : List Field) (off : Nat) (ks : List FK), leafFields P rec off fs = some ks → (cs.drop off).length = ks.length →
      (∀ f ∈ fs, ∃ x, DataW.trod enc P w base (fun _ => true) held m f.type ((cs.drop f.offset).take (P.cellsOf f.type)) = some x) → Flat w ks (cs.drop off)
  | [], off, ks, h, hl, _ => by
    unfold leafFields at h
    injection h with h
    subst h
    rw [List.eq_nil_of_length_eq_zero hl]
    trivial
  | f :: fs, off, ks, h, hl, hx => by
    unfold leafFields at h
    split at h
    · rename_i k1 hk
      split at h
      · rename_i hc
        obtain ⟨ho, hs⟩ := hc
        obtain ⟨k2, hk2, rfl⟩ := Option.map_eq_some_iff.1 h
        obtain ⟨x, hx0⟩ := hx f (by simp)
        rw [ho, hs] at hx0
        have h1 := hrec _ _ _ _ hk hx0
        rw [List.length_append] at hl
        have h2 := flat_fields hrec fs (off + k1.length) k2 hk2 (by rw [← List.drop_drop, List.length_drop]; omega) (fun g hg => hx g (by simp [hg]))
        rw [← List.drop_drop] at h2
        have := h1.append h2
        rwa [List.take_append_drop] at this
      · cases h
    · cases h
theorem flat_elems {ks : List FK} : ∀ (m : Nat) (cs : List Value), cs.length = m * ks.length → (∀ i, i < m → Flat w ks ((cs.drop (i * ks.length)).take ks.length)) → Flat w (List.replicate m ks).flatten cs
  | 0, cs, hl, _ => by
    rw [Nat.zero_mul] at hl
    rw [List.eq_nil_of_length_eq_zero hl]
    trivial
  | m + 1, cs, hl, h => by
    rw [List.replicate_succ, List.flatten_cons]
    have h0 := h 0 (by omega)
    rw [Nat.zero_mul, List.drop_zero] at h0
    have h1 := flat_elems (ks := ks) m (cs.drop ks.length) (by rw [List.length_drop, hl, Nat.add_mul]; omega) (fun i hi => by
      have := h (i + 1) (by omega)
      rw [Nat.add_mul, Nat.one_mul, Nat.add_comm] at this
      rwa [List.drop_drop])
    have := h0.append h1
    rwa [List.take_append_drop] at this
theorem flat_of : ∀ (n : Nat) (t : TypeId) (ks : List FK), leaf P n t = some ks → ∀ (m : Nat) (cs : List Value) (x : DataW H × List MemPlace), DataW.trod enc P w base (fun _ => true) held m t cs = some x → Flat w ks cs
  | 0, t, ks, h, _, _, _, _ => by simp [leaf] at h
  | n + 1, t, ks, h, m, cs, x, hx => by
    unfold leaf at h
    split at h
    · rename_i q hu
      injection h with h
      subst h
      obtain ⟨k, rfl, _, hw⟩ := DataW.trod_int hu hx
      exact ⟨⟨k, rfl, hw⟩, trivial⟩
    · rename_i hu
      injection h with h
      subst h
      obtain ⟨b, rfl, _⟩ := DataW.trod_bool hu hx
      exact ⟨⟨b, rfl⟩, trivial⟩
    · rename_i e hu
      split at h
      · rename_i q he
        split at h
        · rename_i hc
          injection h with h
          subst h
          rcases open_ints hu he hc hx with ⟨rfl, _⟩ | ⟨a, l, c, zs, rfl, _, hl, hm, hz, _, hcell, hwz⟩
          · exact ⟨⟨none, 0, 0, [], rfl, rfl, Nat.le_refl _, Nat.zero_le _, fun _ => ⟨rfl, rfl⟩, Ints.nil _ _ _, fun _ h => by cases h⟩, trivial⟩
          · simp only [if_true] at hz
            exact ⟨⟨some a, l, c, zs.take l, rfl, take_len hl hz, hl, hm, (fun e => by cases e), ints_of hl hz hcell, fun x hx => hwz x (List.mem_of_mem_take hx)⟩, trivial⟩
        · cases h
      · cases h
    · rename_i fs hu
      split at h
      · rename_i k1 hk
        split at h
        · rename_i hc
          injection h with h
          subst h
          obtain ⟨xs, m', _, _, hl, hxl, hf⟩ := DataW.trod_struct hu hx
          have := flat_fields (cs := cs) (m := m') (fun t ks us x h1 h2 => flat_of n t ks h1 m' us x h2) fs.toList 0 k1 hk (by rw [List.drop_zero, hl, hc]) (fun f hfm => by
            obtain ⟨i, hi, rfl⟩ := List.mem_iff_getElem.1 hfm
            have hi' : i < fs.size := by simpa using hi
            refine ⟨xs[i]'(by omega), ?_⟩
            have := hf i fs[i] (by simp [hi'])
            rw [List.getElem?_eq_getElem (by omega)] at this
            simpa using this)
          rwa [List.drop_zero] at this
        · cases h
      · cases h
    · rename_i k e hu
      split at h
      · rename_i k1 hk
        split at h
        · rename_i hc
          obtain ⟨hc1, hc2⟩ := hc
          injection h with h
          subst h
          obtain ⟨xs, m', _, _, hl, hxl, hf⟩ := DataW.trod_array hu hx
          refine flat_elems (ks := k1) k cs (by rw [hl, hc2]) fun i hi => ?_
          have := hf i hi
          rw [List.getElem?_eq_getElem (by omega), hc1] at this
          exact flat_of n e k1 hk _ _ _ this
        · cases h
      · cases h
    · cases h
/-- A struct that came in by value: its cells. -/
theorem open_flat {r : Reach} {b0 : Nat} {t : TypeId} {fs : Array Field} {v : Value} {d : DataW H} {p : List MemPlace} {ks : List FK} {n : Nat} (hs : P.underlying t = some (.struct fs)) (hk : leaf P n t = some ks)
    (hv : Value.okWide P w r b0 t v) (h : DataW.Trod enc P w base (fun _ => true) held t v d p) : ∃ cs : List Value, v = .agg cs.toArray ∧ Flat w ks cs := by
  obtain ⟨⟨cs⟩, rfl, hsz⟩ := okWide_struct hs hv
  obtain ⟨fuel, hf⟩ := h
  exact ⟨cs, rfl, flat_of n t ks hk fuel cs _ hf⟩
end
/-- A slice of records of such cells, from the pointer a on. -/
structure Recs (w : World) (a : Option Addr) (ks : List FK) (zs : List (List Value)) : Prop where
  row : Row w a zs.flatten
  flat : ∀ z ∈ zs, Flat w ks z
theorem Recs.nil (w : World) (a : Option Addr) (ks : List FK) : Recs w a ks [] := ⟨Row.nil _ _, fun _ h => by cases h⟩
theorem Recs.below {w w' : World} {a : Option Addr} {ks : List FK} {zs : List (List Value)} (h : Recs w a ks zs) (hb : Below w.heap.size w w') : Recs w' a ks zs := ⟨Row.below h.row hb, fun z hz => (h.flat z hz).below hb⟩
theorem flatten_at {m : Nat} : ∀ (zs : List (List Value)) (i j : Nat) (v : Value), (∀ z ∈ zs, z.length = m) → (zs.getD i [])[j]? = some v → zs.flatten[i * m + j]? = some v
  | [], i, j, v, _, h => by simp at h
  | z :: zs, 0, j, v, _, h => by
    rw [Nat.zero_mul, Nat.zero_add, List.flatten_cons]
    have h' : z[j]? = some v := h
    have hj : j < z.length := (List.getElem?_eq_some_iff.1 h').1
    rw [List.getElem?_append_left hj]
    exact h'
  | z :: zs, i + 1, j, v, hl, h => by
    have hz := hl z (by simp)
    rw [List.flatten_cons, List.getElem?_append_right (by rw [hz, Nat.add_mul]; omega), hz, show (i + 1) * m + j - m = i * m + j by rw [Nat.add_mul]; omega]
    exact flatten_at zs i j v (fun z hz => hl z (by simp [hz])) (by simpa using h)
theorem Recs.at_ {w : World} {a : Option Addr} {ks : List FK} {zs : List (List Value)} {m : Nat} (h : Recs w a ks zs) (hm : ks.length = m) (h0 : 0 < m) {i : Nat} (hi : i < zs.length) :
    Flat w ks (zs.getD i []) ∧ ∃ b off, a = some ⟨b, off, none⟩ ∧ b < w.heap.size ∧ ∀ j v, (zs.getD i [])[j]? = some v → w.cell? ⟨b, off + i * m + j, none⟩ = some v := by
  have hf : Flat w ks (zs.getD i []) := by
    have e : zs.getD i [] = zs[i] := by simp [List.getD, hi]
    rw [e]
    exact h.flat _ (List.getElem_mem hi)
  have hall : ∀ z ∈ zs, z.length = m := fun z hz => by rw [(h.flat z hz).len, hm]
  have hl : (zs.getD i []).length = m := by rw [hf.len, hm]
  refine ⟨hf, ?_⟩
  obtain ⟨b, off, e, hb, _⟩ := h.row (i * m + 0) _ (flatten_at zs i 0 _ hall (List.getElem?_eq_getElem (by omega)))
  refine ⟨b, off, e, hb, fun j v hj => ?_⟩
  obtain ⟨b', off', e', _, c⟩ := h.row (i * m + j) v (flatten_at zs i j v hall hj)
  rw [e] at e'
  cases e'
  rw [Nat.add_assoc]
  exact c
section
variable {H : Type} {enc : TypeId × Value → H} {P : Program} {w : World} {base : Nat} {held : Bool}
theorem flatten_get {m : Nat} (f : Nat → List Value) (hf : ∀ i, (f i).length = m) : ∀ (n k : Nat) (u : Value), (((List.range n).map f).flatten)[k]? = some u → ∃ i j, k = i * m + j ∧ i < n ∧ j < m ∧ (f i)[j]? = some u
  | 0, k, u, h => by simp at h
  | n + 1, k, u, h => by
    rw [List.range_succ, List.map_append, List.flatten_append] at h
    have hl : (((List.range n).map f).flatten).length = n * m := by
      clear h
      induction n with
      | zero => simp
      | succ n ih => rw [List.range_succ, List.map_append, List.flatten_append, List.length_append, ih]; simp [hf, Nat.add_mul]
    by_cases hk : k < n * m
    · rw [List.getElem?_append_left (by omega)] at h
      obtain ⟨i, j, e, hi, hj, hu⟩ := flatten_get f hf n k u h
      exact ⟨i, j, e, by omega, hj, hu⟩
    · rw [List.getElem?_append_right (by omega), hl] at h
      have h' : (f n)[k - n * m]? = some u := by simpa using h
      have hj : k - n * m < m := by have := (List.getElem?_eq_some_iff.1 h').1; rw [hf] at this; exact this
      exact ⟨n, k - n * m, by omega, by omega, hj, h'⟩
/-- A slice of plain records that came in. -/
theorem open_recs {t e : TypeId} {ks : List FK} {n fuel : Nat} {cs : List Value} {x : DataW H × List MemPlace} (ht : P.underlying t = some (.slice e)) (hk : leaf P n e = some ks) (hc : P.cellsOf e = ks.length) (h0 : 0 < ks.length)
    (h : DataW.trod enc P w base (fun _ => true) held fuel t cs = some x) :
    (cs = [.slice none 0 0] ∧ x = (.nil, [])) ∨
    ∃ (a : Addr) (len cap : Nat) (zs : List (List Value)), cs = [.slice (some a) len cap] ∧ len ≤ cap ∧ cap ≤ maxLen ∧ zs.length = len ∧ Recs w (some a) ks zs := by
  rcases open_slice ht h with h1 | ⟨a, len, cap, m, k, D, Pl, rfl, hb, hl, hm, hmm, rfl, hx⟩
  · exact Or.inl h1
  right
  simp only [if_true] at hmm
  subst hmm
  have each : ∀ i, i < len → ∃ vs : List Value, Flat w ks vs ∧ ∀ j v, vs[j]? = some v → w.cell? (a.add (i * ks.length + j)) = some v := fun i hi => by
    obtain ⟨vs, h1, h2⟩ := hx i (by omega)
    rw [hc] at h1
    obtain ⟨_, hlen, hcell⟩ := World.cells?_some h1
    refine ⟨vs, flat_of n e ks hk _ _ _ h2, fun j v hj => ?_⟩
    have hjl : j < vs.length := (List.getElem?_eq_some_iff.1 hj).1
    have := hcell j (by omega)
    rw [add_add] at this
    rw [this]
    exact hj
  let f : Nat → List Value := fun i => if h : i < len then (each i h).choose else List.replicate ks.length undef
  have hf : ∀ i, (f i).length = ks.length := fun i => by
    show (if h : i < len then (each i h).choose else List.replicate ks.length undef).length = ks.length
    split
    · rename_i hi
      exact (each i hi).choose_spec.1.len
    · simp
  have hfe : ∀ i (hi : i < len), f i = (each i hi).choose := fun i hi => dif_pos hi
  refine ⟨a, len, m, (List.range len).map f, rfl, hl, hm, by simp, ?_, ?_⟩
  · intro k u hu
    obtain ⟨i, j, rfl, hi, hj, hu'⟩ := flatten_get f hf len k u hu
    rw [hfe i hi] at hu'
    have hc' := (each i hi).choose_spec.2 j u hu'
    obtain ⟨b, off, spot⟩ := a
    have hspot : spot = none := by
      have h00 := (each 0 (by omega)).choose_spec
      have hl0 : 0 < (each 0 (by omega)).choose.length := by rw [h00.1.len]; exact h0
      have := h00.2 0 _ (List.getElem?_eq_getElem hl0)
      simpa [Addr.add] using World.cell?_spot this
    subst hspot
    rw [add_plain] at hc'
    exact ⟨b, off, rfl, World.block_lt_of_cell? w _ hc', hc'⟩
  · intro z hz
    obtain ⟨i, hi, rfl⟩ := List.mem_map.1 hz
    have hi' := List.mem_range.1 hi
    rw [hfe i hi']
    exact (each i hi').choose_spec.1
end
end Go.Proofs.Ytbamdilihpnhjaa.Base
