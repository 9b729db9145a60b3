/-
  Blocks of the call's own that a call may turn: what of memory stays behind it. Nothing here names a program.
-/
import Derived.Test.YtbamdilihpnhjaaRow
import Derived.OneCell
set_option linter.unusedSimpArgs false
set_option linter.unusedVariables false
namespace Go.Proofs.Ytbamdilihpnhjaa.Base
set_option linter.unusedVariables false
open Go.ChangeShapes Go.WideShapes Go.RowKit

/-- Of the blocks that were there only those of S may have turned; the streams are as they were; no block has gone. -/
structure Fr (S : Nat → Prop) (w w' : World) : Prop where
  os : w'.os = w.os
  tape : w'.tape = w.tape
  output : w'.output = w.output
  size : w.heap.size ≤ w'.heap.size
  block : ∀ k, k < w.heap.size → ¬ S k → w'.heap[k]? = w.heap[k]?
theorem Fr.refl (S : Nat → Prop) (w : World) : Fr S w w := ⟨rfl, rfl, rfl, Nat.le_refl _, fun _ _ _ => rfl⟩
theorem Fr.mono {S T : Nat → Prop} {w w' : World} (h : Fr S w w') (hT : ∀ k, k < w.heap.size → S k → T k) : Fr T w w' :=
  ⟨h.os, h.tape, h.output, h.size, fun k hk hn => h.block k hk fun hs => hn (hT k hk hs)⟩
/-- One call behind another: the second may turn what the first may, and what the first has made. -/
theorem Fr.trans {S T : Nat → Prop} {a b c : World} (h : Fr S a b) (k : Fr T b c) (hT : ∀ i, i < a.heap.size → T i → S i) : Fr S a c :=
  ⟨k.os.trans h.os, k.tape.trans h.tape, k.output.trans h.output, Nat.le_trans h.size k.size, fun i hi hn =>
    (k.block i (Nat.lt_of_lt_of_le hi h.size) fun ht => hn (hT i hi ht)).trans (h.block i hi hn)⟩
theorem Fr.of_below {S : Nat → Prop} {w w' : World} (h : Below w.heap.size w w') : Fr S w w' := ⟨h.os, h.tape, h.output, h.size, fun k hk _ => h.block k hk⟩
theorem Fr.of_old {S : Nat → Prop} {B : Nat} {w w' : World} (h : Below B w w') (hS : ∀ k, k < w.heap.size → B ≤ k → S k) : Fr S w w' :=
  ⟨h.os, h.tape, h.output, h.size, fun k hk hn => h.block k (by
    rcases Nat.lt_or_ge k B with h1 | h1
    · exact h1
    · exact absurd (hS k hk h1) hn)⟩
theorem Fr.toBelow {S : Nat → Prop} {B : Nat} {w w' : World} (h : Fr S w w') (hB : B ≤ w.heap.size) (hS : ∀ k, S k → B ≤ k) : Below B w w' :=
  ⟨h.os, h.tape, h.output, h.size, fun k hk => h.block k (Nat.lt_of_lt_of_le hk hB) fun hs => by have := hS k hs; omega⟩
/-- Behind what was known of the world: a call that turns only blocks from B on. -/
theorem Fr.below {S : Nat → Prop} {B : Nat} {a w w' : World} (h : Fr S w w') (hb : Below B a w) (hB : B ≤ w.heap.size) (hS : ∀ k, S k → B ≤ k) : Below B a w' := hb.trans (h.toBelow hB hS)
theorem Fr.cell {S : Nat → Prop} {w w' : World} (h : Fr S w w') {p : Addr} (hp : p.block < w.heap.size) (hn : ¬ S p.block) : w'.cell? p = w.cell? p := World.cell?_of_block (w := w) (h.block p.block hp hn)
theorem Fr.drew {S : Nat → Prop} {a w : World} (h : Fr S a w) : Fr S a w.drew := ⟨h.os, h.tape, h.output, h.size, h.block⟩
theorem Fr.alloc {S : Nat → Prop} {a w : World} (h : Fr S a w) (o : Obj) : Fr S a (w.alloc o) :=
  h.trans (T := S) ⟨rfl, rfl, rfl, by simp, fun k hk _ => Below.heap_alloc _ _ _ hk⟩ fun _ _ h => h
theorem Fr.setCell {S : Nat → Prop} {a w : World} (h : Fr S a w) {p : Addr} (hp : p.block < a.heap.size → S p.block) (u : Value) : Fr S a (w.setCell p u) :=
  ⟨h.os, h.tape, h.output, by have := h.size; simpa [World.setCell] using this, fun k hk hn => (Below.heap_setCell _ _ _ _ (fun e => by subst e; exact hn (hp hk))).trans (h.block k hk hn)⟩

/-- Block b holds just these cells, and each may be written. -/
def Blk (w : World) (b : Nat) (cs : Array Value) (T : TypeId) : Prop := w.heap[b]? = some (.cells cs T (0, 0))
theorem Blk.lt {w : World} {b : Nat} {cs : Array Value} {T : TypeId} (h : Blk w b cs T) : b < w.heap.size := lt_of_block h
theorem Blk.cell {w : World} {b : Nat} {cs : Array Value} {T : TypeId} (h : Blk w b cs T) (i : Nat) : w.cell? ⟨b, i, none⟩ = cs[i]? := by unfold Blk at h; simp [World.cell?, h]
theorem Blk.free {w : World} {b : Nat} {cs : Array Value} {T : TypeId} (h : Blk w b cs T) (i : Nat) : w.frozen? ⟨b, i, none⟩ = false := by unfold Blk at h; simp [World.frozen?, h]
theorem Blk.set {w : World} {b : Nat} {cs : Array Value} {T : TypeId} (h : Blk w b cs T) (i : Nat) (u : Value) : Blk (w.setCell ⟨b, i, none⟩ u) b (cs.setIfInBounds i u) T := by
  have hlt := h.lt
  unfold Blk at h
  have h' : w.heap[b] = .cells cs T (0, 0) := by simpa [Array.getElem?_eq_getElem hlt] using h
  show (w.heap.modify b _)[b]? = _
  rw [Array.getElem?_eq_getElem (by simpa using hlt), Array.getElem_modify_self, h']
  rfl
theorem Blk.other {w : World} {b : Nat} {cs : Array Value} {T : TypeId} (h : Blk w b cs T) {a : Addr} (ha : b ≠ a.block) (u : Value) : Blk (w.setCell a u) b cs T := (Below.heap_setCell _ _ _ _ ha).trans h
theorem Blk.kept {S : Nat → Prop} {w w' : World} {b : Nat} {cs : Array Value} {T : TypeId} (h : Blk w b cs T) (hf : Fr S w w') (hn : ¬ S b) : Blk w' b cs T := (hf.block b h.lt hn).trans h
theorem Blk.below {B : Nat} {w w' : World} {b : Nat} {cs : Array Value} {T : TypeId} (h : Blk w b cs T) (hf : Below B w w') (hb : b < B) : Blk w' b cs T := (hf.block b hb).trans h
theorem Blk.alloc {w : World} {b : Nat} {cs : Array Value} {T : TypeId} (h : Blk w b cs T) (o : Obj) : Blk (w.alloc o) b cs T := (Below.heap_alloc _ _ _ h.lt).trans h
theorem Blk.new (w : World) (cs : Array Value) (T : TypeId) : Blk (w.alloc (.cells cs T)) w.heap.size cs T := by
  show (w.heap.push _)[w.heap.size]? = _
  simp
theorem Blk.drew {w : World} {b : Nat} {cs : Array Value} {T : TypeId} (h : Blk w b cs T) : Blk w.drew b cs T := h

/-- From the pointer a on the cells xs lie side by side, in one of the blocks of S. -/
def RowIn (S : Nat → Prop) (w : World) (a : Option Addr) (xs : List Value) : Prop :=
  ∀ j u, xs[j]? = some u → ∃ b off, a = some ⟨b, off, none⟩ ∧ S b ∧ b < w.heap.size ∧ w.cell? ⟨b, off + j, none⟩ = some u
theorem RowIn.nil (S : Nat → Prop) (w : World) (a : Option Addr) : RowIn S w a [] := fun j u h => by simp at h
theorem RowIn.row {S : Nat → Prop} {w : World} {a : Option Addr} {xs : List Value} (h : RowIn S w a xs) : Row w a xs := fun j u hj => by
  obtain ⟨b, off, e, _, hb, hc⟩ := h j u hj
  exact ⟨b, off, e, hb, hc⟩
theorem RowIn.mono {S T : Nat → Prop} {w : World} {a : Option Addr} {xs : List Value} (h : RowIn S w a xs) (hT : ∀ k, k < w.heap.size → S k → T k) : RowIn T w a xs := fun j u hj => by
  obtain ⟨b, off, e, hs, hb, hc⟩ := h j u hj
  exact ⟨b, off, e, hT b hb hs, hb, hc⟩
theorem RowIn.kept {S T : Nat → Prop} {w w' : World} {a : Option Addr} {xs : List Value} (h : RowIn S w a xs) (hf : Fr T w w') (hn : ∀ k, S k → ¬ T k) : RowIn S w' a xs := fun j u hj => by
  obtain ⟨b, off, e, hs, hb, hc⟩ := h j u hj
  exact ⟨b, off, e, hs, Nat.lt_of_lt_of_le hb hf.size, by rw [hf.cell (p := ⟨b, off + j, none⟩) hb (hn b hs)]; exact hc⟩
theorem RowIn.below {S : Nat → Prop} {B : Nat} {w w' : World} {a : Option Addr} {xs : List Value} (h : RowIn S w a xs) (hf : Below B w w') (hn : ∀ k, S k → k < B) : RowIn S w' a xs := fun j u hj => by
  obtain ⟨b, off, e, hs, hb, hc⟩ := h j u hj
  exact ⟨b, off, e, hs, Nat.lt_of_lt_of_le hb hf.size, by rw [hf.cell (p := ⟨b, off + j, none⟩) (hn b hs)]; exact hc⟩
theorem RowIn.alloc {S : Nat → Prop} {w : World} {a : Option Addr} {xs : List Value} (h : RowIn S w a xs) (o : Obj) : RowIn (fun k => S k ∧ k < w.heap.size) (w.alloc o) a xs := fun j u hj => by
  obtain ⟨b, off, e, hs, hb, hc⟩ := h j u hj
  exact ⟨b, off, e, ⟨hs, hb⟩, by simp; omega, by rw [World.cell?_alloc_lt w o ⟨b, off + j, none⟩ hb]; exact hc⟩
theorem RowIn.tail {S : Nat → Prop} {w : World} {b off : Nat} {x : Value} {xs : List Value} (h : RowIn S w (some ⟨b, off, none⟩) (x :: xs)) : RowIn S w (some ⟨b, off + 1, none⟩) xs := fun j u hj => by
  obtain ⟨b', off', e, hs, hb, hc⟩ := h (j + 1) u (by simpa using hj)
  cases e
  exact ⟨b, off + 1, rfl, hs, hb, by rw [← hc]; congr 2; omega⟩
theorem Row.take {w : World} {a : Option Addr} {xs : List Value} (h : Row w a xs) (n : Nat) : Row w a (xs.take n) := fun j u hj => by
  rw [List.getElem?_take] at hj
  split at hj
  · exact h j u hj
  · cases hj
theorem RowIn.take {S : Nat → Prop} {w : World} {a : Option Addr} {xs : List Value} (h : RowIn S w a xs) (n : Nat) : RowIn S w a (xs.take n) := fun j u hj => by
  rw [List.getElem?_take] at hj
  split at hj
  · exact h j u hj
  · cases hj
theorem RowIn.drop {S : Nat → Prop} {w : World} {b off : Nat} {xs : List Value} (h : RowIn S w (some ⟨b, off, none⟩) xs) (n : Nat) : RowIn S w (some ⟨b, off + n, none⟩) (xs.drop n) := fun j u hj => by
  rw [List.getElem?_drop] at hj
  obtain ⟨b', off', e, hs, hb, hc⟩ := h (n + j) u hj
  cases e
  exact ⟨b, off + n, rfl, hs, hb, by rw [← hc]; congr 2; omega⟩
theorem RowIn.drew {S : Nat → Prop} {w : World} {a : Option Addr} {xs : List Value} (h : RowIn S w a xs) : RowIn S w.drew a xs := h
theorem Row.in_ {w : World} {a : Option Addr} {xs : List Value} (h : Row w a xs) : RowIn (fun k => k < w.heap.size) w a xs := fun j u hj => by
  obtain ⟨b, off, e, hb, hc⟩ := h j u hj
  exact ⟨b, off, e, hb, hb, hc⟩
/-- A row of the call's own reads as what was put there, in a block of the call's own. -/
theorem rowIn_of_own {w : World} {base size n : Nat} {e : TypeId} {v : Value} {xs : List Value} (hs : 0 < size) (h : w.ownsRow base e size v n xs) : ∃ a cap, v = .slice a n cap ∧ n ≤ cap ∧ cap ≤ maxLen ∧ (a = none → n = 0 ∧ cap = 0) ∧ RowIn (fun k => base ≤ k) w a xs := by
  have hl := h.lt
  rcases h.2 with ⟨rfl, rfl⟩ | ⟨g, cap, cur, rfl, hg, _, h1, h2, _⟩
  · have h1 := h.1
    obtain rfl : xs = [] := List.eq_nil_of_length_eq_zero (by simpa using h1)
    exact ⟨none, 0, rfl, Nat.le_refl _, Nat.zero_le _, fun _ => ⟨rfl, rfl⟩, RowIn.nil _ _ _⟩
  · exact ⟨_, cap, rfl, h1, h2, (fun e => by cases e), fun j u hj => ⟨g, 0, rfl, hg, (hl g rfl).2, by simpa [Go.WideShapes.add_plain] using h.cells (g := g) rfl j u hj⟩⟩
theorem Fr.of_grown {S : Nat → Prop} {w w' : World} {row : Option Nat} (hg : w.grownBy w' row) (hr : ∀ k, row = some k → S k) : Fr S w w' :=
  ⟨hg.os, hg.tape, hg.output, hg.size, fun k hk hn => hg.block k hk fun e => hn (hr k e.symm)⟩
/-- A row of the call's own behind a call that turns none of its blocks. -/
theorem ownsRow_fr {T : Nat → Prop} {w w' : World} {base size n : Nat} {e : TypeId} {v : Value} {xs : List Value} (h : w.ownsRow base e size v n xs) (hf : Fr T w w') (hn : ∀ k, base ≤ k → ¬ T k) : w'.ownsRow base e size v n xs := by
  obtain ⟨h1, h2⟩ := h
  refine ⟨h1, ?_⟩
  rcases h2 with h2 | ⟨g, cap, cur, hv, hg, hh, r⟩
  · exact Or.inl h2
  · exact Or.inr ⟨g, cap, cur, hv, hg, (hf.block g (lt_of_block hh) (hn g hg)).trans hh, r⟩
end Go.Proofs.Ytbamdilihpnhjaa.Base
