/-
  Slices of what is kept of numbers, by what a walk knows of their cells; footprints.
-/
import Derived.Test.YtoncominjgkjoaaRows
import Derived.Test.YtoncominjgkjoaaFr
import Derived.Test.YtoncominjgkjoaaRowSt
import Derived.Test.YtoncominjgkjoaaIn
import Derived.Test.YtoncominjgkjoaaPlus
import Derived.Test.YtoncominjgkjoaaLedPlain
import Derived.WalkKit
import Derived.ProofKit
import Derived.OpenShut
import Derived.OwnWalk
import Derived.Deep.OwnRows
import Derived.Laws.ResultCell
set_option linter.unusedSimpArgs false
set_option linter.unusedVariables false
namespace Go.Proofs.Ytoncominjgkjoaa.Base
set_option linter.unusedVariables false
open Go.ChangeShapes Go.WideShapes Go.ChangeAt Go.RowKit
open Go.Proofs.Ytoncominjgkjoaa.LedPlain

def sv (s : Sn) : List Value := [.int .u64 s.pn, .int .u64 s.off, .int .u64 s.len, .int .u64 s.nonce, .int .u64 s.time, .bool s.coin, .bool s.used, .int .i64 s.state]
def sents (l : List Sn) : List Value := l.flatMap sv
theorem sents_nil : sents [] = [] := rfl
theorem sents_cons (s : Sn) (l : List Sn) : sents (s :: l) = .int .u64 s.pn :: .int .u64 s.off :: .int .u64 s.len :: .int .u64 s.nonce :: .int .u64 s.time :: .bool s.coin :: .bool s.used :: .int .i64 s.state :: sents l := rfl
theorem sents_append (l m : List Sn) : sents (l ++ m) = sents l ++ sents m := List.flatMap_append
theorem sents_len : ∀ l : List Sn, (sents l).length = l.length * 8
  | [] => rfl
  | s :: l => by rw [sents_cons]; simp only [List.length_cons]; rw [sents_len l]; omega
theorem sents_one (l : List Sn) : ∀ u ∈ sents l, u.oneCell' = true := fun u hu => by
  obtain ⟨s, _, hs⟩ := List.mem_flatMap.1 hu
  simp only [sv, List.mem_cons, List.not_mem_nil, or_false] at hs
  rcases hs with rfl | rfl | rfl | rfl | rfl | rfl | rfl | rfl <;> rfl
theorem sents_at : ∀ {l : List Sn} {i : Nat} (j : Nat), i < l.length → j < 8 → (sents l)[i * 8 + j]? = (sv (l.getD i Z8))[j]?
  | s :: l, 0, j, _, hj => by
    rw [show sents (s :: l) = sv s ++ sents l from rfl, Nat.zero_mul, Nat.zero_add, List.getElem?_append_left (by simpa [sv] using hj)]
    rfl
  | s :: l, i + 1, j, h, hj => by
    rw [show sents (s :: l) = sv s ++ sents l from rfl, show (i + 1) * 8 + j = i * 8 + j + 8 by omega, List.getElem?_append_right (by simp [sv]), show i * 8 + j + 8 - (sv s).length = i * 8 + j by simp [sv], sents_at j (by simpa using h) hj]
    rfl
theorem sents_drop (l : List Sn) (n : Nat) : sents (l.drop n) = (sents l).drop (n * 8) := by
  induction l generalizing n with
  | nil => simp [sents_nil]
  | cons s l ih =>
    cases n with
    | zero => simp
    | succ n => rw [List.drop_succ_cons, show sents (s :: l) = sv s ++ sents l from rfl, ih, show (n + 1) * 8 = 8 + n * 8 by omega, ← List.drop_drop]; rfl
theorem sents_set : ∀ (l : List Sn) (k : Nat) (s : Sn) (j : Nat), k < l.length → (sents (l.set k s))[j]? = if k * 8 ≤ j ∧ j < k * 8 + 8 then (sv s)[j - k * 8]? else (sents l)[j]?
  | x :: l, 0, s, j, _ => by
    rw [show (x :: l).set 0 s = s :: l from rfl, show sents (s :: l) = sv s ++ sents l from rfl, show sents (x :: l) = sv x ++ sents l from rfl]
    split
    · rw [List.getElem?_append_left (by simp [sv]; omega), show j - 0 * 8 = j by omega]
    · rw [List.getElem?_append_right (by simp [sv]; omega), List.getElem?_append_right (by simp [sv]; omega)]
      rfl
  | x :: l, k + 1, s, j, h => by
    rw [show (x :: l).set (k + 1) s = x :: l.set k s from rfl, show sents (x :: l.set k s) = sv x ++ sents (l.set k s) from rfl, show sents (x :: l) = sv x ++ sents l from rfl]
    by_cases hj : j < 8
    · rw [List.getElem?_append_left (by simpa [sv] using hj), List.getElem?_append_left (by simpa [sv] using hj), if_neg (by omega)]
    · rw [List.getElem?_append_right (by simp [sv]; omega), List.getElem?_append_right (by simp [sv]; omega)]
      have := sents_set l k s (j - 8) (by simpa using h)
      rw [show (sv x).length = 8 from rfl, this]
      by_cases hc : k * 8 ≤ j - 8 ∧ j - 8 < k * 8 + 8
      · rw [if_pos hc, if_pos (by omega), show j - (k + 1) * 8 = j - 8 - k * 8 by omega]
      · rw [if_neg hc, if_neg (by omega)]
/-- What is kept of numbers, from the pointer a on. -/
def Sents (w : World) (a : Option Addr) (l : List Sn) : Prop := Row w a (sents l)
theorem Sents.nil (w : World) (a : Option Addr) : Sents w a [] := Row.nil _ _
theorem Sents.below {w w' : World} {a : Option Addr} {l : List Sn} (h : Sents w a l) (hb : Below w.heap.size w w') : Sents w' a l := Row.below h hb
theorem Sents.drop {w : World} {b off : Nat} {l : List Sn} (h : Sents w (some ⟨b, off, none⟩) l) (n : Nat) : Sents w (some ⟨b, off + n * 8, none⟩) (l.drop n) := by
  unfold Sents
  rw [sents_drop]
  exact ((RowIn.drop (Row.in_ h) (n * 8))).row
/-- The eight cells of the element at i. -/
def At8 (w : World) (b o : Nat) (s : Sn) : Prop :=
  w.cell? ⟨b, o, none⟩ = some (.int .u64 s.pn) ∧ w.cell? ⟨b, o + 1, none⟩ = some (.int .u64 s.off) ∧ w.cell? ⟨b, o + 2, none⟩ = some (.int .u64 s.len) ∧ w.cell? ⟨b, o + 3, none⟩ = some (.int .u64 s.nonce) ∧
    w.cell? ⟨b, o + 4, none⟩ = some (.int .u64 s.time) ∧ w.cell? ⟨b, o + 5, none⟩ = some (.bool s.coin) ∧ w.cell? ⟨b, o + 6, none⟩ = some (.bool s.used) ∧ w.cell? ⟨b, o + 7, none⟩ = some (.int .i64 s.state)
theorem Sents.at_ {w : World} {a : Option Addr} {l : List Sn} (h : Sents w a l) {i : Nat} (hi : i < l.length) :
    ∃ b off, a = some ⟨b, off, none⟩ ∧ b < w.heap.size ∧ At8 w b (off + i * 8) (l.getD i Z8) := by
  have each : ∀ j, j < 8 → ∀ u, (sv (l.getD i Z8))[j]? = some u → ∃ b off, a = some ⟨b, off, none⟩ ∧ b < w.heap.size ∧ w.cell? ⟨b, off + i * 8 + j, none⟩ = some u := fun j hj u hu => by
    obtain ⟨b, off, e, hb, hc⟩ := h (i * 8 + j) u (by rw [sents_at j hi hj]; exact hu)
    exact ⟨b, off, e, hb, by rw [Nat.add_assoc]; exact hc⟩
  obtain ⟨b, off, rfl, hb, c0⟩ := each 0 (by decide) _ rfl
  refine ⟨b, off, rfl, hb, c0, ?_, ?_, ?_, ?_, ?_, ?_, ?_⟩
  · obtain ⟨b', off', e, _, c⟩ := each 1 (by decide) _ rfl
    cases e
    exact c
  · obtain ⟨b', off', e, _, c⟩ := each 2 (by decide) _ rfl
    cases e
    exact c
  · obtain ⟨b', off', e, _, c⟩ := each 3 (by decide) _ rfl
    cases e
    exact c
  · obtain ⟨b', off', e, _, c⟩ := each 4 (by decide) _ rfl
    cases e
    exact c
  · obtain ⟨b', off', e, _, c⟩ := each 5 (by decide) _ rfl
    cases e
    exact c
  · obtain ⟨b', off', e, _, c⟩ := each 6 (by decide) _ rfl
    cases e
    exact c
  · obtain ⟨b', off', e, _, c⟩ := each 7 (by decide) _ rfl
    cases e
    exact c

/-- A struct result beside another, as a return finds it. -/
theorem results_rowT {P : Program} {fn : Func} {p u : Tmp} {ty : TypeId} (h : fn.results = #[.cell p ty, .tmp u]) (tmps : Array Value) (w : World) (g : Nat) (t : TypeId) (cs : Array Value) (d : TypeDesc)
    (hp : tmps.getD p undef = .pointer (some ⟨g, 0, none⟩)) (hg : Blk w g cs t)
    (hu : P.underlying ty = some d) (hd : (match d with | .struct _ | .array _ _ => true | _ => false) = true) (hi : (P.info? ty).map (·.size) = some cs.size) :
    (results fn tmps).run P w = .ok (.tuple #[.agg cs, tmps.getD u undef]) w := by
  rw [results_cell_tmp h, hp]
  simp [asAddr, run_loadVar_row w g t ty cs (0, 0) d hg hu hd hi]
theorem info8 : (Try.prog.info? 42).map (fun i => (i.zero, i.size, i.bytes)) = some (some (.agg #[.int .u64 0, .int .u64 0, .int .u64 0, .int .u64 0, .int .u64 0, .bool false, .bool false, .int .i64 0]), 8, 56) := by kernel_rfl
/-- A row of the call's own of what is kept of numbers. -/
def Owns (w : World) (v : Value) (l : List Sn) : Prop := w.ownsRow 0 42 8 v l.length (sents l)
theorem Owns.nil (w : World) : Owns w (.slice none 0 0) [] := World.ownsRow_nil _ _ _ _
theorem Owns.drew {w : World} {v : Value} {l : List Sn} (h : Owns w v l) : Owns w.drew v l := h
theorem Owns.lt {w : World} {v : Value} {l : List Sn} (h : Owns w v l) {g : Nat} (hg : v.ownBlock = some g) : g < w.heap.size := (World.ownsRow.lt h g hg).2
theorem Owns.alloc {w : World} {v : Value} {l : List Sn} (h : Owns w v l) (o : Obj) : Owns (w.alloc o) v l := World.ownsRow.alloc h o
theorem Owns.kept {T : Nat → Prop} {w w' : World} {v : Value} {l : List Sn} (h : Owns w v l) (hf : Fr T w w') (hn : ∀ g, v.ownBlock = some g → ¬ T g) : Owns w' v l := by
  obtain ⟨h1, h2⟩ := h
  refine ⟨h1, ?_⟩
  rcases h2 with h2 | ⟨g, cap, cur, hv, hg, hh, r⟩
  · exact Or.inl h2
  · exact Or.inr ⟨g, cap, cur, hv, hg, (hf.block g (lt_of_block hh) (hn g (by rw [hv]; rfl))).trans hh, r⟩
theorem Owns.below {w w' : World} {v : Value} {l : List Sn} (h : Owns w v l) (hb : Below w.heap.size w w') : Owns w' v l := h.kept (T := fun _ => False) (Fr.of_below hb) fun _ _ h => h
/-- How a row of the call's own reads. -/
theorem Owns.read {w : World} {v : Value} {l : List Sn} (h : Owns w v l) : ∃ a cap, v = .slice a l.length cap ∧ l.length ≤ cap ∧ cap ≤ maxLen ∧ Sents w a l ∧ (a = none → l = [] ∧ cap = 0) ∧ (∀ x, a = some x → ∃ g, x = ⟨g, 0, none⟩ ∧ v.ownBlock = some g) := by
  obtain ⟨a, cap, e, h1, h2, h3, R⟩ := rowIn_of_own (by omega) h
  refine ⟨a, cap, e, h1, h2, R.row, fun e => ⟨List.eq_nil_of_length_eq_zero (h3 e).1, (h3 e).2⟩, fun x hx => ?_⟩
  rcases h.2 with ⟨hv, _⟩ | ⟨g, cap', cur, hv, _⟩
  · rw [e, hx] at hv
    cases hv
  · rw [e, hx] at hv
    injection hv with hv _ _
    injection hv with hv
    rw [e, hx, hv]
    exact ⟨g, rfl, rfl⟩
theorem sents_cell : ∀ (l : List Sn) (k j : Nat) (s : Sn) (u : Value), k < l.length → j < 8 → sv s = (sv (l.getD k Z8)).set j u → (sents l).set (k * 8 + j) u = sents (l.set k s)
  | x :: l, 0, j, s, u, _, hj, hs => by
    rw [show sents (x :: l) = sv x ++ sents l from rfl, Nat.zero_mul, Nat.zero_add, List.set_append_left _ _ (by simpa [sv] using hj)]
    show _ = sv s ++ sents l
    rw [hs]
    rfl
  | x :: l, k + 1, j, s, u, hk, hj, hs => by
    rw [show sents (x :: l) = sv x ++ sents l from rfl, List.set_append_right _ _ (by simp [sv]; omega), show (k + 1) * 8 + j - (sv x).length = k * 8 + j by simp [sv]; omega, sents_cell l k j s u (by simpa using hk) hj (by simpa using hs)]
    rfl
/-- One cell of element k turned. -/
theorem Owns.set {w : World} {v : Value} {l : List Sn} (h : Owns w v l) {k : Nat} (hk : k < l.length) (j : Nat) (hj : j < 8) : ∃ g cap, v = .slice (some ⟨g, 0, none⟩) l.length cap ∧ l.length ≤ cap ∧ cap ≤ maxLen ∧ g < w.heap.size ∧ At8 w g (k * 8) (l.getD k Z8) ∧ w.frozen? ⟨g, k * 8 + j, none⟩ = false ∧
    ∀ (s : Sn) (u : Value), sv s = (sv (l.getD k Z8)).set j u → Owns (w.setCell ⟨g, k * 8 + j, none⟩ u) v (l.set k s) := by
  obtain ⟨a, cap, rfl, h1, h2, hz, h0, hx⟩ := h.read
  obtain ⟨g, off, rfl, hg, h8⟩ := hz.at_ hk
  obtain ⟨_, e, _⟩ := hx _ rfl
  cases e
  rw [Nat.zero_add] at h8
  refine ⟨g, cap, rfl, h1, h2, hg, h8, World.ownsRow.frozenAt h _, fun s u hs => ?_⟩
  have := (World.ownsRow.stored h (k * 8 + j) u).1
  rw [sents_cell l k j s u hk hj hs] at this
  unfold Owns
  rw [List.length_set]
  exact this
end Go.Proofs.Ytoncominjgkjoaa.Base
