/-
  A region that draws its order, whose first operations are quiet (each yields one value in every world of a class) and come to one that all the others wait for: one walk of the first ones, in the text's order; then the others, in any world of the class. Nothing here names a program.
-/
import Derived.Test.YtbamdilihpnhjaaIn
import Derived.Test.YtbamdilihpnhjaaHeld
set_option linter.unusedSimpArgs false
set_option linter.unusedVariables false
namespace Go.Proofs.Ytbamdilihpnhjaa.Base
set_option linter.unusedVariables false
open Go.ChangeShapes Go.WideShapes Go.RowKit
section
variable {P : Program} {ops : Array Oper} {md : Region.Mode} {C : World → Prop}

/-- Whatever order is picked of the first n that come up: then K. -/
def wpFirst (P : Program) (md : Region.Mode) (ops : Array Oper) (C : World → Prop) (K : Array Bool → Act → Prop) : Nat → Array Bool → Act → Prop
  | 0, listed, a => K listed a
  | n + 1, listed, a => Region.ready md ops listed ≠ [] ∧ ∀ i ∈ Region.ready md ops listed, qOp P ops C i (wpFirst P md ops C K n (listed.setIfInBounds i true)) a
theorem wpAny_of_first {K : Array Bool → Act → Prop} {Q : Exit → Act → World → Prop} {fuel : Nat} (hK : ∀ listed a w, C w → K listed a → wpAny P md ops Q fuel listed a w) : ∀ (n : Nat) (listed : Array Bool) (a : Act) (w : World), C w →
    wpFirst P md ops C K n listed a → wpAny P md ops Q (fuel + n) listed a w
  | 0, _, _, _, hw, h => hK _ _ _ hw h
  | n + 1, _, _, _, hw, h => ⟨fun h0 => absurd h0 h.1, fun i hi => wpOp_of_qOp hw (fun a' w' hw' hh => wpAny_of_first hK n _ a' w' hw' hh) (h.2 i hi)⟩
/-- What has come up has all that it waits for behind it. -/
def Closed (md : Region.Mode) (ops : Array Oper) (listed : Array Bool) : Prop := ∀ (k : Nat) (o : Oper), ops[k]? = some o → listed.getD k false = true → ∀ e ∈ o.after, Region.binds md e = true → listed.getD e.on false = true
theorem Closed.start : Closed md ops (Array.replicate ops.size false) := fun k o ho hl => by
  have hk : k < ops.size := (Array.getElem?_eq_some_iff.1 ho).1
  simp [hk] at hl
theorem Closed.step {listed : Array Bool} {i : Nat} (h : Closed md ops listed) (hi : i ∈ Region.ready md ops listed) : Closed md ops (listed.setIfInBounds i true) := fun k o ho hl e he hb => by
  by_cases hk : k = i
  · subst hk
    obtain ⟨_, o', ho', hall⟩ := mem_ready.1 hi
    obtain rfl : o = o' := Option.some.inj (ho.symm.trans ho')
    exact getD_set_true (hall e he hb)
  · rw [getD_set_ne false (Ne.symm hk)] at hl
    exact getD_set_true (h k o ho hl e he hb)
/-- Of the first N operations each but number m has one among them that waits for it, and each of the others waits for m or for one of the others. -/
def tailB (md : Region.Mode) (ops : Array Oper) (N m : Nat) : Bool :=
  ((List.range N).all fun i => i == m || (List.range N).any fun k => k != i && match ops[k]? with | some o => o.after.any (fun e => Region.binds md e && e.on == i) | none => false) &&
    ((List.range ops.size).all fun j => decide (j < N) || match ops[j]? with | some o => o.after.any (fun e => Region.binds md e && (e.on == m || decide (N ≤ e.on))) | none => false)
/-- The first N have come up. -/
def upto (ops : Array Oper) (N : Nat) : Array Bool := Array.ofFn (n := ops.size) fun i => decide (i.val < N)
theorem upto_getD {N j : Nat} (d : Bool) (hj : j < ops.size) : (upto ops N).getD j d = decide (j < N) := by
  simp [upto, hj]
/-- Where all but one of the first N have come up, that one alone may. -/
theorem alone {N m i j : Nat} {listed : Array Bool} (hT : tailB md ops N m = true) (hc : Closed md ops listed) (hi : i ∈ Region.ready md ops listed) (hL : listed.setIfInBounds i true = upto ops N) (hj : j ∈ Region.ready md ops listed) (hji : j ≠ i) : False := by
  obtain ⟨hju, oj, hoj, hja⟩ := mem_ready.1 hj
  obtain ⟨hiu, oi, hoi, hia⟩ := mem_ready.1 hi
  have hjs : j < ops.size := (Array.getElem?_eq_some_iff.1 hoj).1
  have his : i < ops.size := (Array.getElem?_eq_some_iff.1 hoi).1
  have hsz : listed.size = ops.size := by
    have := congrArg Array.size hL
    simpa [upto] using this
  have hne : ∀ k d, k ≠ i → k < ops.size → listed.getD k d = decide (k < N) := fun k d hk hks => by
    rw [← upto_getD d hks, ← hL, getD_set_ne d (Ne.symm hk)]
  have hiN : i < N := by
    have h1 : (listed.setIfInBounds i true).getD i false = true := by simp [hsz, his]
    rw [hL, upto_getD false his] at h1
    exact of_decide_eq_true h1
  unfold tailB at hT
  simp only [Bool.and_eq_true, List.all_eq_true, List.mem_range, Bool.or_eq_true, beq_iff_eq, decide_eq_true_eq] at hT
  obtain ⟨hT1, hT2⟩ := hT
  by_cases hjN : j < N
  · rw [hne j true hji hjs] at hju
    exact absurd hjN (of_decide_eq_false hju)
  · have h2 := (hT2 j hjs).resolve_left hjN
    simp only [hoj] at h2
    obtain ⟨e, he, hb⟩ := Array.any_eq_true'.1 h2
    simp only [Bool.and_eq_true, Bool.or_eq_true, beq_iff_eq, decide_eq_true_eq] at hb
    have h3 := hja e he hb.1
    rcases hb.2 with hm | hm
    · rw [hm] at h3
      have him : i ≠ m := fun h4 => by
        subst h4
        have h5 : listed.getD i true = true := by
          simp [hsz, his] at h3 ⊢
          exact h3
        rw [h5] at hiu
        cases hiu
      have h6 := (hT1 i hiN).resolve_left him
      obtain ⟨k, hk, h7⟩ := List.any_eq_true.1 h6
      rw [List.mem_range] at hk
      simp only [Bool.and_eq_true, bne_iff_ne, ne_eq] at h7
      obtain ⟨h7, h8⟩ := h7
      cases hok : ops[k]? with
      | none => rw [hok] at h8; cases h8
      | some ok =>
        rw [hok] at h8
        have hks : k < ops.size := (Array.getElem?_eq_some_iff.1 hok).1
        obtain ⟨e', he', hb'⟩ := Array.any_eq_true'.1 h8
        simp only [Bool.and_eq_true, beq_iff_eq] at hb'
        have h9 := hc k ok hok (by rw [hne k false h7 hks]; exact decide_eq_true hk) e' he' hb'.1
        rw [hb'.2] at h9
        have h5 : listed.getD i true = true := by
          simp [hsz, his] at h9 ⊢
          exact h9
        rw [h5] at hiu
        cases hiu
    · by_cases hei : e.on = i
      · omega
      · by_cases hes : e.on < ops.size
        · rw [hne e.on false hei hes] at h3
          have := of_decide_eq_true h3
          omega
        · have : listed.getD e.on false = false := by simp [hsz, hes]
          rw [this] at h3
          cases h3
theorem wpFirst_first {K : Act → Prop} {N m i : Nat} {oi : Oper} {v : Value} (hT : tailB md ops N m = true) (hi : ops[i]? = some oi) (hsel : ∀ (j : Nat) (o : Oper) cs b, ops[j]? = some o → o.op ≠ .select cs b) :
    ∀ (n : Nat) (listed : Array Bool) (a : Act), Closed md ops listed →
      (∀ j oj, ops[j]? = some oj → j ≠ i → listed.getD j true = false → (∀ e ∈ oj.after, Region.binds md e = true → e.on ≠ i) → oi.apart ops oj = true) →
      i ∈ Region.ready md ops listed → YieldsIn P ops C oi v a →
      wpFirst P md ops C (fun listed a => listed = upto ops N ∧ K a) n (listed.setIfInBounds i true) (a.put oi.dst v) → wpFirst P md ops C (fun listed a => listed = upto ops N ∧ K a) (n + 1) listed a := by
  intro n
  induction n with
  | zero =>
    intro listed a hc _ hr hy H
    refine ⟨fun h => (by rw [h] at hr; cases hr), fun j hj => ?_⟩
    by_cases hji : j = i
    · subst hji; exact hy.qOp hi H
    · exact (alone hT hc hr H.1 hj hji).elim
  | succ n ih =>
    intro listed a hc hfree hr hy H
    refine ⟨fun h => (by rw [h] at hr; cases hr), fun j hj => ?_⟩
    by_cases hji : j = i
    · subst hji; exact hy.qOp hi H
    · have h1 := H.2 j (ready_mono hj hji)
      obtain ⟨hjun, oj, hoj, hall⟩ := mem_ready.1 hj
      have hnot : ∀ e ∈ oj.after, Region.binds md e = true → e.on ≠ i := fun e he hb heq => by
        have h1 := hall e he hb
        have h0 := (mem_ready.1 hr).1
        rw [heq] at h1
        rcases Nat.lt_or_ge i listed.size with h' | h'
        · simp [h'] at h0 h1; rw [h0] at h1; cases h1
        · simp [Array.getElem?_eq_none h'] at h1
      have h2 := qOp_put hoj (hfree j oj hoj hji hjun hnot) (fun cs b => hsel i oi cs b hi) (fun cs b => hsel j oj cs b hoj) hy h1
      have hfree' : ∀ k ok, ops[k]? = some ok → k ≠ i → (listed.setIfInBounds j true).getD k true = false →
          (∀ e ∈ ok.after, Region.binds md e = true → e.on ≠ i) → oi.apart ops ok = true := fun k ok hk hki hun hno => by
        refine hfree k ok hk hki ?_ hno
        by_cases hjk : j = k
        · subst hjk; exact hjun
        · rw [getD_set_ne true hjk] at hun; exact hun
      refine qOp_mono (fun a' h3 => ih (listed.setIfInBounds j true) a' (hc.step hj) hfree' (ready_mono hr (Ne.symm hji)) h3.1 ?_) h2
      rw [Array.setIfInBounds_comm _ _ hji]
      exact h3.2
/-- The text's order is one of theirs. -/
def lexN (md : Region.Mode) (ops : Array Oper) (N : Nat) : Nat → Nat → Array Bool → Bool
  | 0, _, listed => listed == upto ops N
  | n + 1, k, listed => (Region.ready md ops listed).contains k && Region.free md ops listed k && lexN md ops N n (k + 1) (listed.setIfInBounds k true)
theorem wpFirst_lex {K : Act → Prop} {N m : Nat} (hs : Region.noSelect ops = true) (hT : tailB md ops N m = true) : ∀ (l : List Oper) (k : Nat) (listed : Array Bool) (a : Act), Closed md ops listed → (∀ j, j < l.length → l[j]? = ops[k + j]?) →
    lexN md ops N l.length k listed = true → wpQuiet P ops C K l a → wpFirst P md ops C (fun listed a => listed = upto ops N ∧ K a) l.length listed a
  | [], _, listed, _, _, _, hB, h => ⟨by simpa [lexN] using hB, h⟩
  | o :: l, k, listed, a, hc, hl, hB, h => by
    have h0 : ops[k]? = some o := by simpa using (hl 0 (by simp)).symm
    simp only [List.length_cons, lexN, Bool.and_eq_true] at hB
    obtain ⟨⟨hr, hf⟩, hB'⟩ := hB
    have hst : qOp P ops C k (wpQuiet P ops C K l) a := by unfold qOp; simp only [h0]; exact h
    obtain ⟨v, hy, hK⟩ := yieldsIn_of_qOp h0 hst
    have hr' : k ∈ Region.ready md ops listed := by simpa using hr
    exact wpFirst_first hT h0 (Region.noSelect_spec hs) l.length listed a hc (Region.free_spec h0 hf) hr' hy
      (wpFirst_lex hs hT l (k + 1) _ _ (hc.step hr') (fun j hj => by have := hl (j + 1) (by simpa using hj); simpa [Nat.add_assoc, Nat.add_comm 1 j] using this) hB' hK)
theorem wp_region_tail {id : Nat} {Q : Exit → Act → World → Prop} {a : Act} {w : World} (N m fuel : Nat) (hN : ops.size = fuel + N) (hm : P.follows .mixedOrders = true) (hs : Region.noSelect ops = true) (hT : tailB .any ops N m = true) (hB : lexN .any ops N N 0 (Array.replicate ops.size false) = true)
    (hC : C w.drew) (h : wpQuiet P ops C (fun a' => ∀ w', C w' → wpAny P .any ops Q fuel (upto ops N) a' w') (ops.toList.take N) a) : (Code.region id ops true).wp P Q a w := by
  have hlen : (ops.toList.take N).length = N := by simp; omega
  refine wp_region_any hm ?_
  rw [hN]
  refine wpAny_of_first (C := C) (K := fun listed a => listed = upto ops N ∧ ∀ w', C w' → wpAny P .any ops Q fuel (upto ops N) a w') (fun listed a w hw hk => by rw [hk.1]; exact hk.2 w hw) N _ _ _ hC ?_
  have := wpFirst_lex (P := P) (C := C) hs hT (ops.toList.take N) 0 (Array.replicate ops.size false) a Closed.start (fun j hj => by rw [List.getElem?_take, if_pos (by omega)]; simp) (by rw [hlen]; exact hB) h
  rw [hlen, hN] at this
  exact this
/-- The end of a region, of whose frame but one slot is wanted: the frame a variable. -/
theorem held_end {Q : Exit → Act → World → Prop} {S : World → Prop} {fuel : Nat} {listed : Array Bool} {a : Act} {w : World} (t : Nat) (v : Value) (hr : Region.ready md ops listed = []) (hd : a.defers = []) (hv : a.tmps.getD t undef = v)
    (h : ∀ a' : Act, a'.defers = [] → a'.tmps.getD t undef = v → Q .normal a' w) : wpAnyH P md ops Q S fuel listed a w := wpAnyH_done hr (h a hd hv) fuel
end
end Go.Proofs.Ytbamdilihpnhjaa.Base
