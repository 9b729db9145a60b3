/-
  A region that draws its order, whose first operations are quiet and whose others all wait, each of them for all of the first ones or for another of the others: one walk of the first ones, in the text's order; then the others, in any world of the class (XTail with no one operation that the others wait for). Nothing here names a program.
-/
import Derived.Test.YtbamdilihpnhjaaTail
set_option linter.unusedSimpArgs false
set_option linter.unusedVariables false
namespace Go.Proofs.Ytbamdilihpnhjaa.Base
set_option linter.unusedVariables false
open Go.ChangeShapes Go.WideShapes Go.RowKit
section
variable {P : Program} {ops : Array Oper} {md : Region.Mode} {C : World → Prop}

/-- Each of the first N has one among them that waits for it, or each of the others waits for it or for one of the others. -/
def restB (md : Region.Mode) (ops : Array Oper) (N : Nat) : Bool :=
  (List.range N).all fun i => ((List.range N).any fun k => k != i && match ops[k]? with | some o => o.after.any (fun e => Region.binds md e && e.on == i) | none => false) ||
    (List.range ops.size).all fun j => decide (j < N) || match ops[j]? with | some o => o.after.any (fun e => Region.binds md e && (e.on == i || decide (N ≤ e.on))) | none => false
theorem alone_rest {N i j : Nat} {listed : Array Bool} (hT : restB md ops N = true) (hc : Closed md ops listed) (hi : i ∈ Region.ready md ops listed) (hL : listed.setIfInBounds i true = upto ops N) (hj : j ∈ Region.ready md ops listed) (hji : j ≠ i) : False := by
  obtain ⟨hju, oj, hoj, hja⟩ := mem_ready.1 hj
  obtain ⟨hiu, oi, hoi, hia⟩ := mem_ready.1 hi
  have hjs : j < ops.size := (Array.getElem?_eq_some_iff.1 hoj).1
  have his : i < ops.size := (Array.getElem?_eq_some_iff.1 hoi).1
  have hsz : listed.size = ops.size := by
    have := congrArg Array.size hL
    simpa [upto] using this
  have hne : ∀ k d, k ≠ i → k < ops.size → listed.getD k d = decide (k < N) := fun k d hk hks => by
    rw [← upto_getD d hks, ← hL, getD_set_ne d (Ne.symm hk)]
  have hiN : i < N := by
    have h1 : (listed.setIfInBounds i true).getD i false = true := by simp [hsz, his]
    rw [hL, upto_getD false his] at h1
    exact of_decide_eq_true h1
  have hun : listed.getD i false = true → False := fun h3 => by
    have h5 : listed.getD i true = true := by
      simp [hsz, his] at h3 ⊢
      exact h3
    rw [h5] at hiu
    cases hiu
  have hjN : N ≤ j := by
    by_cases hjN : j < N
    · rw [hne j true hji hjs] at hju
      exact absurd hjN (of_decide_eq_false hju)
    · omega
  unfold restB at hT
  have hT := List.all_eq_true.1 hT i (List.mem_range.2 hiN)
  rcases Bool.or_eq_true_iff.1 hT with h6 | h6
  · obtain ⟨k, hk, h7⟩ := List.any_eq_true.1 h6
    rw [List.mem_range] at hk
    simp only [Bool.and_eq_true, bne_iff_ne, ne_eq] at h7
    obtain ⟨h7, h8⟩ := h7
    cases hok : ops[k]? with
    | none => rw [hok] at h8; cases h8
    | some ok =>
      rw [hok] at h8
      have hks : k < ops.size := (Array.getElem?_eq_some_iff.1 hok).1
      obtain ⟨e', he', hb'⟩ := Array.any_eq_true'.1 h8
      simp only [Bool.and_eq_true, beq_iff_eq] at hb'
      have h9 := hc k ok hok (by rw [hne k false h7 hks]; exact decide_eq_true hk) e' he' hb'.1
      rw [hb'.2] at h9
      exact hun h9
  · have h2 := List.all_eq_true.1 h6 j (List.mem_range.2 hjs)
    have h2 := (Bool.or_eq_true_iff.1 h2).resolve_left (by simp; omega)
    simp only [hoj] at h2
    obtain ⟨e, he, hb⟩ := Array.any_eq_true'.1 h2
    simp only [Bool.and_eq_true, Bool.or_eq_true, beq_iff_eq, decide_eq_true_eq] at hb
    have h3 := hja e he hb.1
    rcases hb.2 with hm | hm
    · rw [hm] at h3
      exact hun h3
    · by_cases hei : e.on = i
      · omega
      · by_cases hes : e.on < ops.size
        · rw [hne e.on false hei hes] at h3
          have := of_decide_eq_true h3
          omega
        · have : listed.getD e.on false = false := by simp [hsz, hes]
          rw [this] at h3
          cases h3
theorem rest_first {K : Act → Prop} {N i : Nat} {oi : Oper} {v : Value} (hT : restB md ops N = true) (hi : ops[i]? = some oi) (hsel : ∀ (j : Nat) (o : Oper) cs b, ops[j]? = some o → o.op ≠ .select cs b) :
    ∀ (n : Nat) (listed : Array Bool) (a : Act), Closed md ops listed →
      (∀ j oj, ops[j]? = some oj → j ≠ i → listed.getD j true = false → (∀ e ∈ oj.after, Region.binds md e = true → e.on ≠ i) → oi.apart ops oj = true) →
      i ∈ Region.ready md ops listed → YieldsIn P ops C oi v a →
      wpFirst P md ops C (fun listed a => listed = upto ops N ∧ K a) n (listed.setIfInBounds i true) (a.put oi.dst v) → wpFirst P md ops C (fun listed a => listed = upto ops N ∧ K a) (n + 1) listed a := by
  intro n
  induction n with
  | zero =>
    intro listed a hc _ hr hy H
    refine ⟨fun h => (by rw [h] at hr; cases hr), fun j hj => ?_⟩
    by_cases hji : j = i
    · subst hji; exact hy.qOp hi H
    · exact (alone_rest hT hc hr H.1 hj hji).elim
  | succ n ih =>
    intro listed a hc hfree hr hy H
    refine ⟨fun h => (by rw [h] at hr; cases hr), fun j hj => ?_⟩
    by_cases hji : j = i
    · subst hji; exact hy.qOp hi H
    · have h1 := H.2 j (ready_mono hj hji)
      obtain ⟨hjun, oj, hoj, hall⟩ := mem_ready.1 hj
      have hnot : ∀ e ∈ oj.after, Region.binds md e = true → e.on ≠ i := fun e he hb heq => by
        have h1 := hall e he hb
        have h0 := (mem_ready.1 hr).1
        rw [heq] at h1
        rcases Nat.lt_or_ge i listed.size with h' | h'
        · simp [h'] at h0 h1; rw [h0] at h1; cases h1
        · simp [Array.getElem?_eq_none h'] at h1
      have h2 := qOp_put hoj (hfree j oj hoj hji hjun hnot) (fun cs b => hsel i oi cs b hi) (fun cs b => hsel j oj cs b hoj) hy h1
      have hfree' : ∀ k ok, ops[k]? = some ok → k ≠ i → (listed.setIfInBounds j true).getD k true = false →
          (∀ e ∈ ok.after, Region.binds md e = true → e.on ≠ i) → oi.apart ops ok = true := fun k ok hk hki hun hno => by
        refine hfree k ok hk hki ?_ hno
        by_cases hjk : j = k
        · subst hjk; exact hjun
        · rw [getD_set_ne true hjk] at hun; exact hun
      refine qOp_mono (fun a' h3 => ih (listed.setIfInBounds j true) a' (hc.step hj) hfree' (ready_mono hr (Ne.symm hji)) h3.1 ?_) h2
      rw [Array.setIfInBounds_comm _ _ hji]
      exact h3.2
theorem rest_lex {K : Act → Prop} {N : Nat} (hs : Region.noSelect ops = true) (hT : restB md ops N = true) : ∀ (l : List Oper) (k : Nat) (listed : Array Bool) (a : Act), Closed md ops listed → (∀ j, j < l.length → l[j]? = ops[k + j]?) →
    lexN md ops N l.length k listed = true → wpQuiet P ops C K l a → wpFirst P md ops C (fun listed a => listed = upto ops N ∧ K a) l.length listed a
  | [], _, listed, _, _, _, hB, h => ⟨by simpa [lexN] using hB, h⟩
  | o :: l, k, listed, a, hc, hl, hB, h => by
    have h0 : ops[k]? = some o := by simpa using (hl 0 (by simp)).symm
    simp only [List.length_cons, lexN, Bool.and_eq_true] at hB
    obtain ⟨⟨hr, hf⟩, hB'⟩ := hB
    have hst : qOp P ops C k (wpQuiet P ops C K l) a := by unfold qOp; simp only [h0]; exact h
    obtain ⟨v, hy, hK⟩ := yieldsIn_of_qOp h0 hst
    have hr' : k ∈ Region.ready md ops listed := by simpa using hr
    exact rest_first hT h0 (Region.noSelect_spec hs) l.length listed a hc (Region.free_spec h0 hf) hr' hy
      (rest_lex hs hT l (k + 1) _ _ (hc.step hr') (fun j hj => by have := hl (j + 1) (by simpa using hj); simpa [Nat.add_assoc, Nat.add_comm 1 j] using this) hB' hK)
theorem wp_region_rest {id : Nat} {Q : Exit → Act → World → Prop} {a : Act} {w : World} (N fuel : Nat) (hN : ops.size = fuel + N) (hm : P.follows .mixedOrders = true) (hs : Region.noSelect ops = true) (hT : restB .any ops N = true) (hB : lexN .any ops N N 0 (Array.replicate ops.size false) = true)
    (hC : C w.drew) (h : wpQuiet P ops C (fun a' => ∀ w', C w' → wpAny P .any ops Q fuel (upto ops N) a' w') (ops.toList.take N) a) : (Code.region id ops true).wp P Q a w := by
  have hlen : (ops.toList.take N).length = N := by simp; omega
  refine wp_region_any hm ?_
  rw [hN]
  refine wpAny_of_first (C := C) (K := fun listed a => listed = upto ops N ∧ ∀ w', C w' → wpAny P .any ops Q fuel (upto ops N) a w') (fun listed a w hw hk => by rw [hk.1]; exact hk.2 w hw) N _ _ _ hC ?_
  have := rest_lex (P := P) (C := C) hs hT (ops.toList.take N) 0 (Array.replicate ops.size false) a Closed.start (fun j hj => by rw [List.getElem?_take, if_pos (by omega)]; simp) (by rw [hlen]; exact hB) h
  rw [hlen, hN] at this
  exact this
end
end Go.Proofs.Ytbamdilihpnhjaa.Base
