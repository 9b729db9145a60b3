/-
  Arrays of four whole numbers that come in. Nothing here names a program.
-/
import Derived.WideKeyArr2
set_option linter.unusedSimpArgs false
set_option linter.unusedVariables false
namespace Go.Proofs.YtkiloaebokkjbaaGreat.Base
set_option linter.unusedVariables false
open Go.ChangeShapes Go.WideShapes Go.WideMaps
section
variable {H : Type} {enc : TypeId × Value → H} {P : Program} {k e : TypeId} {q : IntKind} {W : World} {base : Nat} {sp : Nat → Bool} {held : Bool}
theorem open_quad (hu : P.underlying k = some (.array 4 e)) (he : P.underlying e = some (.int q)) (plain : P.plainKey e = true) (one : P.cellsOf e = 1) (size : P.cellsOf k = 4) {r : Reach} {b0 : Nat} {v : Value} {d : DataW H} {ps : List MemPlace} (hval : Value.okWide P W r b0 k v) (hd : DataW.Trod enc P W base sp held k v d ps) :
    ∃ a b c d' : Int, v = .agg #[.int q a, .int q b, .int q c, .int q d'] ∧ (Lit.int q a).wf = true ∧ (Lit.int q b).wf = true ∧ (Lit.int q c).wf = true ∧ (Lit.int q d').wf = true := by
  obtain ⟨⟨l⟩, rfl, hl⟩ := okWide_arr (⟨hu, plain, one, size⟩ : ArrKey P k e 4) hval
  obtain ⟨fuel, hf⟩ := hd
  match l, hl with
  | [v0, v1, v2, v3], _ =>
    cases fuel with
    | zero => simp [DataW.trod] at hf
    | succ n =>
      rw [DataW.trod_step] at hf
      unfold DataW.trodStep at hf
      simp only [hu, Value.cells, size] at hf
      rw [if_pos (show [v0, v1, v2, v3].length = 4 from rfl), Option.map_eq_some_iff] at hf
      obtain ⟨xs, hx, _⟩ := hf
      rw [show List.range 4 = [0, 1, 2, 3] from rfl] at hx
      simp only [List.mapM_cons, List.mapM_nil, bind, Option.bind_eq_some_iff, pure, Option.some.injEq, one] at hx
      obtain ⟨_, h0, _, ⟨_, h1, _, ⟨_, h2, _, ⟨_, h3, _⟩, _⟩, _⟩, _⟩ := hx
      obtain ⟨x0, e0, _, w0⟩ := DataW.trod_int he h0
      obtain ⟨x1, e1, _, w1⟩ := DataW.trod_int he h1
      obtain ⟨x2, e2, _, w2⟩ := DataW.trod_int he h2
      obtain ⟨x3, e3, _, w3⟩ := DataW.trod_int he h3
      simp at e0 e1 e2 e3
      subst e0 e1 e2 e3
      exact ⟨x0, x1, x2, x3, rfl, w0, w1, w2, w3⟩
end
end Go.Proofs.YtkiloaebokkjbaaGreat.Base
