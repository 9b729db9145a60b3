/-
  A round that came in by value. Nothing here names a program.
-/
import Derived.Test.YtmgkigjjmghmhaaStructs
import Derived.Test.YtmgkigjjmghmhaaRoundPlain
set_option linter.unusedSimpArgs false
set_option linter.unusedVariables false
namespace Go.Proofs.Ytmgkigjjmghmhaa.Round
set_option linter.unusedVariables false
open Go.ChangeShapes Go.WideShapes Go.RowKit Go.Deep
open Go.Proofs.Ytmgkigjjmghmhaa.Base Go.Proofs.Ytmgkigjjmghmhaa.RoundPlain
section
variable {H : Type} {enc : TypeId × Value → H} {P : Program} {w : World} {base : Nat} {held : Bool}
theorem open_round {r : Reach} {b0 : Nat} {t : TypeId} {f0 f1 : Field} {v : Value} {d : DataW H} {p : List MemPlace} (hs : P.underlying t = some (.struct #[f0, f1])) (hone : oneCellFields P #[f0, f1] = true) (hC : P.cellsOf t = 2)
    (u0 : P.underlying f0.type = some (.int .u64)) (u1 : P.underlying f1.type = some (.int .u64)) (hv : Value.okWide P w r b0 t v) (h : DataW.Trod enc P w base (fun _ => true) held t v d p) :
    ∃ x : Rd, v = .agg #[.int .u64 x.end_, .int .u64 x.cuts] ∧ DFit x := by
  obtain ⟨cs, ys, n, rfl, hl, _, _, hf⟩ := open_struct hs hone hC hv h
  obtain ⟨c0, c1, rfl⟩ : ∃ a b, cs = [a, b] := by
    match cs, hl with
    | [a, b], _ => exact ⟨a, b, rfl⟩
  obtain ⟨v0, y0, e0, _, t0⟩ := hf 0 f0 rfl
  obtain ⟨v1, y1, e1, _, t1⟩ := hf 1 f1 rfl
  simp at e0 e1
  subst e0 e1
  obtain ⟨n0, g0, _, w0⟩ := DataW.trod_int u0 t0
  obtain ⟨n1, g1, _, w1⟩ := DataW.trod_int u1 t1
  injection g0 with g0
  injection g1 with g1
  subst g0 g1
  exact ⟨⟨n0, n1⟩, rfl, (u64_of w0).1, (u64_of w0).2, (u64_of w1).1, (u64_of w1).2⟩
end
end Go.Proofs.Ytmgkigjjmghmhaa.Round
