/-
  What is known of round trips, come in by value. Nothing here names a program.
-/
import Derived.Test.YtjnnlffpleanpaaStructs
import Derived.Test.YtjnnlffpleanpaaRttPlain
set_option linter.unusedSimpArgs false
set_option linter.unusedVariables false
namespace Go.Proofs.Ytjnnlffpleanpaa.Rtt
set_option linter.unusedVariables false
open Go.ChangeShapes Go.WideShapes Go.RowKit Go.Deep
open Go.Proofs.Ytjnnlffpleanpaa.Base Go.Proofs.Ytjnnlffpleanpaa.RttPlain
section
variable {H : Type} {enc : TypeId × Value → H} {P : Program} {w : World} {base : Nat} {held : Bool}
theorem list5 {α : Type} {l : List α} (h : l.length = 5) : ∃ a b c d e, l = [a, b, c, d, e] := by
  match l, h with
  | [a, b, c, d, e], _ => exact ⟨a, b, c, d, e, rfl⟩
theorem open_rtt {r : Reach} {b0 : Nat} {t : TypeId} {f0 f1 f2 f3 f4 : Field} {v : Value} {d : DataW H} {p : List MemPlace} (hs : P.underlying t = some (.struct #[f0, f1, f2, f3, f4])) (hone : oneCellFields P #[f0, f1, f2, f3, f4] = true) (hC : P.cellsOf t = 5)
    (u0 : P.underlying f0.type = some .bool) (u1 : P.underlying f1.type = some (.int .u64)) (u2 : P.underlying f2.type = some (.int .u64)) (u3 : P.underlying f3.type = some (.int .u64)) (u4 : P.underlying f4.type = some (.int .u64))
    (hv : Value.okWide P w r b0 t v) (h : DataW.Trod enc P w base (fun _ => true) held t v d p) :
    ∃ x : Rt, v = .agg #[.bool x.has, .int .u64 x.latest, .int .u64 x.smooth, .int .u64 x.dev, .int .u64 x.least] ∧ RFit x := by
  obtain ⟨cs, ys, n, rfl, hl, _, _, hf⟩ := open_struct hs hone hC hv h
  obtain ⟨c0, c1, c2, c3, c4, rfl⟩ := list5 hl
  obtain ⟨v0, y0, e0, _, t0⟩ := hf 0 f0 rfl
  obtain ⟨v1, y1, e1, _, t1⟩ := hf 1 f1 rfl
  obtain ⟨v2, y2, e2, _, t2⟩ := hf 2 f2 rfl
  obtain ⟨v3, y3, e3, _, t3⟩ := hf 3 f3 rfl
  obtain ⟨v4, y4, e4, _, t4⟩ := hf 4 f4 rfl
  simp at e0 e1 e2 e3 e4
  subst e0 e1 e2 e3 e4
  obtain ⟨n0, g0, _⟩ := DataW.trod_bool u0 t0
  obtain ⟨n1, g1, _, w1⟩ := DataW.trod_int u1 t1
  obtain ⟨n2, g2, _, w2⟩ := DataW.trod_int u2 t2
  obtain ⟨n3, g3, _, w3⟩ := DataW.trod_int u3 t3
  obtain ⟨n4, g4, _, w4⟩ := DataW.trod_int u4 t4
  injection g0 with g0
  injection g1 with g1
  injection g2 with g2
  injection g3 with g3
  injection g4 with g4
  subst g0 g1 g2 g3 g4
  exact ⟨⟨n0, n1, n2, n3, n4⟩, rfl, (u64_of w1).1, (u64_of w1).2, (u64_of w2).1, (u64_of w2).2, (u64_of w3).1, (u64_of w3).2, (u64_of w4).1, (u64_of w4).2⟩
end
end Go.Proofs.Ytjnnlffpleanpaa.Rtt
