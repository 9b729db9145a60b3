/-
  Acknowledgments by value that came in: what a walk knows of them. Nothing here names a program.
-/
import Derived.Test.YtlhjnbommlaioaaStructs
import Derived.Test.YtlhjnbommlaioaaSpanRow
import Derived.Test.YtlhjnbommlaioaaAckPlain
namespace Go.Proofs.Ytlhjnbommlaioaa.Base
set_option linter.unusedVariables false
open Go.ChangeShapes Go.WideShapes Go.RowKit Go.Deep
open Go.Proofs.Ytlhjnbommlaioaa.SpanPlain
open Go.Proofs.Ytlhjnbommlaioaa.AckPlain (K)

/-- The numbers of an acknowledgment lie in their words. -/
def Words9 (x : K) : Prop := Fits x.spans ∧ Fits x.marked ∧ (0 ≤ x.trigger ∧ x.trigger ≤ 18446744073709551615) ∧ (0 ≤ x.xor ∧ x.xor ≤ 18446744073709551615)
theorem list5 {α : Type} {l : List α} (h : l.length = 5) : ∃ a b c d e, l = [a, b, c, d, e] := by
  match l, h with
  | [a, b, c, d, e], _ => exact ⟨a, b, c, d, e, rfl⟩
section
variable {H : Type} {enc : TypeId × Value → H} {P : Program} {w : World} {base : Nat} {held : Bool}
/-- One field that is a slice of spans. -/
theorem open_row {n : Nat} {t e : TypeId} {g0 g1 : Field} {u : Value} {y : DataW H × List MemPlace} (ut : P.underlying t = some (.slice e)) (ue : P.underlying e = some (.struct #[g0, g1])) (ce : P.cellsOf e = 2)
    (o0 : g0.offset = 0) (o1 : g1.offset = 1) (c0 : P.cellsOf g0.type = 1) (c1 : P.cellsOf g1.type = 1)
    (v0 : P.underlying g0.type = some (.int .u64)) (v1 : P.underlying g1.type = some (.int .u64)) (h : DataW.trod enc P w base (fun _ => true) held n t [u] = some y) :
    ∃ (z : List Sp) (a : Option Addr) (len cap : Nat), u = .slice a len cap ∧ z.length = len ∧ len ≤ cap ∧ cap ≤ maxLen ∧ (a = none → len = 0 ∧ cap = 0) ∧ Spans w a z ∧ Fits z := by
  rcases open_spans ut ue ce o0 o1 c0 c1 v0 v1 h with ⟨hcs, _⟩ | ⟨a, len, cap, zs, E, S, hcs, hl, hm, hz, _, _, _, hr, hw⟩
  · injection hcs with hcs
    exact ⟨[], none, 0, 0, hcs, rfl, Nat.le_refl _, Nat.zero_le _, (fun _ => ⟨rfl, rfl⟩), Spans.nil _ _, Fits.nil⟩
  · injection hcs with hcs
    exact ⟨zs, some a, len, cap, hcs, hz, hl, hm, (fun e => by cases e), hr, fun s hs => ⟨u64_of (hw s hs).1, u64_of (hw s hs).2⟩⟩
theorem open_ack {r : Reach} {b0 : Nat} {t e : TypeId} {f0 f1 f2 f3 f4 g0 g1 : Field} {v : Value} {d : DataW H} {p : List MemPlace} (hs : P.underlying t = some (.struct #[f0, f1, f2, f3, f4])) (hone : oneCellFields P #[f0, f1, f2, f3, f4] = true) (hC : P.cellsOf t = 5)
    (u0 : P.underlying f0.type = some (.slice e)) (u1 : P.underlying f1.type = some (.slice e)) (u2 : P.underlying f2.type = some (.int .u64)) (u3 : P.underlying f3.type = some (.int .u64)) (u4 : P.underlying f4.type = some .bool)
    (ue : P.underlying e = some (.struct #[g0, g1])) (ce : P.cellsOf e = 2) (o0 : g0.offset = 0) (o1 : g1.offset = 1) (c0 : P.cellsOf g0.type = 1) (c1 : P.cellsOf g1.type = 1) (v0 : P.underlying g0.type = some (.int .u64)) (v1 : P.underlying g1.type = some (.int .u64))
    (hv : Value.okWide P w r b0 t v) (h : DataW.Trod enc P w base (fun _ => true) held t v d p) :
    ∃ (x : K) (a : Option Addr) (len cap : Nat) (b : Option Addr) (lem cam : Nat), v = .agg #[.slice a len cap, .slice b lem cam, .int .u64 x.trigger, .int .u64 x.xor, .bool x.parity] ∧
      (x.spans.length = len ∧ len ≤ cap ∧ cap ≤ maxLen ∧ (a = none → len = 0 ∧ cap = 0) ∧ Spans w a x.spans) ∧ (x.marked.length = lem ∧ lem ≤ cam ∧ cam ≤ maxLen ∧ (b = none → lem = 0 ∧ cam = 0) ∧ Spans w b x.marked) ∧ Words9 x := by
  obtain ⟨cs, ys, n, rfl, hl, _, _, hf⟩ := open_struct hs hone hC hv h
  obtain ⟨w0, w1, w2, w3, w4, rfl⟩ := list5 hl
  obtain ⟨s0, y0, q0, _, t0⟩ := hf 0 f0 rfl
  obtain ⟨s1, y1, q1, _, t1⟩ := hf 1 f1 rfl
  obtain ⟨s2, y2, q2, _, t2⟩ := hf 2 f2 rfl
  obtain ⟨s3, y3, q3, _, t3⟩ := hf 3 f3 rfl
  obtain ⟨s4, y4, q4, _, t4⟩ := hf 4 f4 rfl
  simp at q0 q1 q2 q3 q4
  subst q0 q1 q2 q3 q4
  obtain ⟨z0, a, len, cap, rfl, n0, m0, x0, e0, r0, k0⟩ := open_row u0 ue ce o0 o1 c0 c1 v0 v1 t0
  obtain ⟨z1, b, lem, cam, rfl, n1, m1, x1, e1, r1, k1⟩ := open_row u1 ue ce o0 o1 c0 c1 v0 v1 t1
  obtain ⟨n2, g2, _, p2⟩ := DataW.trod_int u2 t2
  obtain ⟨n3, g3, _, p3⟩ := DataW.trod_int u3 t3
  obtain ⟨n4, g4, _⟩ := DataW.trod_bool u4 t4
  injection g2 with g2
  injection g3 with g3
  injection g4 with g4
  subst g2 g3 g4
  exact ⟨⟨z0, z1, n2, n3, n4⟩, a, len, cap, b, lem, cam, rfl, ⟨n0, m0, x0, e0, r0⟩, ⟨n1, m1, x1, e1, r1⟩, k0, k1, u64_of p2, u64_of p3⟩
end
end Go.Proofs.Ytlhjnbommlaioaa.Base
