/-
  Packets by value that came in: what a walk knows of them. Nothing here names a program.
-/
import Derived.Test.YtbdafmomjboaaaaDoorStructs
import Derived.Test.YtbdafmomjboaaaaDoorHeadPlain
namespace Go.Proofs.YtbdafmomjboaaaaDoor.Base
set_option linter.unusedVariables false
open Go.ChangeShapes Go.WideShapes Go.RowKit Go.Deep
open Go.Proofs.YtbdafmomjboaaaaDoor.HeadPlain Go.Proofs.YtbdafmomjboaaaaDoor.OctPlain

/-- The numbers of a packet lie in their words. -/
def Words (d : D) : Prop := (0 ≤ d.pn ∧ d.pn ≤ 18446744073709551615) ∧ (0 ≤ d.least ∧ d.least ≤ 18446744073709551615) ∧ (0 ≤ d.off ∧ d.off ≤ 18446744073709551615) ∧ (0 ≤ d.nonce ∧ d.nonce ≤ 18446744073709551615) ∧ (-9223372036854775808 ≤ d.ecn ∧ d.ecn ≤ 9223372036854775807) ∧ Bytes d.body
theorem list6 {α : Type} {l : List α} (h : l.length = 6) : ∃ a b c d e f, l = [a, b, c, d, e, f] := by
  match l, h with
  | [a, b, c, d, e, f], _ => exact ⟨a, b, c, d, e, f, rfl⟩
section
variable {H : Type} {enc : TypeId × Value → H} {P : Program} {w : World} {base : Nat} {held : Bool}
theorem open_data {r : Reach} {b0 : Nat} {t e : TypeId} {f0 f1 f2 f3 f4 f5 : Field} {v : Value} {d : DataW H} {p : List MemPlace} (hs : P.underlying t = some (.struct #[f0, f1, f2, f3, f4, f5])) (hone : oneCellFields P #[f0, f1, f2, f3, f4, f5] = true) (hC : P.cellsOf t = 6)
    (u0 : P.underlying f0.type = some (.int .u64)) (u1 : P.underlying f1.type = some (.int .u64)) (u2 : P.underlying f2.type = some (.int .u64)) (u3 : P.underlying f3.type = some (.int .u64)) (u4 : P.underlying f4.type = some (.int .i64)) (u5 : P.underlying f5.type = some (.slice e))
    (ue : P.underlying e = some (.int .u8)) (ce : P.cellsOf e = 1) (hv : Value.okWide P w r b0 t v) (h : DataW.Trod enc P w base (fun _ => true) held t v d p) :
    ∃ (x : D) (a : Option Addr) (len cap : Nat), v = .agg #[.int .u64 x.pn, .int .u64 x.least, .int .u64 x.off, .int .u64 x.nonce, .int .i64 x.ecn, .slice a len cap] ∧
      x.body.length = len ∧ len ≤ cap ∧ cap ≤ maxLen ∧ (a = none → len = 0 ∧ cap = 0) ∧ Ints .u8 w a x.body ∧ Words x := by
  obtain ⟨cs, ys, n, rfl, hl, _, _, hf⟩ := open_struct hs hone hC hv h
  obtain ⟨c0, c1, c2, c3, c4, c5, rfl⟩ := list6 hl
  obtain ⟨v0, y0, e0, _, t0⟩ := hf 0 f0 rfl
  obtain ⟨v1, y1, e1, _, t1⟩ := hf 1 f1 rfl
  obtain ⟨v2, y2, e2, _, t2⟩ := hf 2 f2 rfl
  obtain ⟨v3, y3, e3, _, t3⟩ := hf 3 f3 rfl
  obtain ⟨v4, y4, e4, _, t4⟩ := hf 4 f4 rfl
  obtain ⟨v5, y5, e5, _, t5⟩ := hf 5 f5 rfl
  simp at e0 e1 e2 e3 e4 e5
  subst e0 e1 e2 e3 e4 e5
  obtain ⟨n0, g0, _, w0⟩ := DataW.trod_int u0 t0
  obtain ⟨n1, g1, _, w1⟩ := DataW.trod_int u1 t1
  obtain ⟨n2, g2, _, w2⟩ := DataW.trod_int u2 t2
  obtain ⟨n3, g3, _, w3⟩ := DataW.trod_int u3 t3
  obtain ⟨n4, g4, _, w4⟩ := DataW.trod_int u4 t4
  injection g0 with g0
  injection g1 with g1
  injection g2 with g2
  injection g3 with g3
  injection g4 with g4
  subst g0 g1 g2 g3 g4
  rcases open_ints u5 ue ce t5 with ⟨hcs, _⟩ | ⟨x, len, cap, zs, hcs, _, hle, hm, hz, _, hcell, hwz⟩
  · injection hcs with hcs
    subst hcs
    exact ⟨⟨n0, n1, n2, n3, n4, []⟩, none, 0, 0, rfl, rfl, Nat.le_refl _, Nat.zero_le _, fun _ => ⟨rfl, rfl⟩, Ints.nil _ _ _, u64_of w0, u64_of w1, u64_of w2, u64_of w3, i64_of w4, Bytes.nil⟩
  · injection hcs with hcs
    subst hcs
    refine ⟨⟨n0, n1, n2, n3, n4, zs.take len⟩, some x, len, cap, rfl, take_len hle (by simpa using hz), hle, hm, (fun e => by cases e), ints_of hle (by simpa using hz) hcell, u64_of w0, u64_of w1, u64_of w2, u64_of w3, i64_of w4, fun y hy => u8_of (hwz y (List.mem_of_mem_take hy))⟩
end
end Go.Proofs.YtbdafmomjboaaaaDoor.Base
