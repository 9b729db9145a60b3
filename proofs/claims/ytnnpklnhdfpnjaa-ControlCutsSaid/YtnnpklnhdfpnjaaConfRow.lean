/-
  A configuration that came in by value. Nothing here names a program.
-/
import Derived.Test.YtnnpklnhdfpnjaaStructs
import Derived.Test.YtnnpklnhdfpnjaaConfTurn
set_option linter.unusedSimpArgs false
set_option linter.unusedVariables false
namespace Go.Proofs.Ytnnpklnhdfpnjaa.Conf
set_option linter.unusedVariables false
open Go.ChangeShapes Go.WideShapes Go.RowKit Go.Deep
open Go.Proofs.Ytnnpklnhdfpnjaa.Base Go.Proofs.Ytnnpklnhdfpnjaa.ConfPlain
theorem list17 {α : Type} {l : List α} (h : l.length = 17) : ∃ a0 a1 a2 a3 a4 a5 a6 a7 a8 a9 a10 a11 a12 a13 a14 a15 a16, l = [a0, a1, a2, a3, a4, a5, a6, a7, a8, a9, a10, a11, a12, a13, a14, a15, a16] :=
  match l, h with
  | [a0, a1, a2, a3, a4, a5, a6, a7, a8, a9, a10, a11, a12, a13, a14, a15, a16], _ => ⟨a0, a1, a2, a3, a4, a5, a6, a7, a8, a9, a10, a11, a12, a13, a14, a15, a16, rfl⟩
section
variable {H : Type} {enc : TypeId × Value → H} {P : Program} {w : World} {base : Nat} {held : Bool}
set_option maxHeartbeats 1000000 in
theorem open_config {r : Reach} {b0 : Nat} {t : TypeId} {f0 f1 f2 f3 f4 f5 f6 f7 f8 f9 f10 f11 f12 f13 f14 f15 f16 : Field} {v : Value} {d : DataW H} {p : List MemPlace} (hs : P.underlying t = some (.struct #[f0, f1, f2, f3, f4, f5, f6, f7, f8, f9, f10, f11, f12, f13, f14, f15, f16])) (hone : oneCellFields P #[f0, f1, f2, f3, f4, f5, f6, f7, f8, f9, f10, f11, f12, f13, f14, f15, f16] = true) (hC : P.cellsOf t = 17)
    (u0 : P.underlying f0.type = some (.int .i64)) (u1 : P.underlying f1.type = some (.int .u64)) (u2 : P.underlying f2.type = some (.int .i64)) (u3 : P.underlying f3.type = some (.int .u64)) (u4 : P.underlying f4.type = some (.int .i64)) (u5 : P.underlying f5.type = some (.int .u64)) (u6 : P.underlying f6.type = some (.int .u64)) (u7 : P.underlying f7.type = some (.int .u64)) (u8 : P.underlying f8.type = some (.int .u64)) (u9 : P.underlying f9.type = some (.int .i64)) (u10 : P.underlying f10.type = some (.int .u64)) (u11 : P.underlying f11.type = some (.int .u64)) (u12 : P.underlying f12.type = some (.int .u64)) (u13 : P.underlying f13.type = some (.int .u64)) (u14 : P.underlying f14.type = some (.int .u64)) (u15 : P.underlying f15.type = some (.int .i64)) (u16 : P.underlying f16.type = some (.int .u64))
    (hv : Value.okWide P w r b0 t v) (h : DataW.Trod enc P w base (fun _ => true) held t v d p) :
    ∃ c : C, v = .agg #[.int .i64 c.bits, .int .u64 c.one, .int .i64 c.ring, .int .u64 c.limit, .int .i64 c.room, .int .u64 c.mss, .int .u64 c.initial, .int .u64 c.least, .int .u64 c.most, .int .i64 c.algo, .int .u64 c.first, .int .u64 c.grain, .int .u64 c.cap, .int .u64 c.burst, .int .u64 c.slowest, .int .i64 c.chal, .int .u64 c.every] ∧ Rng c := by
  obtain ⟨cs, ys, n, rfl, hl, _, _, hf⟩ := open_struct hs hone hC hv h
  obtain ⟨c0, c1, c2, c3, c4, c5, c6, c7, c8, c9, c10, c11, c12, c13, c14, c15, c16, rfl⟩ := list17 hl
  obtain ⟨v0, y0, e0, _, t0⟩ := hf 0 f0 rfl
  obtain ⟨n0, g0, _, w0⟩ := DataW.trod_int u0 t0
  obtain rfl : c0 = v0 := by simpa using e0
  injection g0 with g0
  subst g0
  replace w0 := i64_of w0
  obtain ⟨v1, y1, e1, _, t1⟩ := hf 1 f1 rfl
  obtain ⟨n1, g1, _, w1⟩ := DataW.trod_int u1 t1
  obtain rfl : c1 = v1 := by simpa using e1
  injection g1 with g1
  subst g1
  replace w1 := u64_of w1
  obtain ⟨v2, y2, e2, _, t2⟩ := hf 2 f2 rfl
  obtain ⟨n2, g2, _, w2⟩ := DataW.trod_int u2 t2
  obtain rfl : c2 = v2 := by simpa using e2
  injection g2 with g2
  subst g2
  replace w2 := i64_of w2
  obtain ⟨v3, y3, e3, _, t3⟩ := hf 3 f3 rfl
  obtain ⟨n3, g3, _, w3⟩ := DataW.trod_int u3 t3
  obtain rfl : c3 = v3 := by simpa using e3
  injection g3 with g3
  subst g3
  replace w3 := u64_of w3
  obtain ⟨v4, y4, e4, _, t4⟩ := hf 4 f4 rfl
  obtain ⟨n4, g4, _, w4⟩ := DataW.trod_int u4 t4
  obtain rfl : c4 = v4 := by simpa using e4
  injection g4 with g4
  subst g4
  replace w4 := i64_of w4
  obtain ⟨v5, y5, e5, _, t5⟩ := hf 5 f5 rfl
  obtain ⟨n5, g5, _, w5⟩ := DataW.trod_int u5 t5
  obtain rfl : c5 = v5 := by simpa using e5
  injection g5 with g5
  subst g5
  replace w5 := u64_of w5
  obtain ⟨v6, y6, e6, _, t6⟩ := hf 6 f6 rfl
  obtain ⟨n6, g6, _, w6⟩ := DataW.trod_int u6 t6
  obtain rfl : c6 = v6 := by simpa using e6
  injection g6 with g6
  subst g6
  replace w6 := u64_of w6
  obtain ⟨v7, y7, e7, _, t7⟩ := hf 7 f7 rfl
  obtain ⟨n7, g7, _, w7⟩ := DataW.trod_int u7 t7
  obtain rfl : c7 = v7 := by simpa using e7
  injection g7 with g7
  subst g7
  replace w7 := u64_of w7
  obtain ⟨v8, y8, e8, _, t8⟩ := hf 8 f8 rfl
  obtain ⟨n8, g8, _, w8⟩ := DataW.trod_int u8 t8
  obtain rfl : c8 = v8 := by simpa using e8
  injection g8 with g8
  subst g8
  replace w8 := u64_of w8
  obtain ⟨v9, y9, e9, _, t9⟩ := hf 9 f9 rfl
  obtain ⟨n9, g9, _, w9⟩ := DataW.trod_int u9 t9
  obtain rfl : c9 = v9 := by simpa using e9
  injection g9 with g9
  subst g9
  replace w9 := i64_of w9
  obtain ⟨v10, y10, e10, _, t10⟩ := hf 10 f10 rfl
  obtain ⟨n10, g10, _, w10⟩ := DataW.trod_int u10 t10
  obtain rfl : c10 = v10 := by simpa using e10
  injection g10 with g10
  subst g10
  replace w10 := u64_of w10
  obtain ⟨v11, y11, e11, _, t11⟩ := hf 11 f11 rfl
  obtain ⟨n11, g11, _, w11⟩ := DataW.trod_int u11 t11
  obtain rfl : c11 = v11 := by simpa using e11
  injection g11 with g11
  subst g11
  replace w11 := u64_of w11
  obtain ⟨v12, y12, e12, _, t12⟩ := hf 12 f12 rfl
  obtain ⟨n12, g12, _, w12⟩ := DataW.trod_int u12 t12
  obtain rfl : c12 = v12 := by simpa using e12
  injection g12 with g12
  subst g12
  replace w12 := u64_of w12
  obtain ⟨v13, y13, e13, _, t13⟩ := hf 13 f13 rfl
  obtain ⟨n13, g13, _, w13⟩ := DataW.trod_int u13 t13
  obtain rfl : c13 = v13 := by simpa using e13
  injection g13 with g13
  subst g13
  replace w13 := u64_of w13
  obtain ⟨v14, y14, e14, _, t14⟩ := hf 14 f14 rfl
  obtain ⟨n14, g14, _, w14⟩ := DataW.trod_int u14 t14
  obtain rfl : c14 = v14 := by simpa using e14
  injection g14 with g14
  subst g14
  replace w14 := u64_of w14
  obtain ⟨v15, y15, e15, _, t15⟩ := hf 15 f15 rfl
  obtain ⟨n15, g15, _, w15⟩ := DataW.trod_int u15 t15
  obtain rfl : c15 = v15 := by simpa using e15
  injection g15 with g15
  subst g15
  replace w15 := i64_of w15
  obtain ⟨v16, y16, e16, _, t16⟩ := hf 16 f16 rfl
  obtain ⟨n16, g16, _, w16⟩ := DataW.trod_int u16 t16
  obtain rfl : c16 = v16 := by simpa using e16
  injection g16 with g16
  subst g16
  replace w16 := u64_of w16
  clear hf hs hone hC hv h hl u0 t0 e0 u1 t1 e1 u2 t2 e2 u3 t3 e3 u4 t4 e4 u5 t5 e5 u6 t6 e6 u7 t7 e7 u8 t8 e8 u9 t9 e9 u10 t10 e10 u11 t11 e11 u12 t12 e12 u13 t13 e13 u14 t14 e14 u15 t15 e15 u16 t16 e16
  exact ⟨⟨n0, n1, n2, n3, n4, n5, n6, n7, n8, n9, n10, n11, n12, n13, n14, n15, n16⟩, rfl, w0.1, w0.2, w1.1, w1.2, w2.1, w2.2, w3.1, w3.2, w4.1, w4.2, w5.1, w5.2, w6.1, w6.2, w7.1, w7.2, w8.1, w8.2, w9.1, w9.2, w10.1, w10.2, w11.1, w11.2, w12.1, w12.2, w13.1, w13.2, w14.1, w14.2, w15.1, w15.2, w16.1, w16.2⟩
end
end Go.Proofs.Ytnnpklnhdfpnjaa.Conf
