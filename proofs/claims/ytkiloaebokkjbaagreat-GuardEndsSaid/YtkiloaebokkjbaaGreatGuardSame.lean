/-
  Do both guards tell the same (same, take), by contract.
-/
import Derived.Test.YtkiloaebokkjbaaGreatGuardBoth
set_option linter.unusedSimpArgs false
set_option linter.unusedVariables false
namespace Go.Proofs.YtkiloaebokkjbaaGreat.Guard
set_option linter.unusedVariables false
set_option maxRecDepth 20000
open Go.ChangeShapes Go.WideShapes Go.ChangeAt Go.RowKit
open Go.Proofs.YtkiloaebokkjbaaGreat.Base Go.Proofs.YtkiloaebokkjbaaGreat.LedPlain Go.Proofs.YtkiloaebokkjbaaGreat.BudPlain Go.Proofs.YtkiloaebokkjbaaGreat.GuardPlain Go.Proofs.YtkiloaebokkjbaaGreat.Led Go.Proofs.YtkiloaebokkjbaaGreat.Bud Go.Proofs.YtkiloaebokkjbaaGreat.SpanPlain
open Go.Proofs.YtkiloaebokkjbaaGreat.AckPlain (K)
open Go.Proofs.YtkiloaebokkjbaaGreat.OctPlain (Bytes)

set_option maxHeartbeats 4000000 in
theorem same_any {A F Z : Nat → Prop} {U u : World} {tp gp : Addr} {tr gr : Nat} {lp lr : Lg} {g : Gd} {n : Nat} (h : Quar A F Z U u tp tr gp gr lp lr g g) (hc : Cb g n) (hn : n ≤ 1000000) :
    Calls Tryz.prog 15 #[.agg #[.pointer (some gp), .pointer (some ⟨gr, 0, none⟩)]] u fun e w' => e = .returned (.bool true) ∧ Below u.heap.size u w' := by
  obtain ⟨S1, S2, T1, R1, T2, R2, q, h1, h2, h3, h4⟩ := h
  have hL : Below u.heap.size u (u.alloc (.cells #[.pointer (some gp), .pointer (some ⟨gr, 0, none⟩)] 36)) := (Below.refl _ _).alloc (Nat.le_refl _) _
  have hA := Blk.new u #[.pointer (some gp), .pointer (some ⟨gr, 0, none⟩)] 36
  have CE := fun V (hV : Below u.heap.size u V) => evidence_any (h3.below hV) hc hn
  simp only [ecells] at CE
  go_enter Tryz.func15, Tryz.ntmps15
  go_upto_region 1 with fail
  refine some_world ?_
  intro W hW
  rw [show u.alloc (.cells #[.pointer (some gp), .pointer (some ⟨gr, 0, none⟩)] 36) = W from hW.symm] at hL hA
  clear hW
  have c0 : W.cell? ⟨u.heap.size, 0, none⟩ = some (.pointer (some gp)) := hA.cell 0
  have hb := hA.lt
  go_upto_region 2 with (go_at_call 23; (with_reducible refine (CE _ hL).mono ?_); rintro e w1 ⟨p, c, q', d, rfl, hr, L1⟩)
  have M1 := Base.next hL L1
  have hA1 := hA.below L1 hA.lt
  refine some_world ?_
  intro W2 hW2
  obtain ⟨hE, hA2, hL2⟩ : Blk W2 w1.heap.size (ecells g.e p c q' d) 65 ∧ Blk W2 u.heap.size #[.pointer (some gp), .pointer (some ⟨gr, 0, none⟩)] 36 ∧ Below w1.heap.size w1 W2 := by
    subst hW2
    exact ⟨Blk.new _ _ _, hA1.alloc _, (Below.refl _ _).alloc (Nat.le_refl _) _⟩
  clear hW2 hA1 hA c0 hb CE hL
  have M2 := Base.next M1 hL2
  have r1 := hr.below hL2
  have h4' := h4.below M2
  have h3' := h3.below M2
  obtain ⟨bb, x, cx, y, dy, S', hB, _, r2, _⟩ := h4'.ex
  have C1 := fun v : In (Lt W2) => counts_any (h3'.below v.h) hc hn
  have C2 := fun v : In (Lt W2) => ref_same_ev g n hc p q' x y c d cx dy _ _ v.w (r1.below v.h) (r2.below v.h)
  have a0 := fun v : In (Lt W2) => inCell v (o := 0) (v := .pointer (some gp)) (hA2.cell 0)
  have a1 := fun v : In (Lt W2) => inCell v (o := 1) (v := .pointer (some ⟨gr, 0, none⟩)) (hA2.cell 1)
  have e0 := fun v : In (Lt W2) => inCell v (o := 0) (v := .int .u64 g.e.time) (hE.cell 0)
  have e1 := fun v : In (Lt W2) => inCell v (o := 1) (v := .int .u64 g.e.pn) (hE.cell 1)
  have e2 := fun v : In (Lt W2) => inCell v (o := 2) (v := .int .u64 g.e.used) (hE.cell 2)
  have e3 := fun v : In (Lt W2) => inCell v (o := 3) (v := .int .i64 g.e.why) (hE.cell 3)
  have e4 := fun v : In (Lt W2) => inCell v (o := 4) (v := .slice p g.e.ack.spans.length c) (hE.cell 4)
  have e5 := fun v : In (Lt W2) => inCell v (o := 5) (v := .slice q' g.e.ack.marked.length d) (hE.cell 5)
  have e6 := fun v : In (Lt W2) => inCell v (o := 6) (v := .int .u64 g.e.ack.trigger) (hE.cell 6)
  have e7 := fun v : In (Lt W2) => inCell v (o := 7) (v := .int .u64 g.e.ack.xor) (hE.cell 7)
  have e8 := fun v : In (Lt W2) => inCell v (o := 8) (v := .bool g.e.ack.parity) (hE.cell 8)
  have b1 := fun v : In (Lt W2) => inCell v (o := 1) (v := .int .u64 g.n.mal) (hB.cell 1)
  have b2 := fun v : In (Lt W2) => inCell v (o := 2) (v := .int .u64 g.n.drop) (hB.cell 2)
  have b3 := fun v : In (Lt W2) => inCell v (o := 3) (v := .int .u64 g.n.taken) (hB.cell 3)
  have b4 := fun v : In (Lt W2) => inCell v (o := 4) (v := .int .u64 g.n.chal) (hB.cell 4)
  have b5 := fun v : In (Lt W2) => inCell v (o := 5) (v := .int .u64 g.n.late) (hB.cell 5)
  have b6 := fun v : In (Lt W2) => inCell v (o := 6) (v := .bool g.ended) (hB.cell 6)
  have b7 := fun v : In (Lt W2) => inCell v (o := 7) (v := .int .u64 g.e.time) (hB.cell 7)
  have b8 := fun v : In (Lt W2) => inCell v (o := 8) (v := .int .u64 g.e.pn) (hB.cell 8)
  have b9 := fun v : In (Lt W2) => inCell v (o := 9) (v := .int .u64 g.e.used) (hB.cell 9)
  have b10 := fun v : In (Lt W2) => inCell v (o := 10) (v := .int .i64 g.e.why) (hB.cell 10)
  have b11 := fun v : In (Lt W2) => inCell v (o := 11) (v := .slice x g.e.ack.spans.length cx) (hB.cell 11)
  have b12 := fun v : In (Lt W2) => inCell v (o := 12) (v := .slice y g.e.ack.marked.length dy) (hB.cell 12)
  have b13 := fun v : In (Lt W2) => inCell v (o := 13) (v := .int .u64 g.e.ack.trigger) (hB.cell 13)
  have b14 := fun v : In (Lt W2) => inCell v (o := 14) (v := .int .u64 g.e.ack.xor) (hB.cell 14)
  have b15 := fun v : In (Lt W2) => inCell v (o := 15) (v := .bool g.e.ack.parity) (hB.cell 15)
  have kb := h4'.lt
  have ka := hA2.lt
  have ke := hE.lt
  clear hE hB hA2 h3 h4 h3' h4' r1 r2 hr h1 h2 hL2 L1 q M1
  obtain ⟨gb, gn, gend, ge⟩ := g
  obtain ⟨et, ep, eu, ew, ek⟩ := ge
  obtain ⟨n1, n2, n3, n4, n5⟩ := gn
  simp only at *
  go_wp2
  refine wp_region_in (Lt W2) (Lt.drew W2) (by kernel_rfl) (by kernel_rfl) ?_
  repeat (go_big_quiet_step (first
    | (go_at_call 17; refine in_below (v := .agg #[.int .u64 n1, .int .u64 n2, .int .u64 n3, .int .u64 n4, .int .u64 n5]) ?_; exact C1 _)
    | (go_at_call 24; refine in_below (v := .bool true) ?_; exact C2 _)))
  refine wpQuiet_nil ?_
  rintro w5 ⟨⟨_, hw5⟩, rfl⟩
  have hw5 : Below W2.heap.size W2 w5 := hw5
  go_wp2
  go_ret
  exact ⟨rfl, Base.next M2 hw5⟩
theorem eq_row {ρ : Operand → Value} {o : Oper} {u : World} (ty : TypeId) (x y : Operand) (ho : o.op = .binOp .eql ty x y ty) {vk vw vp : Int} {vc : Bool} (hx : ρ x = .agg #[.int .i64 vk, .int .i64 vw, .int .u64 vp, .bool vc]) (hy : ρ y = .agg #[.int .i64 vk, .int .i64 vw, .int .u64 vp, .bool vc]) (ht : ty = 44 := by rfl) : (execOp ρ o).run Tryz.prog u = .ok (.value (.bool true)) u := by
  subst ht
  unfold execOp
  rw [ho]
  simp [hx, hy, go_sem]
theorem results_rowB {P : Program} {fn : Func} {p u : Tmp} {ty : TypeId} (h : fn.results = #[.cell p ty, .tmp u]) (tmps : Array Value) (w : World) (g : Nat) (t : TypeId) (cs : Array Value) (d : TypeDesc)
    (hp : tmps.getD p undef = .pointer (some ⟨g, 0, none⟩)) {x : Value} (hx : tmps.getD u undef = x) (hg : Blk w g cs t)
    (hu : P.underlying ty = some d) (hd : (match d with | .struct _ | .array _ _ => true | _ => false) = true) (hi : (P.info? ty).map (·.size) = some cs.size) :
    (results fn tmps).run P w = .ok (.tuple #[.agg cs, x]) w := by
  rw [results_cell_tmp h, hp, hx]
  simp [asAddr, run_loadVar_row w g t ty cs (0, 0) d hg hu hd hi]
set_option maxHeartbeats 4000000 in
theorem take_both {A F Z : Nat → Prop} {U u : World} {tp gp : Addr} {tr gr : Nat} {l : Lg} {g : Gd} {n : Nat} (h : Quar A F Z U u tp tr gp gr l l g g) (hc : Cb g n) (hn : n < 1000000) (hl : l.l.length ≤ 1000000) (p : Option Addr) (m cap : Nat) (f : List Int) (hm : f.length = m) (hcap : m ≤ cap) (hr : m ≤ 140737488355328) (hb : Bytes f) (hz : RowIn F u p (f.map (.int .u8))) (now : Int) (n0 : 0 ≤ now) (n1 : now ≤ 18446744073709551615) :
    Calls Tryz.prog 13 #[.agg #[.pointer (some gp), .pointer (some ⟨gr, 0, none⟩)], .agg #[.pointer (some tp), .pointer (some ⟨tr, 0, none⟩)], .slice p m cap, .int .u64 now] u
      fun e w' => e = .returned (.tuple #[.agg (vcells (takeT g l f now).v), .bool true]) ∧ Quar A F Z U w' tp tr gp gr (takeT g l f now).l (takeT g l f now).l (takeT g l f now).g (takeT g l f now).g ∧ Fr (fun k => ¬ F k) u w' := by
  obtain ⟨_, _, _, _, _, _, qq, hl1, _⟩ := id h
  have hfs := qq.f
  have hzf := qq.z
  have hUu := qq.fr.size
  have hok := hl1.ok
  have hcb := cb_take hc hok hb n0 n1
  have hlen := len_take g l f now
  have hkk := kok_take (g := g) (l := l) hb now
  clear qq hl1
  have CP := fun F' Z' V (hV : Quar A F' Z' U V tp tr gp gr l l g g) (hF : RowIn F' V p (f.map (.int .u8))) => quar_p (m := m) (cap := cap) (p := p) (f := f) (now := now) hV hc (by omega) hl hm hcap hr hb (fun v hv => RowIn.row (RowIn.kept hF hv fun k hk h => by have := hV.flt k hk; omega)) n0 n1
  have CR := fun F' Z' V (hV : Quar A F' Z' U V tp tr gp gr (takeT g l f now).l l (takeT g l f now).g g) (hF : RowIn F' V p (f.map (.int .u8))) => quar_r (m := m) (cap := cap) (p := p) (f := f) (now := now) hV hc (by omega) hm hcap hr hb (fun v hv => RowIn.row (RowIn.kept hF hv fun k hk h => by have := hV.flt k hk; omega)) n0 n1
  have CS := fun F' Z' V (hV : Quar A F' Z' U V tp tr gp gr (takeT g l f now).l (takeT g l f now).l (takeT g l f now).g (takeT g l f now).g) => same_any hV hcb (by omega)
  have CT := fun F' Z' V (hV : Quar A F' Z' U V tp tr gp gr (takeT g l f now).l (takeT g l f now).l (takeT g l f now).g (takeT g l f now).g) => quar_two hV (by omega)
  generalize takeT g l f now = tk at *
  obtain ⟨⟨vk, vw, vp, vc⟩, k, g', l'⟩ := tk
  simp only [vcells, kcells] at CP CR ⊢
  go_enter Tryz.func13, Tryz.ntmps13
  go_upto_region 1 with fail
  refine some_world ?_
  intro W hW
  obtain ⟨hB, hT, hV, hL⟩ : Blk W u.heap.size #[.pointer (some gp), .pointer (some ⟨gr, 0, none⟩)] 36 ∧ Blk W (u.heap.size + 1) #[.pointer (some tp), .pointer (some ⟨tr, 0, none⟩)] 28 ∧ Blk W (u.heap.size + 1 + 1) #[.int .i64 0, .int .i64 0, .int .u64 0, .bool false] 44 ∧ Below u.heap.size u W := by
    subst hW
    exact laid3 u _ _ _ _ _ _
  clear hW
  have hWs : W.heap.size = u.heap.size + 3 ∨ u.heap.size + 3 ≤ W.heap.size := by have := hV.lt; omega
  have Q0 := h.more hL
  have z0 := (RowIn.below hz hL (fun k hk => hfs k hk)).mono (T := fun k => F k ∨ (u.heap.size ≤ k ∧ k < W.heap.size)) fun k _ hk => .inl hk
  have b0 : W.cell? ⟨u.heap.size, 0, none⟩ = some (.pointer (some gp)) := hB.cell 0
  have t0 : W.cell? ⟨u.heap.size + 1, 0, none⟩ = some (.pointer (some tp)) := hT.cell 0
  have hbl := hB.lt
  have htl := hT.lt
  have hvl := hV.lt
  go_upto_region 2 with (go_at_call 18; (with_reducible refine (CP _ _ _ Q0 z0).mono ?_); rintro e w1 ⟨xa, xc, xb, xd, Y, rfl, k1, Q1, F1⟩)
  clear CP
  have hs1 := F1.size
  have FA1 : Fr (fun k => ¬ F k) u w1 := (Fr.of_below hL : Fr (fun k => ¬ F k) u W).trans F1 fun k hk h hF => h (.inl hF)
  have z1 := z0.kept F1 (fun k hk h => h hk)
  have hB1 := hB.kept F1 (fun h => h (.inr ⟨Nat.le_refl _, by omega⟩))
  have hT1 := hT.kept F1 (fun h => h (.inr ⟨by omega, by omega⟩))
  have hV1 := hV.kept F1 (fun h => h (.inr ⟨by omega, by omega⟩))
  refine some_world ?_
  intro W2 hW2
  obtain ⟨hv2, hk2, hL2⟩ : Blk W2 w1.heap.size #[.int .i64 vk, .int .i64 vw, .int .u64 vp, .bool vc] 44 ∧ Blk W2 (w1.heap.size + 1) #[.slice xa k.spans.length xc, .slice xb k.marked.length xd, .int .u64 k.trigger, .int .u64 k.xor, .bool k.parity] 56 ∧ Below w1.heap.size w1 W2 := by
    subst hW2
    exact laid2 w1 _ _ _ _
  clear hW2 b0 t0 hbl htl hvl
  have FA2 : Fr (fun k => ¬ F k) u W2 := FA1.trans (T := fun _ => False) (Fr.of_below hL2) fun _ _ h => h.elim
  have hB2 := hB1.below hL2 hB1.lt
  have hT2 := hT1.below hL2 hT1.lt
  have hV2 := hV1.below hL2 hV1.lt
  have Q2 := Q1.more hL2
  have k2 := k1.below hL2
  have z2 := (z1.below hL2 (fun k hk => Q1.flt k (.inl hk))).mono (T := fun k => ((F k ∨ (u.heap.size ≤ k ∧ k < W.heap.size)) ∨ Y k) ∨ (w1.heap.size ≤ k ∧ k < W2.heap.size)) fun k _ hk => .inl (.inl hk)
  have hk2l := hk2.lt
  have b1 : W2.cell? ⟨u.heap.size, 1, none⟩ = some (.pointer (some ⟨gr, 0, none⟩)) := hB2.cell 1
  have t1 : W2.cell? ⟨u.heap.size + 1, 1, none⟩ = some (.pointer (some ⟨tr, 0, none⟩)) := hT2.cell 1
  have hbl := hB2.lt
  have htl := hT2.lt
  clear hB hT hV hB1 hT1 hV1 Q0 Q1 z0 z1 k1 F1
  go_upto_region 3 with (go_at_call 40; (with_reducible refine (CR _ _ _ Q2 z2).mono ?_); rintro e w3 ⟨ya, yc, yb, yd, rfl, k3, Q3, F3⟩)
  clear CR
  have hs3 := F3.size
  have FA3 : Fr (fun k => ¬ F k) u w3 := FA2.trans F3 fun k hk h hF => h (.inl (.inl (.inl hF)))
  have hB3 := hB2.kept F3 (fun h => h (.inl (.inl (.inr ⟨Nat.le_refl _, by omega⟩))))
  have hT3 := hT2.kept F3 (fun h => h (.inl (.inl (.inr ⟨by omega, by omega⟩))))
  have hV3 := hV2.kept F3 (fun h => h (.inl (.inl (.inr ⟨by omega, by omega⟩))))
  have hv3 := hv2.kept F3 (fun h => h (.inr ⟨Nat.le_refl _, by omega⟩))
  have hk3 := hk2.kept F3 (fun h => h (.inr ⟨by omega, by omega⟩))
  have k3' := k2.kept F3 (fun j hj h => h (.inl (.inr hj)))
  refine some_world ?_
  intro W4 hW4
  obtain ⟨hx4, hy4, hL4⟩ : Blk W4 w3.heap.size #[.int .i64 vk, .int .i64 vw, .int .u64 vp, .bool vc] 44 ∧ Blk W4 (w3.heap.size + 1) #[.slice ya k.spans.length yc, .slice yb k.marked.length yd, .int .u64 k.trigger, .int .u64 k.xor, .bool k.parity] 56 ∧ Below w3.heap.size w3 W4 := by
    subst hW4
    exact laid2 w3 _ _ _ _
  clear hW4 b1 t1 hbl htl
  have FA4 : Fr (fun k => ¬ F k) u W4 := FA3.trans (T := fun _ => False) (Fr.of_below hL4) fun _ _ h => h.elim
  have hB4 := hB3.below hL4 hB3.lt
  have hT4 := hT3.below hL4 hT3.lt
  have hV4 := hV3.below hL4 hV3.lt
  have hv4 := hv3.below hL4 hv3.lt
  have hk4 := hk3.below hL4 hk3.lt
  have Q4 := Q3.next hL4
  have ka := k3'.below hL4
  have kb := k3.below hL4
  clear hB2 hT2 hV2 hv2 hk2 hB3 hT3 hV3 hv3 hk3 Q2 Q3 k2 k3 k3' z2 F3 hL2 hL4
  have CA := fun V (hV : Below W4.heap.size W4 V) => Ack.ref_same_ack k xa xb ya yb k.spans.length xc k.marked.length xd k.spans.length yc k.marked.length yd V rfl rfl rfl rfl (by have := hkk.s32; omega) (by have := hkk.m32; omega) (ka.below hV).s.row (ka.below hV).m.row (kb.below hV).s.row (kb.below hV).m.row
  have CS' := fun V (hV : Below W4.heap.size W4 V) => CS _ _ V (Q4.next hV)
  have CT' := fun V (hV : Below W4.heap.size W4 V) => CT _ _ V (Q4.next hV)
  have z1 := fun (V : World) (hV : Fr (fun k => k = u.heap.size + 1 + 1) W4 V) => show V.rangeAt w1.heap.size 0 [.int .i64 vk, .int .i64 vw, .int .u64 vp, .bool vc] from Blk.range (hv4.kept hV (by have := hWs; omega)) (fun j u hj => by rw [Nat.zero_add]; rcases j with _ | _ | _ | _ | j <;> first | exact hj | simp at hj)
  have z2 := fun (V : World) (hV : Fr (fun k => k = u.heap.size + 1 + 1) W4 V) => show V.rangeAt w3.heap.size 0 [.int .i64 vk, .int .i64 vw, .int .u64 vp, .bool vc] from Blk.range (hx4.kept hV (by have := hWs; omega)) (fun j u hj => by rw [Nat.zero_add]; rcases j with _ | _ | _ | _ | j <;> first | exact hj | simp at hj)
  have z3 := fun (V : World) (hV : Fr (fun k => k = u.heap.size + 1 + 1) W4 V) => show V.rangeAt (w1.heap.size + 1) 0 [.slice xa k.spans.length xc, .slice xb k.marked.length xd, .int .u64 k.trigger, .int .u64 k.xor, .bool k.parity] from Blk.range (hk4.kept hV (by have := hWs; omega)) (fun j u hj => by rw [Nat.zero_add]; rcases j with _ | _ | _ | _ | _ | j <;> first | exact hj | simp at hj)
  have z4 := fun (V : World) (hV : Fr (fun k => k = u.heap.size + 1 + 1) W4 V) => show V.rangeAt (w3.heap.size + 1) 0 [.slice ya k.spans.length yc, .slice yb k.marked.length yd, .int .u64 k.trigger, .int .u64 k.xor, .bool k.parity] from Blk.range (hy4.kept hV (by have := hWs; omega)) (fun j u hj => by rw [Nat.zero_add]; rcases j with _ | _ | _ | _ | _ | j <;> first | exact hj | simp at hj)
  have z5 := fun (V : World) (hV : Fr (fun k => k = u.heap.size + 1 + 1) W4 V) => show V.rangeAt u.heap.size 0 [.pointer (some gp), .pointer (some ⟨gr, 0, none⟩)] from Blk.range (hB4.kept hV (by have := hWs; omega)) (fun j u hj => by rw [Nat.zero_add]; rcases j with _ | _ | j <;> first | exact hj | simp at hj)
  have z6 := fun (V : World) (hV : Fr (fun k => k = u.heap.size + 1 + 1) W4 V) => show V.rangeAt (u.heap.size + 1) 0 [.pointer (some tp), .pointer (some ⟨tr, 0, none⟩)] from Blk.range (hT4.kept hV (by have := hWs; omega)) (fun j u hj => by rw [Nat.zero_add]; rcases j with _ | _ | j <;> first | exact hj | simp at hj)
  have L4 : Below W4.heap.size W4 W4.drew := Base.drew1 (Below.refl _ _)
  have hS : Fr (fun k => k = u.heap.size + 1 + 1) W4 W4.drew := Fr.of_below L4
  go_wp2
  refine held_start (fun v => Fr (fun k => k = u.heap.size + 1 + 1) W4 v) (by kernel_rfl) ?_
  refine held_take (i := 0) (v := .agg #[.int .i64 vk, .int .i64 vw, .int .u64 vp, .bool vc]) rfl (by kernel_rfl) (by kernel_rfl) (by kernel_rfl) (fun _ _ _ h => h) (by kernel_rfl) hS (fun _ hu => by exact lb_mid 44 (.tmp 10) rfl (by kernel_rfl) (z1 _ hu) Tryz.underlying44 rfl (by kernel_rfl)) ?_
  refine held_take (i := 1) (v := .agg #[.int .i64 vk, .int .i64 vw, .int .u64 vp, .bool vc]) rfl (by kernel_rfl) (by kernel_rfl) (by kernel_rfl) (fun _ _ _ h => h) (by kernel_rfl) hS (fun _ hu => by exact lb_mid 44 (.tmp 10) rfl (by kernel_rfl) (z1 _ hu) Tryz.underlying44 rfl (by kernel_rfl)) ?_
  refine held_take (i := 2) (v := .agg #[.int .i64 vk, .int .i64 vw, .int .u64 vp, .bool vc]) rfl (by kernel_rfl) (by kernel_rfl) (by kernel_rfl) (fun _ _ _ h => h) (by kernel_rfl) hS (fun _ hu => by exact lb_mid 44 (.tmp 12) rfl (by kernel_rfl) (z2 _ hu) Tryz.underlying44 rfl (by kernel_rfl)) ?_
  refine held_take (i := 3) (v := .bool true) rfl (by kernel_rfl) (by kernel_rfl) (by kernel_rfl) (fun _ _ _ h => h) (by kernel_rfl) hS (fun _ hu => by exact eq_row 44 (.tmp 35) (.tmp 36) (vk := vk) (vw := vw) (vp := vp) (vc := vc) rfl (by kernel_rfl) (by kernel_rfl)) ?_
  refine held_take (i := 4) (v := .bool true) rfl (by kernel_rfl) (by kernel_rfl) (by kernel_rfl) (fun _ _ _ h => h) (by kernel_rfl) hS (fun _ hu => by kernel_rfl) ?_
  refine held_take (i := 5) (v := .agg #[.slice xa k.spans.length xc, .slice xb k.marked.length xd, .int .u64 k.trigger, .int .u64 k.xor, .bool k.parity]) rfl (by kernel_rfl) (by kernel_rfl) (by kernel_rfl) (fun _ _ _ h => h) (by kernel_rfl) hS (fun _ hu => by exact lb_mid 56 (.tmp 11) rfl (by kernel_rfl) (z3 _ hu) Tryz.underlying56 rfl (by kernel_rfl)) ?_
  refine held_take (i := 6) (v := .agg #[.slice ya k.spans.length yc, .slice yb k.marked.length yd, .int .u64 k.trigger, .int .u64 k.xor, .bool k.parity]) rfl (by kernel_rfl) (by kernel_rfl) (by kernel_rfl) (fun _ _ _ h => h) (by kernel_rfl) hS (fun _ hu => by exact lb_mid 56 (.tmp 13) rfl (by kernel_rfl) (z4 _ hu) Tryz.underlying56 rfl (by kernel_rfl)) ?_
  refine held_call (i := 7) (f := 25) (args := #[.agg #[.slice xa k.spans.length xc, .slice xb k.marked.length xd, .int .u64 k.trigger, .int .u64 k.xor, .bool k.parity], .agg #[.slice ya k.spans.length yc, .slice yb k.marked.length yd, .int .u64 k.trigger, .int .u64 k.xor, .bool k.parity]]) rfl (by kernel_rfl) (by kernel_rfl) (by kernel_rfl) ((CA _ L4).mono ?_)
  rintro e w5 ⟨rfl, L5⟩
  replace L5 := L4.trans (L5.mono L4.size)
  have S5 : Fr (fun k => k = u.heap.size + 1 + 1) W4 w5 := Fr.of_below L5
  refine ⟨_, rfl, S5, ?_⟩
  refine held_take (i := 8) (v := .bool true) rfl (by kernel_rfl) (by kernel_rfl) (by kernel_rfl) (fun _ _ _ h => h) (by kernel_rfl) S5 (fun _ hu => by kernel_rfl) ?_
  refine held_take (i := 9) (v := .bool true) rfl (by kernel_rfl) (by kernel_rfl) (by kernel_rfl) (fun _ _ _ h => h) (by kernel_rfl) S5 (fun _ hu => by kernel_rfl) ?_
  refine held_take (i := 10) (v := .agg #[.pointer (some gp), .pointer (some ⟨gr, 0, none⟩)]) rfl (by kernel_rfl) (by kernel_rfl) (by kernel_rfl) (fun _ _ _ h => h) (by kernel_rfl) S5 (fun _ hu => by exact lb_mid 36 (.tmp 4) rfl (by kernel_rfl) (z5 _ hu) Tryz.underlying36 rfl (by kernel_rfl)) ?_
  refine held_call (i := 11) (f := 15) (args := #[.agg #[.pointer (some gp), .pointer (some ⟨gr, 0, none⟩)]]) rfl (by kernel_rfl) (by kernel_rfl) (by kernel_rfl) ((CS' _ L5).mono ?_)
  rintro e w6 ⟨rfl, L6⟩
  replace L6 := L5.trans (L6.mono L5.size)
  have S6 : Fr (fun k => k = u.heap.size + 1 + 1) W4 w6 := Fr.of_below L6
  refine ⟨_, rfl, S6, ?_⟩
  refine held_take (i := 12) (v := .bool true) rfl (by kernel_rfl) (by kernel_rfl) (by kernel_rfl) (fun _ _ _ h => h) (by kernel_rfl) S6 (fun _ hu => by kernel_rfl) ?_
  refine held_take (i := 13) (v := .bool true) rfl (by kernel_rfl) (by kernel_rfl) (by kernel_rfl) (fun _ _ _ h => h) (by kernel_rfl) S6 (fun _ hu => by kernel_rfl) ?_
  refine held_take (i := 14) (v := .agg #[.pointer (some tp), .pointer (some ⟨tr, 0, none⟩)]) rfl (by kernel_rfl) (by kernel_rfl) (by kernel_rfl) (fun _ _ _ h => h) (by kernel_rfl) S6 (fun _ hu => by exact lb_mid 28 (.tmp 5) rfl (by kernel_rfl) (z6 _ hu) Tryz.underlying28 rfl (by kernel_rfl)) ?_
  refine held_call (i := 15) (f := 33) (args := #[.agg #[.pointer (some tp), .pointer (some ⟨tr, 0, none⟩)]]) rfl (by kernel_rfl) (by kernel_rfl) (by kernel_rfl) ((CT' _ L6).mono ?_)
  rintro e w7 ⟨rfl, L7⟩
  replace L7 := L6.trans (L7.mono L6.size)
  have S7 : Fr (fun k => k = u.heap.size + 1 + 1) W4 w7 := Fr.of_below L7
  refine ⟨_, rfl, S7, ?_⟩
  refine held_take (i := 16) (v := .bool true) rfl (by kernel_rfl) (by kernel_rfl) (by kernel_rfl) (fun _ _ _ h => h) (by kernel_rfl) S7 (fun _ hu => by kernel_rfl) ?_
  have hV7 := hV4.below L7 hV4.lt
  have S8 : Fr (fun k => k = u.heap.size + 1 + 1) W4 (w7.setRow (u.heap.size + 1 + 1) #[.int .i64 vk, .int .i64 vw, .int .u64 vp, .bool vc]) := S7.setRow (fun _ => rfl) _
  have hV8 := hV7.setRow #[.int .i64 vk, .int .i64 vw, .int .u64 vp, .bool vc]
  refine held_st (i := 17) rfl (by kernel_rfl) (by kernel_rfl) (st_row 44 (.tmp 8) (.tmp 34) rfl (g := u.heap.size + 1 + 1) (cells := #[.int .i64 vk, .int .i64 vw, .int .u64 vp, .bool vc]) (by kernel_rfl) (by kernel_rfl) hV7 (by kernel_rfl) rfl (by simp [Value.oneCell'])) S8 ?_
  refine held_take (i := 18) (v := .bool true) rfl (by kernel_rfl) (by kernel_rfl) (by kernel_rfl) (fun _ _ _ h => h) (by kernel_rfl) S8 (fun _ hu => by kernel_rfl) ?_
  refine held_end2 8 9 (.pointer (some ⟨u.heap.size + 1 + 1, 0, none⟩)) (.bool true) (by kernel_rfl) (by kernel_rfl) (by kernel_rfl) (by kernel_rfl) fun a' hd hv hv2 => ?_
  go_wp2
  refine bodyPost_ret (results_rowB rfl _ _ (u.heap.size + 1 + 1) 44 #[.int .i64 vk, .int .i64 vw, .int .u64 vp, .bool vc] _ hv hv2 hV8 Tryz.underlying44 rfl (by kernel_rfl)) hd ?_
  have hU : U.heap.size ≤ u.heap.size := hUu
  have Q8 := (Q4.next L7).set (b := u.heap.size + 1 + 1) (.inl (.inr ⟨by omega, by omega⟩)) (by omega) #[.int .i64 vk, .int .i64 vw, .int .u64 vp, .bool vc]
  exact ⟨rfl, Q8.less (fun j hj => .inl (.inl (.inl hj))) (fun j hj => .inl (.inl hj)) hzf, (FA4.trans (T := fun _ => False) (Fr.of_below L7) fun _ _ h => h.elim).setRow (fun hk => by omega) _⟩
end Go.Proofs.YtkiloaebokkjbaaGreat.Guard
