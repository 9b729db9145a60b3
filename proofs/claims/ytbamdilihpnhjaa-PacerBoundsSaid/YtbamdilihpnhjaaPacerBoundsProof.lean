/-
  In no time more goes than a burst, and the greatest rate by that time. No conditions.
-/
import Derived.Test.YtbamdilihpnhjaaFlat
import Derived.Test.YtbamdilihpnhjaaRows
import Derived.Test.YtbamdilihpnhjaaRow
import Derived.WalkKit
import Derived.ProofKit
import Derived.OpenShut
import Derived.ShutString
import Derived.ChangeOld
import Derived.Below
import Derived.Test.YtbamdilihpnhjaaPacerAlive
import Derived.Test.YtbamdilihpnhjaaPacerChain
import Derived.Test.YtbamdilihpnhjaaRows3
import Derived.Test.YtbamdilihpnhjaaFlat
import Derived.Test.YtbamdilihpnhjaaMid
import Derived.Deep.DeepCutAuto
namespace Go.Proofs.Ytbamdilihpnhjaa.pacerBounds
open Go.ChangeShapes Go.WideShapes Go.ChangeAt Go.RowKit
open Go.ChangeMaps (open_string shut_string)
open Go.Proofs.Ytbamdilihpnhjaa.Base
set_option linter.unusedVariables false
set_option linter.unusedSimpArgs false

theorem own : ownKnob Try.prog.godebug = none := by kernel_rfl
theorem laidOut : laidOutB Try.prog = true := by kernel_rfl

open Go.Proofs.Ytbamdilihpnhjaa.Pacer Go.Proofs.Ytbamdilihpnhjaa.PacerPlain Go.Proofs.Ytbamdilihpnhjaa.RenoPlain Go.Proofs.Ytbamdilihpnhjaa.Hop Go.Proofs.Ytbamdilihpnhjaa.Reno
section
variable {ρ : Operand → Value} {o : Oper} {u : World}
theorem ix_go (x y : Operand) (ho : o.op = .indexAddr 34 x y) {b off n cap t : Nat} (hx : ρ x = .slice (some ⟨b, off, none⟩) n cap) (hy : ρ y = .int .i64 t) (ht : t < n) : (execOp ρ o).run Try.prog u = .ok (.value (.pointer (some ⟨b, off + t * 4, none⟩))) u := by
  unfold execOp
  rw [ho]
  have h1 : (t : Int) < (n : Int) := by omega
  simp [hx, hy, go_sem, h1]
theorem cv_u16 (x : Operand) (ho : o.op = .convert 32 22 x) {n : Int} (hx : ρ x = .int .u16 n) (h0 : 0 ≤ n) (h1 : n ≤ 65535) : (execOp ρ o).run Try.prog u = .ok (.value (.int .u64 n)) u := by
  unfold execOp
  rw [ho]
  have h2 : IntKind.u64.wrap n = n := by rw [IntKind.wrap_u64]; omega
  simp [hx, go_sem, h2]
end
theorem pfit_of {p : Pc} {b : Int} (b1 : b ≤ 65535) (t0 : 0 ≤ p.tok) (t1 : p.tok ≤ b * 1000000) (a0 : 0 ≤ p.at_) (a1 : p.at_ ≤ 4294967295) (r0 : 0 ≤ p.rate) (r1 : p.rate ≤ 4294967296) : PFit p :=
  ⟨⟨t0, by omega⟩, ⟨a0, by omega⟩, ⟨r0, by omega⟩⟩
theorem start_is {b r : Int} (b0 : 0 ≤ b) (b1 : b ≤ 65535) (r0 : 0 ≤ r) (r1 : r ≤ 4294967295) : ∃ p : Pc, startP b 0 r = p ∧ 0 ≤ p.tok ∧ p.tok ≤ b * 1000000 ∧ p.at_ = 0 ∧ 0 ≤ p.rate ∧ p.rate ≤ 4294967296 := by
  refine ⟨_, rfl, ?_⟩
  have e : full b = b * 1000000 := by unfold full; exact Sat.mul_fits (by omega)
  unfold startP
  dsimp only
  rw [e]
  omega
theorem map_getD (g : Tk → Int) (h0 : g tk0 = 0) (T : List Tk) (j : Nat) : (T.map g).getD j 0 = g (T.getD j tk0) := by
  simp only [List.getD_eq_getElem?_getD, List.getElem?_map]
  cases T[j]? with
  | none => exact h0.symm
  | some t => rfl
theorem keep_blk {W w : World} {b : Nat} {cs : Array Value} {T : TypeId} (h : Blk W b cs T) (e : w.heap[b]? = W.heap[b]?) : Blk w b cs T := e.trans h
set_option maxHeartbeats 8000000 in
set_option maxRecDepth 20000 in
theorem walk (a0 : Int) (a1 : Int) (a2 : Option Addr) (len2 cap2 : Nat) (z2 : List (List Value)) (w : World) (w0 : (Lit.int .u16 a0).wf = true) (w1 : (Lit.int .u32 a1).wf = true) (w2 : Recs w a2 [.int .u16, .int .u16, .bool, .int .u32] z2) (n2 : z2.length = len2) (m2 : len2 ≤ cap2) (o2 : cap2 ≤ maxLen) :
    Calls Try.prog 6 #[.int .u16 a0, .int .u32 a1, .slice a2 len2 cap2] w fun e w' => e = .returned (.bool true) ∧ Below w.heap.size w w' := by
  obtain ⟨b0, b1⟩ := Base.u16_of w0
  obtain ⟨r0, r1⟩ := Base.u32_of w1
  subst n2
  have hb : U a0 := ⟨b0, by omega⟩
  have CA := fun V => alive_pacer V
  have CS := fun V => start_any a0 0 a1 hb ⟨by decide, by decide⟩ ⟨r0, by omega⟩ V
  obtain ⟨p0, hp0, t0, t1, at0, q0, q1⟩ := start_is b0 b1 r0 r1
  rw [hp0] at CS
  unfold PcPost pc at CS
  have hat := Lib.hid at0
  clear hp0 at0
  go_enter Try.func6, Try.ntmps6
  go_upto_region 3 with (go_at_call 13; refine (CS _).mono ?_; rintro e y0 ⟨rfl, L0⟩)
  refine at_any ?_
  intro W0 hW
  obtain ⟨pB, hL, hpb⟩ : Blk W0 y0.heap.size #[.int .u64 p0.tok, .int .u64 p0.at_, .int .u64 p0.rate] 24 ∧ Below w.heap.size w W0 ∧ w.heap.size ≤ y0.heap.size := by
    subst hW
    exact ⟨Blk.new _ _ _, L0.alloc L0.size _, L0.size⟩
  clear hW L0 CS
  generalize y0.heap.size = pb at *
  clear y0
  by_cases h60 : (60 : Int) < (z2.length : Int)
  · go_wp2_with (first
      | (go_at_call 7; (with_reducible refine (CA W0).mono ?_); rintro e X ⟨rfl, L1⟩)
      | (go_at_call 7; (with_reducible refine (CA X).mono ?_); rintro e X2 ⟨rfl, L2⟩))
    all_goals go_ret
    all_goals exact ⟨rfl, Base.next (Base.next hL L1) L2⟩
  · go_upto_region 5 with (go_at_call 7; (with_reducible refine (CA W0).mono ?_); rintro e X ⟨rfl, L1⟩; replace pB := pB.below L1 pB.lt; replace hL := Base.next hL L1)
    clear CA L1
    go_wp2
    go_loopw [9, 10, 11, 12, 37] (fun v9 v10 v11 nw i wr => ∃ (k : Nat) (T : List Tk) (p : Pc) (v1 v2 v3 : Value), k ≤ z2.length ∧ i = .int .i64 k ∧ nw = .int .u64 p.at_ ∧ v1 = v9 ∧ v2 = v10 ∧ v3 = v11 ∧ T.length = k ∧ Chain (a0 * 1000000) T ∧ 0 ≤ p.tok ∧ p.tok ≤ a0 * 1000000 ∧ 0 ≤ p.at_ ∧ p.at_ ≤ 65535 * k ∧ 0 ≤ p.rate ∧ p.rate ≤ 4294967296 ∧ (∀ j, j + 1 = T.length → (T.getD j tk0).at_ = p.at_ ∧ (T.getD j tk0).rate = p.rate ∧ (T.getD j tk0).y = p.tok) ∧ Rows3 w wr v1 v2 v3 (T.map Tk.at_) (T.map Tk.went) (T.map Tk.rate) ∧ Blk wr pb #[.int .u64 p.tok, .int .u64 p.at_, .int .u64 p.rate] 24 ∧ Out3 v1 v2 v3 pb ∧ Below w.heap.size w wr) (fun _ _ _ _ i _ => z2.length - (intOf i).toNat)
    case atStart => exact ⟨0, [], p0, _, _, _, Nat.zero_le _, rfl, by rw [hat.out], rfl, rfl, rfl, rfl, chain_nil _, t0, t1, by have := hat.out; omega, by have := hat.out; omega, q0, q1, fun j h => by simp at h, Rows3.nil _ _, pB, ⟨by simp [Value.ownBlock], by simp [Value.ownBlock], by simp [Value.ownBlock]⟩, hL⟩
    case round =>
      clear pB hL t0 t1 hat q0 q1
      obtain ⟨k, T, p, v1, v2, v3, hk, rfl, rfl, rfl, rfl, rfl, hT, hCh, t0, t1, s0, s1, q0, q1, hl, R, pB, hO, hL⟩ := hrel
      by_cases hlt : k < z2.length
      · have hkI : (k : Int) < (z2.length : Int) := by omega
        obtain ⟨hf, b', off', rfl, hb', hc⟩ := w2.at_ (m := 4) rfl (by decide) hlt
        generalize z2.getD k [] = z at *
        obtain ⟨d, us, rfl, wd, hf⟩ := hf.int_
        obtain ⟨s, us, rfl, ws, hf⟩ := hf.int_
        obtain ⟨g, us, rfl, hg2⟩ := hf.bool_
        clear hf
        obtain ⟨x, us, rfl, wx, hf⟩ := hg2.int_
        obtain rfl := hf.nil_
        have hx0 : w.cell? ⟨b', off' + k * 4, none⟩ = some (.int .u16 d) := hc 0 _ rfl
        have hx1 : w.cell? ⟨b', off' + k * 4 + 1, none⟩ = some (.int .u16 s) := hc 1 _ rfl
        have hx2 : w.cell? ⟨b', off' + k * 4 + 1 + 1, none⟩ = some (.bool g) := hc 2 _ rfl
        have hx3 : w.cell? ⟨b', off' + k * 4 + 1 + 1 + 1, none⟩ = some (.int .u32 x) := hc 3 _ rfl
        clear hc hf
        obtain ⟨d0, d1⟩ := Base.u16_of wd
        obtain ⟨s0', s1'⟩ := Base.u16_of ws
        obtain ⟨x0, x1⟩ := Base.u32_of wx
        clear wd ws wx
        obtain ⟨q, n, e1, e2, n0, n1, hCh2, u0, u1, ua, ua1, ur0, ur1⟩ := turn_row hT (by omega) hCh b0 b1 t0 t1 s0 s1 q0 q1 hl g d0 d1 s0' s1' x0 x1
        have UA := Lib.hid ua
        clear ua
        clear hCh hl
        have hfp : PFit p := pfit_of b1 t0 t1 s0 (by omega) q0 q1
        have hnw : U (p.at_ + d) := ⟨by omega, by omega⟩
        have hxU : U x := ⟨x0, by omega⟩
        have hsU : U s := ⟨s0', by omega⟩
        have hfs := fit_set hfp hb hnw hxU
        have CSet := fun V => set_any p hfp a0 (p.at_ + d) x hb hnw hxU V
        have hl12 := (hL.cell (p := ⟨b', off' + k * 4, none⟩) hb').trans hx0
        have hl14 := (hL.cell (p := ⟨b', off' + k * 4 + 1 + 1, none⟩) hb').trans hx2
        have hbr : b' < wr.heap.size := Nat.lt_of_lt_of_le hb' hL.size
        cases g
        · simp only [Bool.false_eq_true, ↓reduceIte] at e1 e2
          have CT0 := fun V => take_any p hfp a0 (p.at_ + d) s hb hnw hsU V
          obtain ⟨p', hp'⟩ : ∃ p', p' = p := ⟨_, rfl⟩
          rw [e1] at CT0
          generalize takeB p a0 (p.at_ + d) s = tb at *
          go_upto_region 13 with fail
          generalize p.at_ + d = nw at *
          have CT : ∀ V, Calls Try.prog 8 #[.agg (pc p'), .int .u64 a0, .int .u64 nw, .int .u64 s] V fun e w' => e = .returned (.tuple #[.agg (pc q), .bool tb]) ∧ Below V.heap.size V w' := by rw [hp']; exact CT0
          clear CT0
          rw [← hp'] at pB
          refine at_any ?_
          intro V hV
          replace R : Rows3 w V v1 v2 v3 (T.map Tk.at_) (T.map Tk.went) (T.map Tk.rate) := by subst hV; exact R
          replace pB : Blk V pb #[.int .u64 p'.tok, .int .u64 p'.at_, .int .u64 p'.rate] 24 := by subst hV; exact pB
          replace hL : Below w.heap.size w V := by subst hV; exact hL
          clear hV hl12 hl14 hbr CSet hfs e1 hp' hx2 hx3
          have hl13 := (hL.cell (p := ⟨b', off' + k * 4 + 1, none⟩) hb').trans hx1
          have hbV : b' < V.heap.size := Nat.lt_of_lt_of_le hb' hL.size
          unfold pc at CT
          go_cut [14, 15] (fun s14 s15 wx => ∃ qb, s14 = .pointer (some ⟨qb, 0, none⟩) ∧ s15 = .bool tb ∧ Blk wx qb #[.int .u64 q.tok, .int .u64 q.at_, .int .u64 q.rate] 24 ∧ V.heap.size ≤ qb ∧ Below V.heap.size V wx)
          case first =>
            have hVD : Below V.heap.size V V.drew := Base.drew1 (Below.refl _ _)
            have hpV : ∀ v, Below V.heap.size V v → v.rangeAt pb 0 [.int .u64 p'.tok, .int .u64 p'.at_, .int .u64 p'.rate] := fun v hv => Blk.range (pB.below hv pB.lt) 0 _ (fun j u hj => by rw [Nat.zero_add]; rcases j with _ | _ | _ | j <;> first | exact hj | simp at hj)
            have hsV : ∀ v, Below V.heap.size V v → v.cell? ⟨b', off' + k * 4 + 1, none⟩ = some (.int .u16 s) := fun v hv => (hv.cell (p := ⟨b', off' + k * 4 + 1, none⟩) hbV).trans hl13
            refine held_start (fun v => Below V.heap.size V v) (by kernel_rfl) ?_
            generalize V.drew = D at *
            refine h2_take (i := 0) (v := .agg #[.int .u64 p'.tok, .int .u64 p'.at_, .int .u64 p'.rate]) 64 rfl (by kernel_rfl) (by kernel_rfl) (by kernel_rfl) (by kernel_rfl) (fun _ _ _ h => h) (by kernel_rfl) hVD (fun v hv => by exact lb_mid 24 (.tmp 8) rfl (by kernel_rfl) (hpV v hv) Try.underlying24 rfl (by kernel_rfl)) ?_
            refine h2_take (i := 1) (v := .int .u64 a0) 65 rfl (by kernel_rfl) (by kernel_rfl) (by kernel_rfl) (by kernel_rfl) (fun _ _ _ h => h) (by kernel_rfl) hVD (fun v hv => by kernel_rfl) ?_
            refine h2_take (i := 2) (v := .int .u64 nw) 66 rfl (by kernel_rfl) (by kernel_rfl) (by kernel_rfl) (by kernel_rfl) (fun _ _ _ h => h) (by kernel_rfl) hVD (fun v hv => by kernel_rfl) ?_
            refine h2_take (i := 3) (v := (.slice (some ⟨b', off', none⟩) z2.length cap2)) 67 rfl (by kernel_rfl) (by kernel_rfl) (by kernel_rfl) (by kernel_rfl) (fun _ _ _ h => h) (by kernel_rfl) hVD (fun v hv => by kernel_rfl) ?_
            refine h2_take (i := 4) (v := .int .i64 k) 68 rfl (by kernel_rfl) (by kernel_rfl) (by kernel_rfl) (by kernel_rfl) (fun _ _ _ h => h) (by kernel_rfl) hVD (fun v hv => by kernel_rfl) ?_
            refine h2_take (i := 5) (v := (.pointer (some ⟨b', off' + k * 4, none⟩))) 69 rfl (by kernel_rfl) (by kernel_rfl) (by kernel_rfl) (by kernel_rfl) (fun _ _ _ h => h) (by kernel_rfl) hVD (fun v hv => by exact ix_go (n := z2.length) (cap := cap2) (.tmp 67) (.tmp 68) rfl (by kernel_rfl) (by kernel_rfl) hlt) ?_
            refine h2_take (i := 6) (v := (.pointer (some ⟨b', off' + k * 4 + 1, none⟩))) 70 rfl (by kernel_rfl) (by kernel_rfl) (by kernel_rfl) (by kernel_rfl) (fun _ _ _ h => h) (by kernel_rfl) hVD (fun v hv => by kernel_rfl) ?_
            refine h2_take (i := 7) (v := .int .u16 s) 71 rfl (by kernel_rfl) (by kernel_rfl) (by kernel_rfl) (by kernel_rfl) (fun _ _ _ h => h) (by kernel_rfl) hVD (fun v hv => by exact lb_any 32 (.tmp 70) rfl (by kernel_rfl) (by kernel_rfl) (hsV v hv)) ?_
            refine h2_take (i := 8) (v := .int .u64 s) 72 rfl (by kernel_rfl) (by kernel_rfl) (by kernel_rfl) (by kernel_rfl) (fun _ _ _ h => h) (by kernel_rfl) hVD (fun v hv => by exact cv_u16 (.tmp 71) rfl (by kernel_rfl) s0' s1') ?_
            clear hpV hsV
            refine held_two (i := 9) (j := 13) (by kernel_rfl) ?_ ?_
            · refine o2_call (i := 9) 73 (f := 8) (args := #[.agg #[.int .u64 p'.tok, .int .u64 p'.at_, .int .u64 p'.rate], .int .u64 a0, .int .u64 nw, .int .u64 s]) rfl (by kernel_rfl) (by kernel_rfl) (by kernel_rfl) ((CT D).mono ?_)
              rintro e v1' ⟨rfl, E1⟩
              have H1 : Below V.heap.size V v1' := Base.next hVD E1
              have hz1 := E1.size
              refine ⟨_, rfl, H1, ?_⟩
              refine h2_take (i := 10) (v := .tuple #[.agg #[.int .u64 q.tok, .int .u64 q.at_, .int .u64 q.rate], .bool tb]) 63 rfl (by kernel_rfl) (by kernel_rfl) (by kernel_rfl) (by kernel_rfl) (fun _ _ _ h => h) (by kernel_rfl) H1 (fun v hv => by kernel_rfl) ?_
              refine h2_take (i := 11) (v := .agg #[.int .u64 q.tok, .int .u64 q.at_, .int .u64 q.rate]) 74 rfl (by kernel_rfl) (by kernel_rfl) (by kernel_rfl) (by kernel_rfl) (fun _ _ _ h => h) (by kernel_rfl) H1 (fun v hv => by kernel_rfl) ?_
              refine h2_take (i := 12) (v := .bool tb) 75 rfl (by kernel_rfl) (by kernel_rfl) (by kernel_rfl) (by kernel_rfl) (fun _ _ _ h => h) (by kernel_rfl) H1 (fun v hv => by kernel_rfl) ?_
              refine h2_one (i := 13) 14 (v := .pointer (some ⟨v1'.heap.size, 0, none⟩)) (w' := v1'.alloc (.cells #[.int .u64 0, .int .u64 0, .int .u64 0] 24)) rfl (by kernel_rfl) (by kernel_rfl) (by kernel_rfl) (by kernel_rfl) (H1.alloc H1.size _) ?_
              have qB := Blk.new v1' #[.int .u64 0, .int .u64 0, .int .u64 0] 24
              have H2 := H1.alloc H1.size (.cells #[.int .u64 0, .int .u64 0, .int .u64 0] 24)
              generalize v1'.alloc (.cells #[.int .u64 0, .int .u64 0, .int .u64 0] 24) = v2' at *
              refine h2_st (i := 14) rfl (by kernel_rfl) (by kernel_rfl) (by kernel_rfl) (st_row 24 (.tmp 14) (.tmp 74) rfl (g := v1'.heap.size) (cells := #[.int .u64 q.tok, .int .u64 q.at_, .int .u64 q.rate]) (by kernel_rfl) (by kernel_rfl) qB (by kernel_rfl) rfl (by simp [Value.oneCell'])) (below_setRow' H2 (by have := hVD.size; omega)) ?_
              refine h2_take (i := 15) (v := .bool tb) 15 rfl (by kernel_rfl) (by kernel_rfl) (by kernel_rfl) (by kernel_rfl) (fun _ _ _ h => h) (by kernel_rfl) (below_setRow' H2 (by have := hVD.size; omega)) (fun v hv => by kernel_rfl) ?_
              refine held_done (by kernel_rfl) ?_
              simp only [Act.put, List.setIfInBounds_toArray, List.set_cons_succ, List.set_cons_zero]
              go_wp2
              go_meet
              exact ⟨_, rfl, rfl, qB.setRow _, (by have := hVD.size; omega), below_setRow' H2 (by have := hVD.size; omega)⟩
            · refine o2_value (i := 13) 14 (v := .pointer (some ⟨D.heap.size, 0, none⟩)) (w' := D.alloc (.cells #[.int .u64 0, .int .u64 0, .int .u64 0] 24)) rfl (by kernel_rfl) (by kernel_rfl) (by kernel_rfl) ?_
              have qB := Blk.new D #[.int .u64 0, .int .u64 0, .int .u64 0] 24
              have H1 := hVD.alloc hVD.size (.cells #[.int .u64 0, .int .u64 0, .int .u64 0] 24)
              generalize D.alloc (.cells #[.int .u64 0, .int .u64 0, .int .u64 0] 24) = v1' at *
              refine ⟨H1, ?_⟩
              refine h2_call (i := 9) 73 (f := 8) (args := #[.agg #[.int .u64 p'.tok, .int .u64 p'.at_, .int .u64 p'.rate], .int .u64 a0, .int .u64 nw, .int .u64 s]) rfl (by kernel_rfl) (by kernel_rfl) (by kernel_rfl) (by kernel_rfl) ((CT v1').mono ?_)
              rintro e v2' ⟨rfl, E2⟩
              have H2 : Below V.heap.size V v2' := Base.next H1 E2
              replace qB := qB.below E2 qB.lt
              refine ⟨_, rfl, H2, ?_⟩
              refine h2_take (i := 10) (v := .tuple #[.agg #[.int .u64 q.tok, .int .u64 q.at_, .int .u64 q.rate], .bool tb]) 63 rfl (by kernel_rfl) (by kernel_rfl) (by kernel_rfl) (by kernel_rfl) (fun _ _ _ h => h) (by kernel_rfl) H2 (fun v hv => by kernel_rfl) ?_
              refine h2_take (i := 11) (v := .agg #[.int .u64 q.tok, .int .u64 q.at_, .int .u64 q.rate]) 74 rfl (by kernel_rfl) (by kernel_rfl) (by kernel_rfl) (by kernel_rfl) (fun _ _ _ h => h) (by kernel_rfl) H2 (fun v hv => by kernel_rfl) ?_
              refine h2_take (i := 12) (v := .bool tb) 75 rfl (by kernel_rfl) (by kernel_rfl) (by kernel_rfl) (by kernel_rfl) (fun _ _ _ h => h) (by kernel_rfl) H2 (fun v hv => by kernel_rfl) ?_
              refine h2_st (i := 14) rfl (by kernel_rfl) (by kernel_rfl) (by kernel_rfl) (st_row 24 (.tmp 14) (.tmp 74) rfl (g := D.heap.size) (cells := #[.int .u64 q.tok, .int .u64 q.at_, .int .u64 q.rate]) (by kernel_rfl) (by kernel_rfl) qB (by kernel_rfl) rfl (by simp [Value.oneCell'])) (below_setRow' H2 (by have := hVD.size; omega)) ?_
              refine h2_take (i := 15) (v := .bool tb) 15 rfl (by kernel_rfl) (by kernel_rfl) (by kernel_rfl) (by kernel_rfl) (fun _ _ _ h => h) (by kernel_rfl) (below_setRow' H2 (by have := hVD.size; omega)) (fun v hv => by kernel_rfl) ?_
              refine held_done (by kernel_rfl) ?_
              simp only [Act.put, List.setIfInBounds_toArray, List.set_cons_succ, List.set_cons_zero]
              go_wp2
              go_meet
              exact ⟨_, rfl, rfl, qB.setRow _, (by have := hVD.size; omega), below_setRow' H2 (by have := hVD.size; omega)⟩
          case rest =>
            obtain ⟨qb, rfl, rfl, qB, hqb, hX⟩ := hcut
            have hne : pb ≠ qb := by have := pB.lt; omega
            have R := R.below hX
            have pB := pB.below hX pB.lt
            have hL := Base.next hL hX
            clear CT hl13 hbV hX hqb
            have k0 : _ = some (Value.int .u64 q.tok) := qB.cell 0
            have k1 : _ = some (Value.int .u64 q.at_) := qB.cell 1
            have k2 : _ = some (Value.int .u64 q.rate) := qB.cell 2
            have hqlt := qB.lt
            go_upto_region 15 with (refine wpl_store_row rfl 24 (.tmp 8) (.tmp 76) rfl pB #[.int .u64 q.tok, .int .u64 q.at_, .int .u64 q.rate] rfl rfl (by kernel_rfl) rfl (by simp [Value.oneCell']) ?_)
            refine at_any ?_
            intro X0 hX
            have F6 : Fr (fun k => k = pb) wc (wc.setRow pb #[.int .u64 q.tok, .int .u64 q.at_, .int .u64 q.rate]) := (Fr.refl (fun k => k = pb) wc).setRow (fun _ => rfl) _
            replace R : Rows3 w X0 v1 v2 v3 (T.map Tk.at_) (T.map Tk.went) (T.map Tk.rate) := by subst hX; exact R.kept F6 hO
            replace pB : Blk X0 pb #[.int .u64 q.tok, .int .u64 q.at_, .int .u64 q.rate] 24 := by subst hX; exact pB.setRow _
            replace hL : Below w.heap.size w X0 := by subst hX; exact below_setRow' hL hpb
            clear F6 hX k0 k1 k2 hqlt qB hne
            have hl13 := (hL.cell (p := ⟨b', off' + k * 4 + 1, none⟩) hb').trans hx1
            have hbX : b' < X0.heap.size := Nat.lt_of_lt_of_le hb' hL.size
            go_upto_if 77 with fail
            go_cut [16] (fun s16 wx => s16 = .int .u64 n ∧ wx = X0)
            case first =>
              cases tb
              · simp only [Bool.false_eq_true, ↓reduceIte] at e2
                subst e2
                go_wp2
                go_meet
                exact ⟨rfl, rfl⟩
              · simp only [↓reduceIte] at e2
                subst e2
                go_wp2
                go_meet
                exact ⟨rfl, rfl⟩
            case rest =>
              obtain ⟨rfl, rfl⟩ := hcut
              clear hl13 hbX
              go_upto_region 18 with fail
              refine at_any ?_
              intro X hX
              replace R : Rows3 w X v1 v2 v3 (T.map Tk.at_) (T.map Tk.went) (T.map Tk.rate) := by subst hX; exact R
              replace pB : Blk X pb #[.int .u64 q.tok, .int .u64 q.at_, .int .u64 q.rate] 24 := by subst hX; exact pB
              replace hL : Below w.heap.size w X := by subst hX; exact hL
              clear hX
              have hend : ∀ (y1 y2 y3 : Value) (V : World), Rows3 w V y1 y2 y3 (T.map Tk.at_ ++ [nw]) (T.map Tk.went ++ [n]) (T.map Tk.rate ++ [q.rate]) → Blk V pb #[.int .u64 q.tok, .int .u64 q.at_, .int .u64 q.rate] 24 → Out3 y1 y2 y3 pb → Below w.heap.size w V → (∃ (k1 : Nat) (T : List Tk) (p : Pc) (v1 v2 v3 : Value), k1 ≤ z2.length ∧ Value.int .i64 ((k : Int) + 1) = .int .i64 k1 ∧ Value.int .u64 nw = .int .u64 p.at_ ∧ v1 = y1 ∧ v2 = y2 ∧ v3 = y3 ∧ T.length = k1 ∧ Chain (a0 * 1000000) T ∧ 0 ≤ p.tok ∧ p.tok ≤ a0 * 1000000 ∧ 0 ≤ p.at_ ∧ p.at_ ≤ 65535 * k1 ∧ 0 ≤ p.rate ∧ p.rate ≤ 4294967296 ∧ (∀ j, j + 1 = T.length → (T.getD j tk0).at_ = p.at_ ∧ (T.getD j tk0).rate = p.rate ∧ (T.getD j tk0).y = p.tok) ∧ Rows3 w V v1 v2 v3 (T.map Tk.at_) (T.map Tk.went) (T.map Tk.rate) ∧ Blk V pb #[.int .u64 p.tok, .int .u64 p.at_, .int .u64 p.rate] 24 ∧ Out3 v1 v2 v3 pb ∧ Below w.heap.size w V) := fun y1 y2 y3 V R pB hO hL => by
                refine ⟨k + 1, T ++ [⟨q.at_, n, q.rate, q.tok⟩], q, y1, y2, y3, hlt, by go_num, by rw [UA.out], rfl, rfl, rfl, by simp [hT], hCh2, u0, u1, by have := UA.out; have := hnw.1; omega, by have := UA.out; omega, ur0, ur1, fun j hj => ?_, ?_, pB, hO, hL⟩
                · obtain rfl : j = T.length := by simpa using hj
                  rw [getD_snoc_at]
                  exact ⟨rfl, rfl, rfl⟩
                · simp only [List.map_append, List.map_cons, List.map_nil, UA.out]
                  exact R
              clear hCh2 u0 u1 ua1 ur0 ur1 UA
              refine wp_fin (fun a a' V => ∃ g1 g2 g3 y1 y2 y3 : Value, a' = ((((((((((((((((a.put (some 84) v1).put (some 85) (.int .u64 nw)).put (some 86) g1).put (some 87) y1).put (some 88) v2).put (some 89) (.int .u64 n)).put (some 90) g2).put (some 91) y2).put (some 92) v3).put (some 93) (.pointer (some ⟨pb, 2, none⟩))).put (some 94) (.int .u64 q.rate)).put (some 95) g3).put (some 96) y3).put (some 9) y1).put (some 10) y2).put (some 11) y3) ∧ Rows3 w V y1 y2 y3 (T.map Tk.at_ ++ [nw]) (T.map Tk.went ++ [n]) (T.map Tk.rate ++ [q.rate]) ∧ Blk V pb #[.int .u64 q.tok, .int .u64 q.at_, .int .u64 q.rate] 24 ∧ Out3 y1 y2 y3 pb ∧ Below w.heap.size w V) ?_ ?_
              rotate_left
              · rintro a' V ⟨g1, g2, g3, y1, y2, y3, rfl, R, pB, hO, hL⟩
                simp only [Act.put, List.setIfInBounds_toArray, List.set_cons_succ, List.set_cons_zero]
                go_wp2
                all_goals go_roundw
                case rel => exact hend _ _ _ _ R pB hO hL
                case measure => simp [intOf]; omega
              clear hend
              have hDD : Fr (fun _ => False) X X.drew := Fr.of_below (Base.drew1 (Below.refl _ _))
              have hLD := Base.drew1 (Below.refl X.heap.size X)
              replace R := R.below hLD
              replace pB := pB.below hLD pB.lt
              replace hL := Base.next hL hLD
              have hlen0 : (T.map Tk.at_).length + 1 ≤ 1000000000000 := by rw [List.length_map]; omega
              have hlen1 : (T.map Tk.went).length + 1 ≤ 1000000000000 := by rw [List.length_map]; omega
              have hlen2 : (T.map Tk.rate).length + 1 ≤ 1000000000000 := by rw [List.length_map]; omega
              have hpD : ∀ v, Fr (fun k => v1.ownBlock = some k ∨ v2.ownBlock = some k ∨ v3.ownBlock = some k) X.drew v → v.cell? ⟨pb, 2, none⟩ = some (.int .u64 q.rate) := fun v hv => (hv.cell (p := ⟨pb, 2, none⟩) pB.lt (fun h => h.elim hO.1 fun h => h.elim hO.2.1 hO.2.2)).trans (pB.cell 2)
              have SV : Fr (fun k => v1.ownBlock = some k ∨ v2.ownBlock = some k ∨ v3.ownBlock = some k) X.drew X.drew := Fr.refl _ _
              generalize T.map Tk.at_ = l0 at *
              generalize T.map Tk.went = l1 at *
              generalize T.map Tk.rate = l2 at *
              obtain ⟨za, ka, rfl, _, _, _⟩ := R.o1.read
              obtain ⟨zb, kb, rfl, _, _, _⟩ := R.o2.read
              obtain ⟨zc, kc, rfl, _, _, _⟩ := R.o3.read
              refine held_start (fun v => Fr (fun k => (Value.slice za l0.length ka).ownBlock = some k ∨ (Value.slice zb l1.length kb).ownBlock = some k ∨ (Value.slice zc l2.length kc).ownBlock = some k) X.drew v) (by kernel_rfl) ?_
              generalize X.drew = x0 at *
              clear hDD hLD
              refine h2_take (i := 0) (v := (.slice za l0.length ka)) 84 rfl (by kernel_rfl) (by kernel_rfl) (by kernel_rfl) (by kernel_rfl) (fun _ _ _ h => nomatch h.1) (by kernel_rfl) SV (fun v hv => by kernel_rfl) ?_
              refine h2_take (i := 1) (v := .int .u64 nw) 85 rfl (by kernel_rfl) (by kernel_rfl) (by kernel_rfl) (by kernel_rfl) (fun _ _ _ h => nomatch h.1) (by kernel_rfl) SV (fun v hv => by kernel_rfl) ?_
              refine h2_take (i := 4) (v := (.slice zb l1.length kb)) 88 rfl (by kernel_rfl) (by kernel_rfl) (by kernel_rfl) (by kernel_rfl) (fun _ _ _ h => nomatch h.1) (by kernel_rfl) SV (fun v hv => by kernel_rfl) ?_
              refine h2_take (i := 5) (v := .int .u64 n) 89 rfl (by kernel_rfl) (by kernel_rfl) (by kernel_rfl) (by kernel_rfl) (fun _ _ _ h => nomatch h.1) (by kernel_rfl) SV (fun v hv => by kernel_rfl) ?_
              refine h2_take (i := 8) (v := (.slice zc l2.length kc)) 92 rfl (by kernel_rfl) (by kernel_rfl) (by kernel_rfl) (by kernel_rfl) (fun _ _ _ h => nomatch h.1) (by kernel_rfl) SV (fun v hv => by kernel_rfl) ?_
              refine h2_take (i := 9) (v := .pointer (some ⟨pb, 2, none⟩)) 93 rfl (by kernel_rfl) (by kernel_rfl) (by kernel_rfl) (by kernel_rfl) (fun _ _ _ h => nomatch h.1) (by kernel_rfl) SV (fun v hv => by kernel_rfl) ?_
              refine h2_take (i := 10) (v := .int .u64 q.rate) 94 rfl (by kernel_rfl) (by kernel_rfl) (by kernel_rfl) (by kernel_rfl) (fun _ _ _ h => nomatch h.1) (by kernel_rfl) SV (fun v hv => by exact lb_any 22 (.tmp 93) rfl (by kernel_rfl) (by kernel_rfl) (hpD v hv)) ?_
              clear hpD
              refine h2_three (i := 2) (j := 6) (k := 11) (by kernel_rfl) ?_ ?_ ?_
              · refine o2_lit (n := nw) (i := 2) 86 (.tmp 85) rfl (by kernel_rfl) (by kernel_rfl) rfl (by kernel_rfl) ?_
                intro g0 x1 e0 hA lB0
                have oB0 := out3_lt R (Nat.le_refl _)
                rw [← e0] at oB0
                clear e0
                replace R := R.below hA
                replace pB := pB.below hA pB.lt
                replace hL := Base.next hL hA
                replace SV := SV.trans (T := fun _ => False) (Fr.of_below hA) fun _ _ h => h.elim
                clear hA
                refine ⟨SV, ?_⟩
                refine h2_three (i := 3) (j := 6) (k := 11) (by kernel_rfl) ?_ ?_ ?_
                · refine o2_wp (i := 3) rfl (by kernel_rfl) (wp_addR 87 (by kernel_rfl) (s := nw) (v := (.slice za l0.length ka)) (b := some ⟨g0, 0, none⟩) (.tmp 84) (.tmp 86) rfl (by kernel_rfl) R.o1 (by kernel_rfl) (.of (Row.lit_at lB0)) hlen0 ?_)
                  intro y2 x2 A
                  have A1 := A.fr
                  replace SV := SV.trans A1 fun i _ hi => Or.inl hi
                  obtain ⟨R2, keep, hA⟩ := R.add1 hL.size A
                  have pK := keep _ pB.lt hO
                  replace pB := keep_blk pB pK.1
                  replace hO := pK.2
                  replace R := R2
                  replace hL := hL.trans hA
                  obtain ⟨z2, k2, rfl, _, _, _⟩ := A.own.read
                  clear keep hA R2 A A1 lB0 oB0
                  refine ⟨SV, ?_⟩
                  refine held_two (i := 6) (j := 11) (by kernel_rfl) ?_ ?_
                  · refine o2_lit (n := n) (i := 6) 90 (.tmp 89) rfl (by kernel_rfl) (by kernel_rfl) rfl (by kernel_rfl) ?_
                    intro g1 x3 e1 hA lB1
                    have oB1 := out3_lt R (Nat.le_refl _)
                    rw [← e1] at oB1
                    clear e1
                    replace R := R.below hA
                    replace pB := pB.below hA pB.lt
                    replace hL := Base.next hL hA
                    replace SV := SV.trans (T := fun _ => False) (Fr.of_below hA) fun _ _ h => h.elim
                    clear hA
                    refine ⟨SV, ?_⟩
                    refine held_two (i := 7) (j := 11) (by kernel_rfl) ?_ ?_
                    · refine o2_wp (i := 7) rfl (by kernel_rfl) (wp_addR 91 (by kernel_rfl) (s := n) (v := (.slice zb l1.length kb)) (b := some ⟨g1, 0, none⟩) (.tmp 88) (.tmp 90) rfl (by kernel_rfl) R.o2 (by kernel_rfl) (.of (Row.lit_at lB1)) hlen1 ?_)
                      intro y4 x4 A
                      have A1 := A.fr
                      replace SV := SV.trans A1 fun i _ hi => Or.inr (Or.inl hi)
                      obtain ⟨R2, keep, hA⟩ := R.add2 hL.size A
                      have pK := keep _ pB.lt hO
                      replace pB := keep_blk pB pK.1
                      replace hO := pK.2
                      replace R := R2
                      replace hL := hL.trans hA
                      obtain ⟨z4, k4, rfl, _, _, _⟩ := A.own.read
                      clear keep hA R2 A A1 lB1 oB1
                      refine ⟨SV, ?_⟩
                      refine h2_lit (n := q.rate) (i := 11) 95 (.tmp 94) rfl (by kernel_rfl) (by kernel_rfl) (by kernel_rfl) rfl (by kernel_rfl) ?_
                      intro g2 x5 e2 hA lB2
                      have oB2 := out3_lt R (Nat.le_refl _)
                      rw [← e2] at oB2
                      clear e2
                      replace R := R.below hA
                      replace pB := pB.below hA pB.lt
                      replace hL := Base.next hL hA
                      replace SV := SV.trans (T := fun _ => False) (Fr.of_below hA) fun _ _ h => h.elim
                      clear hA
                      refine ⟨SV, ?_⟩
                      refine held_wp (i := 12) rfl (by kernel_rfl) (by kernel_rfl) (wp_addR 96 (by kernel_rfl) (s := q.rate) (v := (.slice zc l2.length kc)) (b := some ⟨g2, 0, none⟩) (.tmp 92) (.tmp 95) rfl (by kernel_rfl) R.o3 (by kernel_rfl) (.of (Row.lit_at lB2)) hlen2 ?_)
                      intro y6 x6 A
                      have A1 := A.fr
                      replace SV := SV.trans A1 fun i _ hi => Or.inr (Or.inr hi)
                      obtain ⟨R2, keep, hA⟩ := R.add3 hL.size A
                      have pK := keep _ pB.lt hO
                      replace pB := keep_blk pB pK.1
                      replace hO := pK.2
                      replace R := R2
                      replace hL := hL.trans hA
                      obtain ⟨z6, k6, rfl, _, _, _⟩ := A.own.read
                      clear keep hA R2 A A1 lB2 oB2
                      refine ⟨SV, ?_⟩
                      refine h2_take (i := 13) (v := (.slice z2 (l0 ++ [nw]).length k2)) 9 rfl (by kernel_rfl) (by kernel_rfl) (by kernel_rfl) (by kernel_rfl) (fun _ _ _ h => nomatch h.1) (by kernel_rfl) SV (fun v hv => by kernel_rfl) ?_
                      refine h2_take (i := 14) (v := (.slice z4 (l1 ++ [n]).length k4)) 10 rfl (by kernel_rfl) (by kernel_rfl) (by kernel_rfl) (by kernel_rfl) (fun _ _ _ h => nomatch h.1) (by kernel_rfl) SV (fun v hv => by kernel_rfl) ?_
                      refine h2_take (i := 15) (v := (.slice z6 (l2 ++ [q.rate]).length k6)) 11 rfl (by kernel_rfl) (by kernel_rfl) (by kernel_rfl) (by kernel_rfl) (fun _ _ _ h => nomatch h.1) (by kernel_rfl) SV (fun v hv => by kernel_rfl) ?_
                      exact held_done (by kernel_rfl) ⟨rfl, .slice (some ⟨g0, 0, none⟩) 1 1, .slice (some ⟨g1, 0, none⟩) 1 1, .slice (some ⟨g2, 0, none⟩) 1 1, (.slice z2 (l0 ++ [nw]).length k2), (.slice z4 (l1 ++ [n]).length k4), (.slice z6 (l2 ++ [q.rate]).length k6), by kernel_rfl, R, pB, hO, hL⟩
                    · refine o2_lit (n := q.rate) (i := 11) 95 (.tmp 94) rfl (by kernel_rfl) (by kernel_rfl) rfl (by kernel_rfl) ?_
                      intro g2 x4 e2 hA lB2
                      have oB2 := out3_lt R (Nat.le_refl _)
                      rw [← e2] at oB2
                      clear e2
                      replace lB1 := lB1.below hA lB1.lt
                      replace R := R.below hA
                      replace pB := pB.below hA pB.lt
                      replace hL := Base.next hL hA
                      replace SV := SV.trans (T := fun _ => False) (Fr.of_below hA) fun _ _ h => h.elim
                      clear hA
                      refine ⟨SV, ?_⟩
                      refine held_wp (i := 7) rfl (by kernel_rfl) (by kernel_rfl) (wp_addR 91 (by kernel_rfl) (s := n) (v := (.slice zb l1.length kb)) (b := some ⟨g1, 0, none⟩) (.tmp 88) (.tmp 90) rfl (by kernel_rfl) R.o2 (by kernel_rfl) (.of (Row.lit_at lB1)) hlen1 ?_)
                      intro y5 x5 A
                      have A1 := A.fr
                      replace SV := SV.trans A1 fun i _ hi => Or.inr (Or.inl hi)
                      obtain ⟨R2, keep, hA⟩ := R.add2 hL.size A
                      have pK := keep _ pB.lt hO
                      replace pB := keep_blk pB pK.1
                      replace hO := pK.2
                      have kB2 := keep _ lB2.lt oB2
                      replace lB2 := keep_blk lB2 kB2.1
                      replace oB2 := kB2.2
                      replace R := R2
                      replace hL := hL.trans hA
                      obtain ⟨z5, k5, rfl, _, _, _⟩ := A.own.read
                      clear keep hA R2 A A1 lB1 oB1
                      refine ⟨SV, ?_⟩
                      refine held_wp (i := 12) rfl (by kernel_rfl) (by kernel_rfl) (wp_addR 96 (by kernel_rfl) (s := q.rate) (v := (.slice zc l2.length kc)) (b := some ⟨g2, 0, none⟩) (.tmp 92) (.tmp 95) rfl (by kernel_rfl) R.o3 (by kernel_rfl) (.of (Row.lit_at lB2)) hlen2 ?_)
                      intro y6 x6 A
                      have A1 := A.fr
                      replace SV := SV.trans A1 fun i _ hi => Or.inr (Or.inr hi)
                      obtain ⟨R2, keep, hA⟩ := R.add3 hL.size A
                      have pK := keep _ pB.lt hO
                      replace pB := keep_blk pB pK.1
                      replace hO := pK.2
                      replace R := R2
                      replace hL := hL.trans hA
                      obtain ⟨z6, k6, rfl, _, _, _⟩ := A.own.read
                      clear keep hA R2 A A1 lB2 oB2
                      refine ⟨SV, ?_⟩
                      refine h2_take (i := 13) (v := (.slice z2 (l0 ++ [nw]).length k2)) 9 rfl (by kernel_rfl) (by kernel_rfl) (by kernel_rfl) (by kernel_rfl) (fun _ _ _ h => nomatch h.1) (by kernel_rfl) SV (fun v hv => by kernel_rfl) ?_
                      refine h2_take (i := 14) (v := (.slice z5 (l1 ++ [n]).length k5)) 10 rfl (by kernel_rfl) (by kernel_rfl) (by kernel_rfl) (by kernel_rfl) (fun _ _ _ h => nomatch h.1) (by kernel_rfl) SV (fun v hv => by kernel_rfl) ?_
                      refine h2_take (i := 15) (v := (.slice z6 (l2 ++ [q.rate]).length k6)) 11 rfl (by kernel_rfl) (by kernel_rfl) (by kernel_rfl) (by kernel_rfl) (fun _ _ _ h => nomatch h.1) (by kernel_rfl) SV (fun v hv => by kernel_rfl) ?_
                      exact held_done (by kernel_rfl) ⟨rfl, .slice (some ⟨g0, 0, none⟩) 1 1, .slice (some ⟨g1, 0, none⟩) 1 1, .slice (some ⟨g2, 0, none⟩) 1 1, (.slice z2 (l0 ++ [nw]).length k2), (.slice z5 (l1 ++ [n]).length k5), (.slice z6 (l2 ++ [q.rate]).length k6), by kernel_rfl, R, pB, hO, hL⟩
                  · refine o2_lit (n := q.rate) (i := 11) 95 (.tmp 94) rfl (by kernel_rfl) (by kernel_rfl) rfl (by kernel_rfl) ?_
                    intro g2 x3 e2 hA lB2
                    have oB2 := out3_lt R (Nat.le_refl _)
                    rw [← e2] at oB2
                    clear e2
                    replace R := R.below hA
                    replace pB := pB.below hA pB.lt
                    replace hL := Base.next hL hA
                    replace SV := SV.trans (T := fun _ => False) (Fr.of_below hA) fun _ _ h => h.elim
                    clear hA
                    refine ⟨SV, ?_⟩
                    refine h2_lit (n := n) (i := 6) 90 (.tmp 89) rfl (by kernel_rfl) (by kernel_rfl) (by kernel_rfl) rfl (by kernel_rfl) ?_
                    intro g1 x4 e1 hA lB1
                    have oB1 := out3_lt R (Nat.le_refl _)
                    rw [← e1] at oB1
                    clear e1
                    replace lB2 := lB2.below hA lB2.lt
                    replace R := R.below hA
                    replace pB := pB.below hA pB.lt
                    replace hL := Base.next hL hA
                    replace SV := SV.trans (T := fun _ => False) (Fr.of_below hA) fun _ _ h => h.elim
                    clear hA
                    refine ⟨SV, ?_⟩
                    refine held_wp (i := 7) rfl (by kernel_rfl) (by kernel_rfl) (wp_addR 91 (by kernel_rfl) (s := n) (v := (.slice zb l1.length kb)) (b := some ⟨g1, 0, none⟩) (.tmp 88) (.tmp 90) rfl (by kernel_rfl) R.o2 (by kernel_rfl) (.of (Row.lit_at lB1)) hlen1 ?_)
                    intro y5 x5 A
                    have A1 := A.fr
                    replace SV := SV.trans A1 fun i _ hi => Or.inr (Or.inl hi)
                    obtain ⟨R2, keep, hA⟩ := R.add2 hL.size A
                    have pK := keep _ pB.lt hO
                    replace pB := keep_blk pB pK.1
                    replace hO := pK.2
                    have kB2 := keep _ lB2.lt oB2
                    replace lB2 := keep_blk lB2 kB2.1
                    replace oB2 := kB2.2
                    replace R := R2
                    replace hL := hL.trans hA
                    obtain ⟨z5, k5, rfl, _, _, _⟩ := A.own.read
                    clear keep hA R2 A A1 lB1 oB1
                    refine ⟨SV, ?_⟩
                    refine held_wp (i := 12) rfl (by kernel_rfl) (by kernel_rfl) (wp_addR 96 (by kernel_rfl) (s := q.rate) (v := (.slice zc l2.length kc)) (b := some ⟨g2, 0, none⟩) (.tmp 92) (.tmp 95) rfl (by kernel_rfl) R.o3 (by kernel_rfl) (.of (Row.lit_at lB2)) hlen2 ?_)
                    intro y6 x6 A
                    have A1 := A.fr
                    replace SV := SV.trans A1 fun i _ hi => Or.inr (Or.inr hi)
                    obtain ⟨R2, keep, hA⟩ := R.add3 hL.size A
                    have pK := keep _ pB.lt hO
                    replace pB := keep_blk pB pK.1
                    replace hO := pK.2
                    replace R := R2
                    replace hL := hL.trans hA
                    obtain ⟨z6, k6, rfl, _, _, _⟩ := A.own.read
                    clear keep hA R2 A A1 lB2 oB2
                    refine ⟨SV, ?_⟩
                    refine h2_take (i := 13) (v := (.slice z2 (l0 ++ [nw]).length k2)) 9 rfl (by kernel_rfl) (by kernel_rfl) (by kernel_rfl) (by kernel_rfl) (fun _ _ _ h => nomatch h.1) (by kernel_rfl) SV (fun v hv => by kernel_rfl) ?_
                    refine h2_take (i := 14) (v := (.slice z5 (l1 ++ [n]).length k5)) 10 rfl (by kernel_rfl) (by kernel_rfl) (by kernel_rfl) (by kernel_rfl) (fun _ _ _ h => nomatch h.1) (by kernel_rfl) SV (fun v hv => by kernel_rfl) ?_
                    refine h2_take (i := 15) (v := (.slice z6 (l2 ++ [q.rate]).length k6)) 11 rfl (by kernel_rfl) (by kernel_rfl) (by kernel_rfl) (by kernel_rfl) (fun _ _ _ h => nomatch h.1) (by kernel_rfl) SV (fun v hv => by kernel_rfl) ?_
                    exact held_done (by kernel_rfl) ⟨rfl, .slice (some ⟨g0, 0, none⟩) 1 1, .slice (some ⟨g1, 0, none⟩) 1 1, .slice (some ⟨g2, 0, none⟩) 1 1, (.slice z2 (l0 ++ [nw]).length k2), (.slice z5 (l1 ++ [n]).length k5), (.slice z6 (l2 ++ [q.rate]).length k6), by kernel_rfl, R, pB, hO, hL⟩
                · refine o2_lit (n := n) (i := 6) 90 (.tmp 89) rfl (by kernel_rfl) (by kernel_rfl) rfl (by kernel_rfl) ?_
                  intro g1 x2 e1 hA lB1
                  have oB1 := out3_lt R (Nat.le_refl _)
                  rw [← e1] at oB1
                  clear e1
                  replace lB0 := lB0.below hA lB0.lt
                  replace R := R.below hA
                  replace pB := pB.below hA pB.lt
                  replace hL := Base.next hL hA
                  replace SV := SV.trans (T := fun _ => False) (Fr.of_below hA) fun _ _ h => h.elim
                  clear hA
                  refine ⟨SV, ?_⟩
                  refine held_two (i := 3) (j := 11) (by kernel_rfl) ?_ ?_
                  · refine o2_wp (i := 3) rfl (by kernel_rfl) (wp_addR 87 (by kernel_rfl) (s := nw) (v := (.slice za l0.length ka)) (b := some ⟨g0, 0, none⟩) (.tmp 84) (.tmp 86) rfl (by kernel_rfl) R.o1 (by kernel_rfl) (.of (Row.lit_at lB0)) hlen0 ?_)
                    intro y3 x3 A
                    have A1 := A.fr
                    replace SV := SV.trans A1 fun i _ hi => Or.inl hi
                    obtain ⟨R2, keep, hA⟩ := R.add1 hL.size A
                    have pK := keep _ pB.lt hO
                    replace pB := keep_blk pB pK.1
                    replace hO := pK.2
                    have kB1 := keep _ lB1.lt oB1
                    replace lB1 := keep_blk lB1 kB1.1
                    replace oB1 := kB1.2
                    replace R := R2
                    replace hL := hL.trans hA
                    obtain ⟨z3, k3, rfl, _, _, _⟩ := A.own.read
                    clear keep hA R2 A A1 lB0 oB0
                    refine ⟨SV, ?_⟩
                    refine held_two (i := 7) (j := 11) (by kernel_rfl) ?_ ?_
                    · refine o2_wp (i := 7) rfl (by kernel_rfl) (wp_addR 91 (by kernel_rfl) (s := n) (v := (.slice zb l1.length kb)) (b := some ⟨g1, 0, none⟩) (.tmp 88) (.tmp 90) rfl (by kernel_rfl) R.o2 (by kernel_rfl) (.of (Row.lit_at lB1)) hlen1 ?_)
                      intro y4 x4 A
                      have A1 := A.fr
                      replace SV := SV.trans A1 fun i _ hi => Or.inr (Or.inl hi)
                      obtain ⟨R2, keep, hA⟩ := R.add2 hL.size A
                      have pK := keep _ pB.lt hO
                      replace pB := keep_blk pB pK.1
                      replace hO := pK.2
                      replace R := R2
                      replace hL := hL.trans hA
                      obtain ⟨z4, k4, rfl, _, _, _⟩ := A.own.read
                      clear keep hA R2 A A1 lB1 oB1
                      refine ⟨SV, ?_⟩
                      refine h2_lit (n := q.rate) (i := 11) 95 (.tmp 94) rfl (by kernel_rfl) (by kernel_rfl) (by kernel_rfl) rfl (by kernel_rfl) ?_
                      intro g2 x5 e2 hA lB2
                      have oB2 := out3_lt R (Nat.le_refl _)
                      rw [← e2] at oB2
                      clear e2
                      replace R := R.below hA
                      replace pB := pB.below hA pB.lt
                      replace hL := Base.next hL hA
                      replace SV := SV.trans (T := fun _ => False) (Fr.of_below hA) fun _ _ h => h.elim
                      clear hA
                      refine ⟨SV, ?_⟩
                      refine held_wp (i := 12) rfl (by kernel_rfl) (by kernel_rfl) (wp_addR 96 (by kernel_rfl) (s := q.rate) (v := (.slice zc l2.length kc)) (b := some ⟨g2, 0, none⟩) (.tmp 92) (.tmp 95) rfl (by kernel_rfl) R.o3 (by kernel_rfl) (.of (Row.lit_at lB2)) hlen2 ?_)
                      intro y6 x6 A
                      have A1 := A.fr
                      replace SV := SV.trans A1 fun i _ hi => Or.inr (Or.inr hi)
                      obtain ⟨R2, keep, hA⟩ := R.add3 hL.size A
                      have pK := keep _ pB.lt hO
                      replace pB := keep_blk pB pK.1
                      replace hO := pK.2
                      replace R := R2
                      replace hL := hL.trans hA
                      obtain ⟨z6, k6, rfl, _, _, _⟩ := A.own.read
                      clear keep hA R2 A A1 lB2 oB2
                      refine ⟨SV, ?_⟩
                      refine h2_take (i := 13) (v := (.slice z3 (l0 ++ [nw]).length k3)) 9 rfl (by kernel_rfl) (by kernel_rfl) (by kernel_rfl) (by kernel_rfl) (fun _ _ _ h => nomatch h.1) (by kernel_rfl) SV (fun v hv => by kernel_rfl) ?_
                      refine h2_take (i := 14) (v := (.slice z4 (l1 ++ [n]).length k4)) 10 rfl (by kernel_rfl) (by kernel_rfl) (by kernel_rfl) (by kernel_rfl) (fun _ _ _ h => nomatch h.1) (by kernel_rfl) SV (fun v hv => by kernel_rfl) ?_
                      refine h2_take (i := 15) (v := (.slice z6 (l2 ++ [q.rate]).length k6)) 11 rfl (by kernel_rfl) (by kernel_rfl) (by kernel_rfl) (by kernel_rfl) (fun _ _ _ h => nomatch h.1) (by kernel_rfl) SV (fun v hv => by kernel_rfl) ?_
                      exact held_done (by kernel_rfl) ⟨rfl, .slice (some ⟨g0, 0, none⟩) 1 1, .slice (some ⟨g1, 0, none⟩) 1 1, .slice (some ⟨g2, 0, none⟩) 1 1, (.slice z3 (l0 ++ [nw]).length k3), (.slice z4 (l1 ++ [n]).length k4), (.slice z6 (l2 ++ [q.rate]).length k6), by kernel_rfl, R, pB, hO, hL⟩
                    · refine o2_lit (n := q.rate) (i := 11) 95 (.tmp 94) rfl (by kernel_rfl) (by kernel_rfl) rfl (by kernel_rfl) ?_
                      intro g2 x4 e2 hA lB2
                      have oB2 := out3_lt R (Nat.le_refl _)
                      rw [← e2] at oB2
                      clear e2
                      replace lB1 := lB1.below hA lB1.lt
                      replace R := R.below hA
                      replace pB := pB.below hA pB.lt
                      replace hL := Base.next hL hA
                      replace SV := SV.trans (T := fun _ => False) (Fr.of_below hA) fun _ _ h => h.elim
                      clear hA
                      refine ⟨SV, ?_⟩
                      refine held_wp (i := 7) rfl (by kernel_rfl) (by kernel_rfl) (wp_addR 91 (by kernel_rfl) (s := n) (v := (.slice zb l1.length kb)) (b := some ⟨g1, 0, none⟩) (.tmp 88) (.tmp 90) rfl (by kernel_rfl) R.o2 (by kernel_rfl) (.of (Row.lit_at lB1)) hlen1 ?_)
                      intro y5 x5 A
                      have A1 := A.fr
                      replace SV := SV.trans A1 fun i _ hi => Or.inr (Or.inl hi)
                      obtain ⟨R2, keep, hA⟩ := R.add2 hL.size A
                      have pK := keep _ pB.lt hO
                      replace pB := keep_blk pB pK.1
                      replace hO := pK.2
                      have kB2 := keep _ lB2.lt oB2
                      replace lB2 := keep_blk lB2 kB2.1
                      replace oB2 := kB2.2
                      replace R := R2
                      replace hL := hL.trans hA
                      obtain ⟨z5, k5, rfl, _, _, _⟩ := A.own.read
                      clear keep hA R2 A A1 lB1 oB1
                      refine ⟨SV, ?_⟩
                      refine held_wp (i := 12) rfl (by kernel_rfl) (by kernel_rfl) (wp_addR 96 (by kernel_rfl) (s := q.rate) (v := (.slice zc l2.length kc)) (b := some ⟨g2, 0, none⟩) (.tmp 92) (.tmp 95) rfl (by kernel_rfl) R.o3 (by kernel_rfl) (.of (Row.lit_at lB2)) hlen2 ?_)
                      intro y6 x6 A
                      have A1 := A.fr
                      replace SV := SV.trans A1 fun i _ hi => Or.inr (Or.inr hi)
                      obtain ⟨R2, keep, hA⟩ := R.add3 hL.size A
                      have pK := keep _ pB.lt hO
                      replace pB := keep_blk pB pK.1
                      replace hO := pK.2
                      replace R := R2
                      replace hL := hL.trans hA
                      obtain ⟨z6, k6, rfl, _, _, _⟩ := A.own.read
                      clear keep hA R2 A A1 lB2 oB2
                      refine ⟨SV, ?_⟩
                      refine h2_take (i := 13) (v := (.slice z3 (l0 ++ [nw]).length k3)) 9 rfl (by kernel_rfl) (by kernel_rfl) (by kernel_rfl) (by kernel_rfl) (fun _ _ _ h => nomatch h.1) (by kernel_rfl) SV (fun v hv => by kernel_rfl) ?_
                      refine h2_take (i := 14) (v := (.slice z5 (l1 ++ [n]).length k5)) 10 rfl (by kernel_rfl) (by kernel_rfl) (by kernel_rfl) (by kernel_rfl) (fun _ _ _ h => nomatch h.1) (by kernel_rfl) SV (fun v hv => by kernel_rfl) ?_
                      refine h2_take (i := 15) (v := (.slice z6 (l2 ++ [q.rate]).length k6)) 11 rfl (by kernel_rfl) (by kernel_rfl) (by kernel_rfl) (by kernel_rfl) (fun _ _ _ h => nomatch h.1) (by kernel_rfl) SV (fun v hv => by kernel_rfl) ?_
                      exact held_done (by kernel_rfl) ⟨rfl, .slice (some ⟨g0, 0, none⟩) 1 1, .slice (some ⟨g1, 0, none⟩) 1 1, .slice (some ⟨g2, 0, none⟩) 1 1, (.slice z3 (l0 ++ [nw]).length k3), (.slice z5 (l1 ++ [n]).length k5), (.slice z6 (l2 ++ [q.rate]).length k6), by kernel_rfl, R, pB, hO, hL⟩
                  · refine o2_lit (n := q.rate) (i := 11) 95 (.tmp 94) rfl (by kernel_rfl) (by kernel_rfl) rfl (by kernel_rfl) ?_
                    intro g2 x3 e2 hA lB2
                    have oB2 := out3_lt R (Nat.le_refl _)
                    rw [← e2] at oB2
                    clear e2
                    replace lB0 := lB0.below hA lB0.lt
                    replace lB1 := lB1.below hA lB1.lt
                    replace R := R.below hA
                    replace pB := pB.below hA pB.lt
                    replace hL := Base.next hL hA
                    replace SV := SV.trans (T := fun _ => False) (Fr.of_below hA) fun _ _ h => h.elim
                    clear hA
                    refine ⟨SV, ?_⟩
                    refine held_wp (i := 3) rfl (by kernel_rfl) (by kernel_rfl) (wp_addR 87 (by kernel_rfl) (s := nw) (v := (.slice za l0.length ka)) (b := some ⟨g0, 0, none⟩) (.tmp 84) (.tmp 86) rfl (by kernel_rfl) R.o1 (by kernel_rfl) (.of (Row.lit_at lB0)) hlen0 ?_)
                    intro y4 x4 A
                    have A1 := A.fr
                    replace SV := SV.trans A1 fun i _ hi => Or.inl hi
                    obtain ⟨R2, keep, hA⟩ := R.add1 hL.size A
                    have pK := keep _ pB.lt hO
                    replace pB := keep_blk pB pK.1
                    replace hO := pK.2
                    have kB1 := keep _ lB1.lt oB1
                    replace lB1 := keep_blk lB1 kB1.1
                    replace oB1 := kB1.2
                    have kB2 := keep _ lB2.lt oB2
                    replace lB2 := keep_blk lB2 kB2.1
                    replace oB2 := kB2.2
                    replace R := R2
                    replace hL := hL.trans hA
                    obtain ⟨z4, k4, rfl, _, _, _⟩ := A.own.read
                    clear keep hA R2 A A1 lB0 oB0
                    refine ⟨SV, ?_⟩
                    refine held_wp (i := 7) rfl (by kernel_rfl) (by kernel_rfl) (wp_addR 91 (by kernel_rfl) (s := n) (v := (.slice zb l1.length kb)) (b := some ⟨g1, 0, none⟩) (.tmp 88) (.tmp 90) rfl (by kernel_rfl) R.o2 (by kernel_rfl) (.of (Row.lit_at lB1)) hlen1 ?_)
                    intro y5 x5 A
                    have A1 := A.fr
                    replace SV := SV.trans A1 fun i _ hi => Or.inr (Or.inl hi)
                    obtain ⟨R2, keep, hA⟩ := R.add2 hL.size A
                    have pK := keep _ pB.lt hO
                    replace pB := keep_blk pB pK.1
                    replace hO := pK.2
                    have kB2 := keep _ lB2.lt oB2
                    replace lB2 := keep_blk lB2 kB2.1
                    replace oB2 := kB2.2
                    replace R := R2
                    replace hL := hL.trans hA
                    obtain ⟨z5, k5, rfl, _, _, _⟩ := A.own.read
                    clear keep hA R2 A A1 lB1 oB1
                    refine ⟨SV, ?_⟩
                    refine held_wp (i := 12) rfl (by kernel_rfl) (by kernel_rfl) (wp_addR 96 (by kernel_rfl) (s := q.rate) (v := (.slice zc l2.length kc)) (b := some ⟨g2, 0, none⟩) (.tmp 92) (.tmp 95) rfl (by kernel_rfl) R.o3 (by kernel_rfl) (.of (Row.lit_at lB2)) hlen2 ?_)
                    intro y6 x6 A
                    have A1 := A.fr
                    replace SV := SV.trans A1 fun i _ hi => Or.inr (Or.inr hi)
                    obtain ⟨R2, keep, hA⟩ := R.add3 hL.size A
                    have pK := keep _ pB.lt hO
                    replace pB := keep_blk pB pK.1
                    replace hO := pK.2
                    replace R := R2
                    replace hL := hL.trans hA
                    obtain ⟨z6, k6, rfl, _, _, _⟩ := A.own.read
                    clear keep hA R2 A A1 lB2 oB2
                    refine ⟨SV, ?_⟩
                    refine h2_take (i := 13) (v := (.slice z4 (l0 ++ [nw]).length k4)) 9 rfl (by kernel_rfl) (by kernel_rfl) (by kernel_rfl) (by kernel_rfl) (fun _ _ _ h => nomatch h.1) (by kernel_rfl) SV (fun v hv => by kernel_rfl) ?_
                    refine h2_take (i := 14) (v := (.slice z5 (l1 ++ [n]).length k5)) 10 rfl (by kernel_rfl) (by kernel_rfl) (by kernel_rfl) (by kernel_rfl) (fun _ _ _ h => nomatch h.1) (by kernel_rfl) SV (fun v hv => by kernel_rfl) ?_
                    refine h2_take (i := 15) (v := (.slice z6 (l2 ++ [q.rate]).length k6)) 11 rfl (by kernel_rfl) (by kernel_rfl) (by kernel_rfl) (by kernel_rfl) (fun _ _ _ h => nomatch h.1) (by kernel_rfl) SV (fun v hv => by kernel_rfl) ?_
                    exact held_done (by kernel_rfl) ⟨rfl, .slice (some ⟨g0, 0, none⟩) 1 1, .slice (some ⟨g1, 0, none⟩) 1 1, .slice (some ⟨g2, 0, none⟩) 1 1, (.slice z4 (l0 ++ [nw]).length k4), (.slice z5 (l1 ++ [n]).length k5), (.slice z6 (l2 ++ [q.rate]).length k6), by kernel_rfl, R, pB, hO, hL⟩
                · refine o2_lit (n := q.rate) (i := 11) 95 (.tmp 94) rfl (by kernel_rfl) (by kernel_rfl) rfl (by kernel_rfl) ?_
                  intro g2 x2 e2 hA lB2
                  have oB2 := out3_lt R (Nat.le_refl _)
                  rw [← e2] at oB2
                  clear e2
                  replace lB0 := lB0.below hA lB0.lt
                  replace R := R.below hA
                  replace pB := pB.below hA pB.lt
                  replace hL := Base.next hL hA
                  replace SV := SV.trans (T := fun _ => False) (Fr.of_below hA) fun _ _ h => h.elim
                  clear hA
                  refine ⟨SV, ?_⟩
                  refine held_two (i := 3) (j := 6) (by kernel_rfl) ?_ ?_
                  · refine o2_wp (i := 3) rfl (by kernel_rfl) (wp_addR 87 (by kernel_rfl) (s := nw) (v := (.slice za l0.length ka)) (b := some ⟨g0, 0, none⟩) (.tmp 84) (.tmp 86) rfl (by kernel_rfl) R.o1 (by kernel_rfl) (.of (Row.lit_at lB0)) hlen0 ?_)
                    intro y3 x3 A
                    have A1 := A.fr
                    replace SV := SV.trans A1 fun i _ hi => Or.inl hi
                    obtain ⟨R2, keep, hA⟩ := R.add1 hL.size A
                    have pK := keep _ pB.lt hO
                    replace pB := keep_blk pB pK.1
                    replace hO := pK.2
                    have kB2 := keep _ lB2.lt oB2
                    replace lB2 := keep_blk lB2 kB2.1
                    replace oB2 := kB2.2
                    replace R := R2
                    replace hL := hL.trans hA
                    obtain ⟨z3, k3, rfl, _, _, _⟩ := A.own.read
                    clear keep hA R2 A A1 lB0 oB0
                    refine ⟨SV, ?_⟩
                    refine h2_lit (n := n) (i := 6) 90 (.tmp 89) rfl (by kernel_rfl) (by kernel_rfl) (by kernel_rfl) rfl (by kernel_rfl) ?_
                    intro g1 x4 e1 hA lB1
                    have oB1 := out3_lt R (Nat.le_refl _)
                    rw [← e1] at oB1
                    clear e1
                    replace lB2 := lB2.below hA lB2.lt
                    replace R := R.below hA
                    replace pB := pB.below hA pB.lt
                    replace hL := Base.next hL hA
                    replace SV := SV.trans (T := fun _ => False) (Fr.of_below hA) fun _ _ h => h.elim
                    clear hA
                    refine ⟨SV, ?_⟩
                    refine held_wp (i := 7) rfl (by kernel_rfl) (by kernel_rfl) (wp_addR 91 (by kernel_rfl) (s := n) (v := (.slice zb l1.length kb)) (b := some ⟨g1, 0, none⟩) (.tmp 88) (.tmp 90) rfl (by kernel_rfl) R.o2 (by kernel_rfl) (.of (Row.lit_at lB1)) hlen1 ?_)
                    intro y5 x5 A
                    have A1 := A.fr
                    replace SV := SV.trans A1 fun i _ hi => Or.inr (Or.inl hi)
                    obtain ⟨R2, keep, hA⟩ := R.add2 hL.size A
                    have pK := keep _ pB.lt hO
                    replace pB := keep_blk pB pK.1
                    replace hO := pK.2
                    have kB2 := keep _ lB2.lt oB2
                    replace lB2 := keep_blk lB2 kB2.1
                    replace oB2 := kB2.2
                    replace R := R2
                    replace hL := hL.trans hA
                    obtain ⟨z5, k5, rfl, _, _, _⟩ := A.own.read
                    clear keep hA R2 A A1 lB1 oB1
                    refine ⟨SV, ?_⟩
                    refine held_wp (i := 12) rfl (by kernel_rfl) (by kernel_rfl) (wp_addR 96 (by kernel_rfl) (s := q.rate) (v := (.slice zc l2.length kc)) (b := some ⟨g2, 0, none⟩) (.tmp 92) (.tmp 95) rfl (by kernel_rfl) R.o3 (by kernel_rfl) (.of (Row.lit_at lB2)) hlen2 ?_)
                    intro y6 x6 A
                    have A1 := A.fr
                    replace SV := SV.trans A1 fun i _ hi => Or.inr (Or.inr hi)
                    obtain ⟨R2, keep, hA⟩ := R.add3 hL.size A
                    have pK := keep _ pB.lt hO
                    replace pB := keep_blk pB pK.1
                    replace hO := pK.2
                    replace R := R2
                    replace hL := hL.trans hA
                    obtain ⟨z6, k6, rfl, _, _, _⟩ := A.own.read
                    clear keep hA R2 A A1 lB2 oB2
                    refine ⟨SV, ?_⟩
                    refine h2_take (i := 13) (v := (.slice z3 (l0 ++ [nw]).length k3)) 9 rfl (by kernel_rfl) (by kernel_rfl) (by kernel_rfl) (by kernel_rfl) (fun _ _ _ h => nomatch h.1) (by kernel_rfl) SV (fun v hv => by kernel_rfl) ?_
                    refine h2_take (i := 14) (v := (.slice z5 (l1 ++ [n]).length k5)) 10 rfl (by kernel_rfl) (by kernel_rfl) (by kernel_rfl) (by kernel_rfl) (fun _ _ _ h => nomatch h.1) (by kernel_rfl) SV (fun v hv => by kernel_rfl) ?_
                    refine h2_take (i := 15) (v := (.slice z6 (l2 ++ [q.rate]).length k6)) 11 rfl (by kernel_rfl) (by kernel_rfl) (by kernel_rfl) (by kernel_rfl) (fun _ _ _ h => nomatch h.1) (by kernel_rfl) SV (fun v hv => by kernel_rfl) ?_
                    exact held_done (by kernel_rfl) ⟨rfl, .slice (some ⟨g0, 0, none⟩) 1 1, .slice (some ⟨g1, 0, none⟩) 1 1, .slice (some ⟨g2, 0, none⟩) 1 1, (.slice z3 (l0 ++ [nw]).length k3), (.slice z5 (l1 ++ [n]).length k5), (.slice z6 (l2 ++ [q.rate]).length k6), by kernel_rfl, R, pB, hO, hL⟩
                  · refine o2_lit (n := n) (i := 6) 90 (.tmp 89) rfl (by kernel_rfl) (by kernel_rfl) rfl (by kernel_rfl) ?_
                    intro g1 x3 e1 hA lB1
                    have oB1 := out3_lt R (Nat.le_refl _)
                    rw [← e1] at oB1
                    clear e1
                    replace lB0 := lB0.below hA lB0.lt
                    replace lB2 := lB2.below hA lB2.lt
                    replace R := R.below hA
                    replace pB := pB.below hA pB.lt
                    replace hL := Base.next hL hA
                    replace SV := SV.trans (T := fun _ => False) (Fr.of_below hA) fun _ _ h => h.elim
                    clear hA
                    refine ⟨SV, ?_⟩
                    refine held_wp (i := 3) rfl (by kernel_rfl) (by kernel_rfl) (wp_addR 87 (by kernel_rfl) (s := nw) (v := (.slice za l0.length ka)) (b := some ⟨g0, 0, none⟩) (.tmp 84) (.tmp 86) rfl (by kernel_rfl) R.o1 (by kernel_rfl) (.of (Row.lit_at lB0)) hlen0 ?_)
                    intro y4 x4 A
                    have A1 := A.fr
                    replace SV := SV.trans A1 fun i _ hi => Or.inl hi
                    obtain ⟨R2, keep, hA⟩ := R.add1 hL.size A
                    have pK := keep _ pB.lt hO
                    replace pB := keep_blk pB pK.1
                    replace hO := pK.2
                    have kB2 := keep _ lB2.lt oB2
                    replace lB2 := keep_blk lB2 kB2.1
                    replace oB2 := kB2.2
                    have kB1 := keep _ lB1.lt oB1
                    replace lB1 := keep_blk lB1 kB1.1
                    replace oB1 := kB1.2
                    replace R := R2
                    replace hL := hL.trans hA
                    obtain ⟨z4, k4, rfl, _, _, _⟩ := A.own.read
                    clear keep hA R2 A A1 lB0 oB0
                    refine ⟨SV, ?_⟩
                    refine held_wp (i := 7) rfl (by kernel_rfl) (by kernel_rfl) (wp_addR 91 (by kernel_rfl) (s := n) (v := (.slice zb l1.length kb)) (b := some ⟨g1, 0, none⟩) (.tmp 88) (.tmp 90) rfl (by kernel_rfl) R.o2 (by kernel_rfl) (.of (Row.lit_at lB1)) hlen1 ?_)
                    intro y5 x5 A
                    have A1 := A.fr
                    replace SV := SV.trans A1 fun i _ hi => Or.inr (Or.inl hi)
                    obtain ⟨R2, keep, hA⟩ := R.add2 hL.size A
                    have pK := keep _ pB.lt hO
                    replace pB := keep_blk pB pK.1
                    replace hO := pK.2
                    have kB2 := keep _ lB2.lt oB2
                    replace lB2 := keep_blk lB2 kB2.1
                    replace oB2 := kB2.2
                    replace R := R2
                    replace hL := hL.trans hA
                    obtain ⟨z5, k5, rfl, _, _, _⟩ := A.own.read
                    clear keep hA R2 A A1 lB1 oB1
                    refine ⟨SV, ?_⟩
                    refine held_wp (i := 12) rfl (by kernel_rfl) (by kernel_rfl) (wp_addR 96 (by kernel_rfl) (s := q.rate) (v := (.slice zc l2.length kc)) (b := some ⟨g2, 0, none⟩) (.tmp 92) (.tmp 95) rfl (by kernel_rfl) R.o3 (by kernel_rfl) (.of (Row.lit_at lB2)) hlen2 ?_)
                    intro y6 x6 A
                    have A1 := A.fr
                    replace SV := SV.trans A1 fun i _ hi => Or.inr (Or.inr hi)
                    obtain ⟨R2, keep, hA⟩ := R.add3 hL.size A
                    have pK := keep _ pB.lt hO
                    replace pB := keep_blk pB pK.1
                    replace hO := pK.2
                    replace R := R2
                    replace hL := hL.trans hA
                    obtain ⟨z6, k6, rfl, _, _, _⟩ := A.own.read
                    clear keep hA R2 A A1 lB2 oB2
                    refine ⟨SV, ?_⟩
                    refine h2_take (i := 13) (v := (.slice z4 (l0 ++ [nw]).length k4)) 9 rfl (by kernel_rfl) (by kernel_rfl) (by kernel_rfl) (by kernel_rfl) (fun _ _ _ h => nomatch h.1) (by kernel_rfl) SV (fun v hv => by kernel_rfl) ?_
                    refine h2_take (i := 14) (v := (.slice z5 (l1 ++ [n]).length k5)) 10 rfl (by kernel_rfl) (by kernel_rfl) (by kernel_rfl) (by kernel_rfl) (fun _ _ _ h => nomatch h.1) (by kernel_rfl) SV (fun v hv => by kernel_rfl) ?_
                    refine h2_take (i := 15) (v := (.slice z6 (l2 ++ [q.rate]).length k6)) 11 rfl (by kernel_rfl) (by kernel_rfl) (by kernel_rfl) (by kernel_rfl) (fun _ _ _ h => nomatch h.1) (by kernel_rfl) SV (fun v hv => by kernel_rfl) ?_
                    exact held_done (by kernel_rfl) ⟨rfl, .slice (some ⟨g0, 0, none⟩) 1 1, .slice (some ⟨g1, 0, none⟩) 1 1, .slice (some ⟨g2, 0, none⟩) 1 1, (.slice z4 (l0 ++ [nw]).length k4), (.slice z5 (l1 ++ [n]).length k5), (.slice z6 (l2 ++ [q.rate]).length k6), by kernel_rfl, R, pB, hO, hL⟩
              · refine o2_lit (n := n) (i := 6) 90 (.tmp 89) rfl (by kernel_rfl) (by kernel_rfl) rfl (by kernel_rfl) ?_
                intro g1 x1 e1 hA lB1
                have oB1 := out3_lt R (Nat.le_refl _)
                rw [← e1] at oB1
                clear e1
                replace R := R.below hA
                replace pB := pB.below hA pB.lt
                replace hL := Base.next hL hA
                replace SV := SV.trans (T := fun _ => False) (Fr.of_below hA) fun _ _ h => h.elim
                clear hA
                refine ⟨SV, ?_⟩
                refine held_two (i := 2) (j := 11) (by kernel_rfl) ?_ ?_
                · refine o2_lit (n := nw) (i := 2) 86 (.tmp 85) rfl (by kernel_rfl) (by kernel_rfl) rfl (by kernel_rfl) ?_
                  intro g0 x2 e0 hA lB0
                  have oB0 := out3_lt R (Nat.le_refl _)
                  rw [← e0] at oB0
                  clear e0
                  replace lB1 := lB1.below hA lB1.lt
                  replace R := R.below hA
                  replace pB := pB.below hA pB.lt
                  replace hL := Base.next hL hA
                  replace SV := SV.trans (T := fun _ => False) (Fr.of_below hA) fun _ _ h => h.elim
                  clear hA
                  refine ⟨SV, ?_⟩
                  refine held_two (i := 3) (j := 11) (by kernel_rfl) ?_ ?_
                  · refine o2_wp (i := 3) rfl (by kernel_rfl) (wp_addR 87 (by kernel_rfl) (s := nw) (v := (.slice za l0.length ka)) (b := some ⟨g0, 0, none⟩) (.tmp 84) (.tmp 86) rfl (by kernel_rfl) R.o1 (by kernel_rfl) (.of (Row.lit_at lB0)) hlen0 ?_)
                    intro y3 x3 A
                    have A1 := A.fr
                    replace SV := SV.trans A1 fun i _ hi => Or.inl hi
                    obtain ⟨R2, keep, hA⟩ := R.add1 hL.size A
                    have pK := keep _ pB.lt hO
                    replace pB := keep_blk pB pK.1
                    replace hO := pK.2
                    have kB1 := keep _ lB1.lt oB1
                    replace lB1 := keep_blk lB1 kB1.1
                    replace oB1 := kB1.2
                    replace R := R2
                    replace hL := hL.trans hA
                    obtain ⟨z3, k3, rfl, _, _, _⟩ := A.own.read
                    clear keep hA R2 A A1 lB0 oB0
                    refine ⟨SV, ?_⟩
                    refine held_two (i := 7) (j := 11) (by kernel_rfl) ?_ ?_
                    · refine o2_wp (i := 7) rfl (by kernel_rfl) (wp_addR 91 (by kernel_rfl) (s := n) (v := (.slice zb l1.length kb)) (b := some ⟨g1, 0, none⟩) (.tmp 88) (.tmp 90) rfl (by kernel_rfl) R.o2 (by kernel_rfl) (.of (Row.lit_at lB1)) hlen1 ?_)
                      intro y4 x4 A
                      have A1 := A.fr
                      replace SV := SV.trans A1 fun i _ hi => Or.inr (Or.inl hi)
                      obtain ⟨R2, keep, hA⟩ := R.add2 hL.size A
                      have pK := keep _ pB.lt hO
                      replace pB := keep_blk pB pK.1
                      replace hO := pK.2
                      replace R := R2
                      replace hL := hL.trans hA
                      obtain ⟨z4, k4, rfl, _, _, _⟩ := A.own.read
                      clear keep hA R2 A A1 lB1 oB1
                      refine ⟨SV, ?_⟩
                      refine h2_lit (n := q.rate) (i := 11) 95 (.tmp 94) rfl (by kernel_rfl) (by kernel_rfl) (by kernel_rfl) rfl (by kernel_rfl) ?_
                      intro g2 x5 e2 hA lB2
                      have oB2 := out3_lt R (Nat.le_refl _)
                      rw [← e2] at oB2
                      clear e2
                      replace R := R.below hA
                      replace pB := pB.below hA pB.lt
                      replace hL := Base.next hL hA
                      replace SV := SV.trans (T := fun _ => False) (Fr.of_below hA) fun _ _ h => h.elim
                      clear hA
                      refine ⟨SV, ?_⟩
                      refine held_wp (i := 12) rfl (by kernel_rfl) (by kernel_rfl) (wp_addR 96 (by kernel_rfl) (s := q.rate) (v := (.slice zc l2.length kc)) (b := some ⟨g2, 0, none⟩) (.tmp 92) (.tmp 95) rfl (by kernel_rfl) R.o3 (by kernel_rfl) (.of (Row.lit_at lB2)) hlen2 ?_)
                      intro y6 x6 A
                      have A1 := A.fr
                      replace SV := SV.trans A1 fun i _ hi => Or.inr (Or.inr hi)
                      obtain ⟨R2, keep, hA⟩ := R.add3 hL.size A
                      have pK := keep _ pB.lt hO
                      replace pB := keep_blk pB pK.1
                      replace hO := pK.2
                      replace R := R2
                      replace hL := hL.trans hA
                      obtain ⟨z6, k6, rfl, _, _, _⟩ := A.own.read
                      clear keep hA R2 A A1 lB2 oB2
                      refine ⟨SV, ?_⟩
                      refine h2_take (i := 13) (v := (.slice z3 (l0 ++ [nw]).length k3)) 9 rfl (by kernel_rfl) (by kernel_rfl) (by kernel_rfl) (by kernel_rfl) (fun _ _ _ h => nomatch h.1) (by kernel_rfl) SV (fun v hv => by kernel_rfl) ?_
                      refine h2_take (i := 14) (v := (.slice z4 (l1 ++ [n]).length k4)) 10 rfl (by kernel_rfl) (by kernel_rfl) (by kernel_rfl) (by kernel_rfl) (fun _ _ _ h => nomatch h.1) (by kernel_rfl) SV (fun v hv => by kernel_rfl) ?_
                      refine h2_take (i := 15) (v := (.slice z6 (l2 ++ [q.rate]).length k6)) 11 rfl (by kernel_rfl) (by kernel_rfl) (by kernel_rfl) (by kernel_rfl) (fun _ _ _ h => nomatch h.1) (by kernel_rfl) SV (fun v hv => by kernel_rfl) ?_
                      exact held_done (by kernel_rfl) ⟨rfl, .slice (some ⟨g0, 0, none⟩) 1 1, .slice (some ⟨g1, 0, none⟩) 1 1, .slice (some ⟨g2, 0, none⟩) 1 1, (.slice z3 (l0 ++ [nw]).length k3), (.slice z4 (l1 ++ [n]).length k4), (.slice z6 (l2 ++ [q.rate]).length k6), by kernel_rfl, R, pB, hO, hL⟩
                    · refine o2_lit (n := q.rate) (i := 11) 95 (.tmp 94) rfl (by kernel_rfl) (by kernel_rfl) rfl (by kernel_rfl) ?_
                      intro g2 x4 e2 hA lB2
                      have oB2 := out3_lt R (Nat.le_refl _)
                      rw [← e2] at oB2
                      clear e2
                      replace lB1 := lB1.below hA lB1.lt
                      replace R := R.below hA
                      replace pB := pB.below hA pB.lt
                      replace hL := Base.next hL hA
                      replace SV := SV.trans (T := fun _ => False) (Fr.of_below hA) fun _ _ h => h.elim
                      clear hA
                      refine ⟨SV, ?_⟩
                      refine held_wp (i := 7) rfl (by kernel_rfl) (by kernel_rfl) (wp_addR 91 (by kernel_rfl) (s := n) (v := (.slice zb l1.length kb)) (b := some ⟨g1, 0, none⟩) (.tmp 88) (.tmp 90) rfl (by kernel_rfl) R.o2 (by kernel_rfl) (.of (Row.lit_at lB1)) hlen1 ?_)
                      intro y5 x5 A
                      have A1 := A.fr
                      replace SV := SV.trans A1 fun i _ hi => Or.inr (Or.inl hi)
                      obtain ⟨R2, keep, hA⟩ := R.add2 hL.size A
                      have pK := keep _ pB.lt hO
                      replace pB := keep_blk pB pK.1
                      replace hO := pK.2
                      have kB2 := keep _ lB2.lt oB2
                      replace lB2 := keep_blk lB2 kB2.1
                      replace oB2 := kB2.2
                      replace R := R2
                      replace hL := hL.trans hA
                      obtain ⟨z5, k5, rfl, _, _, _⟩ := A.own.read
                      clear keep hA R2 A A1 lB1 oB1
                      refine ⟨SV, ?_⟩
                      refine held_wp (i := 12) rfl (by kernel_rfl) (by kernel_rfl) (wp_addR 96 (by kernel_rfl) (s := q.rate) (v := (.slice zc l2.length kc)) (b := some ⟨g2, 0, none⟩) (.tmp 92) (.tmp 95) rfl (by kernel_rfl) R.o3 (by kernel_rfl) (.of (Row.lit_at lB2)) hlen2 ?_)
                      intro y6 x6 A
                      have A1 := A.fr
                      replace SV := SV.trans A1 fun i _ hi => Or.inr (Or.inr hi)
                      obtain ⟨R2, keep, hA⟩ := R.add3 hL.size A
                      have pK := keep _ pB.lt hO
                      replace pB := keep_blk pB pK.1
                      replace hO := pK.2
                      replace R := R2
                      replace hL := hL.trans hA
                      obtain ⟨z6, k6, rfl, _, _, _⟩ := A.own.read
                      clear keep hA R2 A A1 lB2 oB2
                      refine ⟨SV, ?_⟩
                      refine h2_take (i := 13) (v := (.slice z3 (l0 ++ [nw]).length k3)) 9 rfl (by kernel_rfl) (by kernel_rfl) (by kernel_rfl) (by kernel_rfl) (fun _ _ _ h => nomatch h.1) (by kernel_rfl) SV (fun v hv => by kernel_rfl) ?_
                      refine h2_take (i := 14) (v := (.slice z5 (l1 ++ [n]).length k5)) 10 rfl (by kernel_rfl) (by kernel_rfl) (by kernel_rfl) (by kernel_rfl) (fun _ _ _ h => nomatch h.1) (by kernel_rfl) SV (fun v hv => by kernel_rfl) ?_
                      refine h2_take (i := 15) (v := (.slice z6 (l2 ++ [q.rate]).length k6)) 11 rfl (by kernel_rfl) (by kernel_rfl) (by kernel_rfl) (by kernel_rfl) (fun _ _ _ h => nomatch h.1) (by kernel_rfl) SV (fun v hv => by kernel_rfl) ?_
                      exact held_done (by kernel_rfl) ⟨rfl, .slice (some ⟨g0, 0, none⟩) 1 1, .slice (some ⟨g1, 0, none⟩) 1 1, .slice (some ⟨g2, 0, none⟩) 1 1, (.slice z3 (l0 ++ [nw]).length k3), (.slice z5 (l1 ++ [n]).length k5), (.slice z6 (l2 ++ [q.rate]).length k6), by kernel_rfl, R, pB, hO, hL⟩
                  · refine o2_lit (n := q.rate) (i := 11) 95 (.tmp 94) rfl (by kernel_rfl) (by kernel_rfl) rfl (by kernel_rfl) ?_
                    intro g2 x3 e2 hA lB2
                    have oB2 := out3_lt R (Nat.le_refl _)
                    rw [← e2] at oB2
                    clear e2
                    replace lB1 := lB1.below hA lB1.lt
                    replace lB0 := lB0.below hA lB0.lt
                    replace R := R.below hA
                    replace pB := pB.below hA pB.lt
                    replace hL := Base.next hL hA
                    replace SV := SV.trans (T := fun _ => False) (Fr.of_below hA) fun _ _ h => h.elim
                    clear hA
                    refine ⟨SV, ?_⟩
                    refine held_wp (i := 3) rfl (by kernel_rfl) (by kernel_rfl) (wp_addR 87 (by kernel_rfl) (s := nw) (v := (.slice za l0.length ka)) (b := some ⟨g0, 0, none⟩) (.tmp 84) (.tmp 86) rfl (by kernel_rfl) R.o1 (by kernel_rfl) (.of (Row.lit_at lB0)) hlen0 ?_)
                    intro y4 x4 A
                    have A1 := A.fr
                    replace SV := SV.trans A1 fun i _ hi => Or.inl hi
                    obtain ⟨R2, keep, hA⟩ := R.add1 hL.size A
                    have pK := keep _ pB.lt hO
                    replace pB := keep_blk pB pK.1
                    replace hO := pK.2
                    have kB1 := keep _ lB1.lt oB1
                    replace lB1 := keep_blk lB1 kB1.1
                    replace oB1 := kB1.2
                    have kB2 := keep _ lB2.lt oB2
                    replace lB2 := keep_blk lB2 kB2.1
                    replace oB2 := kB2.2
                    replace R := R2
                    replace hL := hL.trans hA
                    obtain ⟨z4, k4, rfl, _, _, _⟩ := A.own.read
                    clear keep hA R2 A A1 lB0 oB0
                    refine ⟨SV, ?_⟩
                    refine held_wp (i := 7) rfl (by kernel_rfl) (by kernel_rfl) (wp_addR 91 (by kernel_rfl) (s := n) (v := (.slice zb l1.length kb)) (b := some ⟨g1, 0, none⟩) (.tmp 88) (.tmp 90) rfl (by kernel_rfl) R.o2 (by kernel_rfl) (.of (Row.lit_at lB1)) hlen1 ?_)
                    intro y5 x5 A
                    have A1 := A.fr
                    replace SV := SV.trans A1 fun i _ hi => Or.inr (Or.inl hi)
                    obtain ⟨R2, keep, hA⟩ := R.add2 hL.size A
                    have pK := keep _ pB.lt hO
                    replace pB := keep_blk pB pK.1
                    replace hO := pK.2
                    have kB2 := keep _ lB2.lt oB2
                    replace lB2 := keep_blk lB2 kB2.1
                    replace oB2 := kB2.2
                    replace R := R2
                    replace hL := hL.trans hA
                    obtain ⟨z5, k5, rfl, _, _, _⟩ := A.own.read
                    clear keep hA R2 A A1 lB1 oB1
                    refine ⟨SV, ?_⟩
                    refine held_wp (i := 12) rfl (by kernel_rfl) (by kernel_rfl) (wp_addR 96 (by kernel_rfl) (s := q.rate) (v := (.slice zc l2.length kc)) (b := some ⟨g2, 0, none⟩) (.tmp 92) (.tmp 95) rfl (by kernel_rfl) R.o3 (by kernel_rfl) (.of (Row.lit_at lB2)) hlen2 ?_)
                    intro y6 x6 A
                    have A1 := A.fr
                    replace SV := SV.trans A1 fun i _ hi => Or.inr (Or.inr hi)
                    obtain ⟨R2, keep, hA⟩ := R.add3 hL.size A
                    have pK := keep _ pB.lt hO
                    replace pB := keep_blk pB pK.1
                    replace hO := pK.2
                    replace R := R2
                    replace hL := hL.trans hA
                    obtain ⟨z6, k6, rfl, _, _, _⟩ := A.own.read
                    clear keep hA R2 A A1 lB2 oB2
                    refine ⟨SV, ?_⟩
                    refine h2_take (i := 13) (v := (.slice z4 (l0 ++ [nw]).length k4)) 9 rfl (by kernel_rfl) (by kernel_rfl) (by kernel_rfl) (by kernel_rfl) (fun _ _ _ h => nomatch h.1) (by kernel_rfl) SV (fun v hv => by kernel_rfl) ?_
                    refine h2_take (i := 14) (v := (.slice z5 (l1 ++ [n]).length k5)) 10 rfl (by kernel_rfl) (by kernel_rfl) (by kernel_rfl) (by kernel_rfl) (fun _ _ _ h => nomatch h.1) (by kernel_rfl) SV (fun v hv => by kernel_rfl) ?_
                    refine h2_take (i := 15) (v := (.slice z6 (l2 ++ [q.rate]).length k6)) 11 rfl (by kernel_rfl) (by kernel_rfl) (by kernel_rfl) (by kernel_rfl) (fun _ _ _ h => nomatch h.1) (by kernel_rfl) SV (fun v hv => by kernel_rfl) ?_
                    exact held_done (by kernel_rfl) ⟨rfl, .slice (some ⟨g0, 0, none⟩) 1 1, .slice (some ⟨g1, 0, none⟩) 1 1, .slice (some ⟨g2, 0, none⟩) 1 1, (.slice z4 (l0 ++ [nw]).length k4), (.slice z5 (l1 ++ [n]).length k5), (.slice z6 (l2 ++ [q.rate]).length k6), by kernel_rfl, R, pB, hO, hL⟩
                · refine o2_lit (n := q.rate) (i := 11) 95 (.tmp 94) rfl (by kernel_rfl) (by kernel_rfl) rfl (by kernel_rfl) ?_
                  intro g2 x2 e2 hA lB2
                  have oB2 := out3_lt R (Nat.le_refl _)
                  rw [← e2] at oB2
                  clear e2
                  replace lB1 := lB1.below hA lB1.lt
                  replace R := R.below hA
                  replace pB := pB.below hA pB.lt
                  replace hL := Base.next hL hA
                  replace SV := SV.trans (T := fun _ => False) (Fr.of_below hA) fun _ _ h => h.elim
                  clear hA
                  refine ⟨SV, ?_⟩
                  refine h2_lit (n := nw) (i := 2) 86 (.tmp 85) rfl (by kernel_rfl) (by kernel_rfl) (by kernel_rfl) rfl (by kernel_rfl) ?_
                  intro g0 x3 e0 hA lB0
                  have oB0 := out3_lt R (Nat.le_refl _)
                  rw [← e0] at oB0
                  clear e0
                  replace lB1 := lB1.below hA lB1.lt
                  replace lB2 := lB2.below hA lB2.lt
                  replace R := R.below hA
                  replace pB := pB.below hA pB.lt
                  replace hL := Base.next hL hA
                  replace SV := SV.trans (T := fun _ => False) (Fr.of_below hA) fun _ _ h => h.elim
                  clear hA
                  refine ⟨SV, ?_⟩
                  refine held_wp (i := 3) rfl (by kernel_rfl) (by kernel_rfl) (wp_addR 87 (by kernel_rfl) (s := nw) (v := (.slice za l0.length ka)) (b := some ⟨g0, 0, none⟩) (.tmp 84) (.tmp 86) rfl (by kernel_rfl) R.o1 (by kernel_rfl) (.of (Row.lit_at lB0)) hlen0 ?_)
                  intro y4 x4 A
                  have A1 := A.fr
                  replace SV := SV.trans A1 fun i _ hi => Or.inl hi
                  obtain ⟨R2, keep, hA⟩ := R.add1 hL.size A
                  have pK := keep _ pB.lt hO
                  replace pB := keep_blk pB pK.1
                  replace hO := pK.2
                  have kB1 := keep _ lB1.lt oB1
                  replace lB1 := keep_blk lB1 kB1.1
                  replace oB1 := kB1.2
                  have kB2 := keep _ lB2.lt oB2
                  replace lB2 := keep_blk lB2 kB2.1
                  replace oB2 := kB2.2
                  replace R := R2
                  replace hL := hL.trans hA
                  obtain ⟨z4, k4, rfl, _, _, _⟩ := A.own.read
                  clear keep hA R2 A A1 lB0 oB0
                  refine ⟨SV, ?_⟩
                  refine held_wp (i := 7) rfl (by kernel_rfl) (by kernel_rfl) (wp_addR 91 (by kernel_rfl) (s := n) (v := (.slice zb l1.length kb)) (b := some ⟨g1, 0, none⟩) (.tmp 88) (.tmp 90) rfl (by kernel_rfl) R.o2 (by kernel_rfl) (.of (Row.lit_at lB1)) hlen1 ?_)
                  intro y5 x5 A
                  have A1 := A.fr
                  replace SV := SV.trans A1 fun i _ hi => Or.inr (Or.inl hi)
                  obtain ⟨R2, keep, hA⟩ := R.add2 hL.size A
                  have pK := keep _ pB.lt hO
                  replace pB := keep_blk pB pK.1
                  replace hO := pK.2
                  have kB2 := keep _ lB2.lt oB2
                  replace lB2 := keep_blk lB2 kB2.1
                  replace oB2 := kB2.2
                  replace R := R2
                  replace hL := hL.trans hA
                  obtain ⟨z5, k5, rfl, _, _, _⟩ := A.own.read
                  clear keep hA R2 A A1 lB1 oB1
                  refine ⟨SV, ?_⟩
                  refine held_wp (i := 12) rfl (by kernel_rfl) (by kernel_rfl) (wp_addR 96 (by kernel_rfl) (s := q.rate) (v := (.slice zc l2.length kc)) (b := some ⟨g2, 0, none⟩) (.tmp 92) (.tmp 95) rfl (by kernel_rfl) R.o3 (by kernel_rfl) (.of (Row.lit_at lB2)) hlen2 ?_)
                  intro y6 x6 A
                  have A1 := A.fr
                  replace SV := SV.trans A1 fun i _ hi => Or.inr (Or.inr hi)
                  obtain ⟨R2, keep, hA⟩ := R.add3 hL.size A
                  have pK := keep _ pB.lt hO
                  replace pB := keep_blk pB pK.1
                  replace hO := pK.2
                  replace R := R2
                  replace hL := hL.trans hA
                  obtain ⟨z6, k6, rfl, _, _, _⟩ := A.own.read
                  clear keep hA R2 A A1 lB2 oB2
                  refine ⟨SV, ?_⟩
                  refine h2_take (i := 13) (v := (.slice z4 (l0 ++ [nw]).length k4)) 9 rfl (by kernel_rfl) (by kernel_rfl) (by kernel_rfl) (by kernel_rfl) (fun _ _ _ h => nomatch h.1) (by kernel_rfl) SV (fun v hv => by kernel_rfl) ?_
                  refine h2_take (i := 14) (v := (.slice z5 (l1 ++ [n]).length k5)) 10 rfl (by kernel_rfl) (by kernel_rfl) (by kernel_rfl) (by kernel_rfl) (fun _ _ _ h => nomatch h.1) (by kernel_rfl) SV (fun v hv => by kernel_rfl) ?_
                  refine h2_take (i := 15) (v := (.slice z6 (l2 ++ [q.rate]).length k6)) 11 rfl (by kernel_rfl) (by kernel_rfl) (by kernel_rfl) (by kernel_rfl) (fun _ _ _ h => nomatch h.1) (by kernel_rfl) SV (fun v hv => by kernel_rfl) ?_
                  exact held_done (by kernel_rfl) ⟨rfl, .slice (some ⟨g0, 0, none⟩) 1 1, .slice (some ⟨g1, 0, none⟩) 1 1, .slice (some ⟨g2, 0, none⟩) 1 1, (.slice z4 (l0 ++ [nw]).length k4), (.slice z5 (l1 ++ [n]).length k5), (.slice z6 (l2 ++ [q.rate]).length k6), by kernel_rfl, R, pB, hO, hL⟩
              · refine o2_lit (n := q.rate) (i := 11) 95 (.tmp 94) rfl (by kernel_rfl) (by kernel_rfl) rfl (by kernel_rfl) ?_
                intro g2 x1 e2 hA lB2
                have oB2 := out3_lt R (Nat.le_refl _)
                rw [← e2] at oB2
                clear e2
                replace R := R.below hA
                replace pB := pB.below hA pB.lt
                replace hL := Base.next hL hA
                replace SV := SV.trans (T := fun _ => False) (Fr.of_below hA) fun _ _ h => h.elim
                clear hA
                refine ⟨SV, ?_⟩
                refine held_two (i := 2) (j := 6) (by kernel_rfl) ?_ ?_
                · refine o2_lit (n := nw) (i := 2) 86 (.tmp 85) rfl (by kernel_rfl) (by kernel_rfl) rfl (by kernel_rfl) ?_
                  intro g0 x2 e0 hA lB0
                  have oB0 := out3_lt R (Nat.le_refl _)
                  rw [← e0] at oB0
                  clear e0
                  replace lB2 := lB2.below hA lB2.lt
                  replace R := R.below hA
                  replace pB := pB.below hA pB.lt
                  replace hL := Base.next hL hA
                  replace SV := SV.trans (T := fun _ => False) (Fr.of_below hA) fun _ _ h => h.elim
                  clear hA
                  refine ⟨SV, ?_⟩
                  refine held_two (i := 3) (j := 6) (by kernel_rfl) ?_ ?_
                  · refine o2_wp (i := 3) rfl (by kernel_rfl) (wp_addR 87 (by kernel_rfl) (s := nw) (v := (.slice za l0.length ka)) (b := some ⟨g0, 0, none⟩) (.tmp 84) (.tmp 86) rfl (by kernel_rfl) R.o1 (by kernel_rfl) (.of (Row.lit_at lB0)) hlen0 ?_)
                    intro y3 x3 A
                    have A1 := A.fr
                    replace SV := SV.trans A1 fun i _ hi => Or.inl hi
                    obtain ⟨R2, keep, hA⟩ := R.add1 hL.size A
                    have pK := keep _ pB.lt hO
                    replace pB := keep_blk pB pK.1
                    replace hO := pK.2
                    have kB2 := keep _ lB2.lt oB2
                    replace lB2 := keep_blk lB2 kB2.1
                    replace oB2 := kB2.2
                    replace R := R2
                    replace hL := hL.trans hA
                    obtain ⟨z3, k3, rfl, _, _, _⟩ := A.own.read
                    clear keep hA R2 A A1 lB0 oB0
                    refine ⟨SV, ?_⟩
                    refine h2_lit (n := n) (i := 6) 90 (.tmp 89) rfl (by kernel_rfl) (by kernel_rfl) (by kernel_rfl) rfl (by kernel_rfl) ?_
                    intro g1 x4 e1 hA lB1
                    have oB1 := out3_lt R (Nat.le_refl _)
                    rw [← e1] at oB1
                    clear e1
                    replace lB2 := lB2.below hA lB2.lt
                    replace R := R.below hA
                    replace pB := pB.below hA pB.lt
                    replace hL := Base.next hL hA
                    replace SV := SV.trans (T := fun _ => False) (Fr.of_below hA) fun _ _ h => h.elim
                    clear hA
                    refine ⟨SV, ?_⟩
                    refine held_wp (i := 7) rfl (by kernel_rfl) (by kernel_rfl) (wp_addR 91 (by kernel_rfl) (s := n) (v := (.slice zb l1.length kb)) (b := some ⟨g1, 0, none⟩) (.tmp 88) (.tmp 90) rfl (by kernel_rfl) R.o2 (by kernel_rfl) (.of (Row.lit_at lB1)) hlen1 ?_)
                    intro y5 x5 A
                    have A1 := A.fr
                    replace SV := SV.trans A1 fun i _ hi => Or.inr (Or.inl hi)
                    obtain ⟨R2, keep, hA⟩ := R.add2 hL.size A
                    have pK := keep _ pB.lt hO
                    replace pB := keep_blk pB pK.1
                    replace hO := pK.2
                    have kB2 := keep _ lB2.lt oB2
                    replace lB2 := keep_blk lB2 kB2.1
                    replace oB2 := kB2.2
                    replace R := R2
                    replace hL := hL.trans hA
                    obtain ⟨z5, k5, rfl, _, _, _⟩ := A.own.read
                    clear keep hA R2 A A1 lB1 oB1
                    refine ⟨SV, ?_⟩
                    refine held_wp (i := 12) rfl (by kernel_rfl) (by kernel_rfl) (wp_addR 96 (by kernel_rfl) (s := q.rate) (v := (.slice zc l2.length kc)) (b := some ⟨g2, 0, none⟩) (.tmp 92) (.tmp 95) rfl (by kernel_rfl) R.o3 (by kernel_rfl) (.of (Row.lit_at lB2)) hlen2 ?_)
                    intro y6 x6 A
                    have A1 := A.fr
                    replace SV := SV.trans A1 fun i _ hi => Or.inr (Or.inr hi)
                    obtain ⟨R2, keep, hA⟩ := R.add3 hL.size A
                    have pK := keep _ pB.lt hO
                    replace pB := keep_blk pB pK.1
                    replace hO := pK.2
                    replace R := R2
                    replace hL := hL.trans hA
                    obtain ⟨z6, k6, rfl, _, _, _⟩ := A.own.read
                    clear keep hA R2 A A1 lB2 oB2
                    refine ⟨SV, ?_⟩
                    refine h2_take (i := 13) (v := (.slice z3 (l0 ++ [nw]).length k3)) 9 rfl (by kernel_rfl) (by kernel_rfl) (by kernel_rfl) (by kernel_rfl) (fun _ _ _ h => nomatch h.1) (by kernel_rfl) SV (fun v hv => by kernel_rfl) ?_
                    refine h2_take (i := 14) (v := (.slice z5 (l1 ++ [n]).length k5)) 10 rfl (by kernel_rfl) (by kernel_rfl) (by kernel_rfl) (by kernel_rfl) (fun _ _ _ h => nomatch h.1) (by kernel_rfl) SV (fun v hv => by kernel_rfl) ?_
                    refine h2_take (i := 15) (v := (.slice z6 (l2 ++ [q.rate]).length k6)) 11 rfl (by kernel_rfl) (by kernel_rfl) (by kernel_rfl) (by kernel_rfl) (fun _ _ _ h => nomatch h.1) (by kernel_rfl) SV (fun v hv => by kernel_rfl) ?_
                    exact held_done (by kernel_rfl) ⟨rfl, .slice (some ⟨g0, 0, none⟩) 1 1, .slice (some ⟨g1, 0, none⟩) 1 1, .slice (some ⟨g2, 0, none⟩) 1 1, (.slice z3 (l0 ++ [nw]).length k3), (.slice z5 (l1 ++ [n]).length k5), (.slice z6 (l2 ++ [q.rate]).length k6), by kernel_rfl, R, pB, hO, hL⟩
                  · refine o2_lit (n := n) (i := 6) 90 (.tmp 89) rfl (by kernel_rfl) (by kernel_rfl) rfl (by kernel_rfl) ?_
                    intro g1 x3 e1 hA lB1
                    have oB1 := out3_lt R (Nat.le_refl _)
                    rw [← e1] at oB1
                    clear e1
                    replace lB2 := lB2.below hA lB2.lt
                    replace lB0 := lB0.below hA lB0.lt
                    replace R := R.below hA
                    replace pB := pB.below hA pB.lt
                    replace hL := Base.next hL hA
                    replace SV := SV.trans (T := fun _ => False) (Fr.of_below hA) fun _ _ h => h.elim
                    clear hA
                    refine ⟨SV, ?_⟩
                    refine held_wp (i := 3) rfl (by kernel_rfl) (by kernel_rfl) (wp_addR 87 (by kernel_rfl) (s := nw) (v := (.slice za l0.length ka)) (b := some ⟨g0, 0, none⟩) (.tmp 84) (.tmp 86) rfl (by kernel_rfl) R.o1 (by kernel_rfl) (.of (Row.lit_at lB0)) hlen0 ?_)
                    intro y4 x4 A
                    have A1 := A.fr
                    replace SV := SV.trans A1 fun i _ hi => Or.inl hi
                    obtain ⟨R2, keep, hA⟩ := R.add1 hL.size A
                    have pK := keep _ pB.lt hO
                    replace pB := keep_blk pB pK.1
                    replace hO := pK.2
                    have kB2 := keep _ lB2.lt oB2
                    replace lB2 := keep_blk lB2 kB2.1
                    replace oB2 := kB2.2
                    have kB1 := keep _ lB1.lt oB1
                    replace lB1 := keep_blk lB1 kB1.1
                    replace oB1 := kB1.2
                    replace R := R2
                    replace hL := hL.trans hA
                    obtain ⟨z4, k4, rfl, _, _, _⟩ := A.own.read
                    clear keep hA R2 A A1 lB0 oB0
                    refine ⟨SV, ?_⟩
                    refine held_wp (i := 7) rfl (by kernel_rfl) (by kernel_rfl) (wp_addR 91 (by kernel_rfl) (s := n) (v := (.slice zb l1.length kb)) (b := some ⟨g1, 0, none⟩) (.tmp 88) (.tmp 90) rfl (by kernel_rfl) R.o2 (by kernel_rfl) (.of (Row.lit_at lB1)) hlen1 ?_)
                    intro y5 x5 A
                    have A1 := A.fr
                    replace SV := SV.trans A1 fun i _ hi => Or.inr (Or.inl hi)
                    obtain ⟨R2, keep, hA⟩ := R.add2 hL.size A
                    have pK := keep _ pB.lt hO
                    replace pB := keep_blk pB pK.1
                    replace hO := pK.2
                    have kB2 := keep _ lB2.lt oB2
                    replace lB2 := keep_blk lB2 kB2.1
                    replace oB2 := kB2.2
                    replace R := R2
                    replace hL := hL.trans hA
                    obtain ⟨z5, k5, rfl, _, _, _⟩ := A.own.read
                    clear keep hA R2 A A1 lB1 oB1
                    refine ⟨SV, ?_⟩
                    refine held_wp (i := 12) rfl (by kernel_rfl) (by kernel_rfl) (wp_addR 96 (by kernel_rfl) (s := q.rate) (v := (.slice zc l2.length kc)) (b := some ⟨g2, 0, none⟩) (.tmp 92) (.tmp 95) rfl (by kernel_rfl) R.o3 (by kernel_rfl) (.of (Row.lit_at lB2)) hlen2 ?_)
                    intro y6 x6 A
                    have A1 := A.fr
                    replace SV := SV.trans A1 fun i _ hi => Or.inr (Or.inr hi)
                    obtain ⟨R2, keep, hA⟩ := R.add3 hL.size A
                    have pK := keep _ pB.lt hO
                    replace pB := keep_blk pB pK.1
                    replace hO := pK.2
                    replace R := R2
                    replace hL := hL.trans hA
                    obtain ⟨z6, k6, rfl, _, _, _⟩ := A.own.read
                    clear keep hA R2 A A1 lB2 oB2
                    refine ⟨SV, ?_⟩
                    refine h2_take (i := 13) (v := (.slice z4 (l0 ++ [nw]).length k4)) 9 rfl (by kernel_rfl) (by kernel_rfl) (by kernel_rfl) (by kernel_rfl) (fun _ _ _ h => nomatch h.1) (by kernel_rfl) SV (fun v hv => by kernel_rfl) ?_
                    refine h2_take (i := 14) (v := (.slice z5 (l1 ++ [n]).length k5)) 10 rfl (by kernel_rfl) (by kernel_rfl) (by kernel_rfl) (by kernel_rfl) (fun _ _ _ h => nomatch h.1) (by kernel_rfl) SV (fun v hv => by kernel_rfl) ?_
                    refine h2_take (i := 15) (v := (.slice z6 (l2 ++ [q.rate]).length k6)) 11 rfl (by kernel_rfl) (by kernel_rfl) (by kernel_rfl) (by kernel_rfl) (fun _ _ _ h => nomatch h.1) (by kernel_rfl) SV (fun v hv => by kernel_rfl) ?_
                    exact held_done (by kernel_rfl) ⟨rfl, .slice (some ⟨g0, 0, none⟩) 1 1, .slice (some ⟨g1, 0, none⟩) 1 1, .slice (some ⟨g2, 0, none⟩) 1 1, (.slice z4 (l0 ++ [nw]).length k4), (.slice z5 (l1 ++ [n]).length k5), (.slice z6 (l2 ++ [q.rate]).length k6), by kernel_rfl, R, pB, hO, hL⟩
                · refine o2_lit (n := n) (i := 6) 90 (.tmp 89) rfl (by kernel_rfl) (by kernel_rfl) rfl (by kernel_rfl) ?_
                  intro g1 x2 e1 hA lB1
                  have oB1 := out3_lt R (Nat.le_refl _)
                  rw [← e1] at oB1
                  clear e1
                  replace lB2 := lB2.below hA lB2.lt
                  replace R := R.below hA
                  replace pB := pB.below hA pB.lt
                  replace hL := Base.next hL hA
                  replace SV := SV.trans (T := fun _ => False) (Fr.of_below hA) fun _ _ h => h.elim
                  clear hA
                  refine ⟨SV, ?_⟩
                  refine h2_lit (n := nw) (i := 2) 86 (.tmp 85) rfl (by kernel_rfl) (by kernel_rfl) (by kernel_rfl) rfl (by kernel_rfl) ?_
                  intro g0 x3 e0 hA lB0
                  have oB0 := out3_lt R (Nat.le_refl _)
                  rw [← e0] at oB0
                  clear e0
                  replace lB2 := lB2.below hA lB2.lt
                  replace lB1 := lB1.below hA lB1.lt
                  replace R := R.below hA
                  replace pB := pB.below hA pB.lt
                  replace hL := Base.next hL hA
                  replace SV := SV.trans (T := fun _ => False) (Fr.of_below hA) fun _ _ h => h.elim
                  clear hA
                  refine ⟨SV, ?_⟩
                  refine held_wp (i := 3) rfl (by kernel_rfl) (by kernel_rfl) (wp_addR 87 (by kernel_rfl) (s := nw) (v := (.slice za l0.length ka)) (b := some ⟨g0, 0, none⟩) (.tmp 84) (.tmp 86) rfl (by kernel_rfl) R.o1 (by kernel_rfl) (.of (Row.lit_at lB0)) hlen0 ?_)
                  intro y4 x4 A
                  have A1 := A.fr
                  replace SV := SV.trans A1 fun i _ hi => Or.inl hi
                  obtain ⟨R2, keep, hA⟩ := R.add1 hL.size A
                  have pK := keep _ pB.lt hO
                  replace pB := keep_blk pB pK.1
                  replace hO := pK.2
                  have kB2 := keep _ lB2.lt oB2
                  replace lB2 := keep_blk lB2 kB2.1
                  replace oB2 := kB2.2
                  have kB1 := keep _ lB1.lt oB1
                  replace lB1 := keep_blk lB1 kB1.1
                  replace oB1 := kB1.2
                  replace R := R2
                  replace hL := hL.trans hA
                  obtain ⟨z4, k4, rfl, _, _, _⟩ := A.own.read
                  clear keep hA R2 A A1 lB0 oB0
                  refine ⟨SV, ?_⟩
                  refine held_wp (i := 7) rfl (by kernel_rfl) (by kernel_rfl) (wp_addR 91 (by kernel_rfl) (s := n) (v := (.slice zb l1.length kb)) (b := some ⟨g1, 0, none⟩) (.tmp 88) (.tmp 90) rfl (by kernel_rfl) R.o2 (by kernel_rfl) (.of (Row.lit_at lB1)) hlen1 ?_)
                  intro y5 x5 A
                  have A1 := A.fr
                  replace SV := SV.trans A1 fun i _ hi => Or.inr (Or.inl hi)
                  obtain ⟨R2, keep, hA⟩ := R.add2 hL.size A
                  have pK := keep _ pB.lt hO
                  replace pB := keep_blk pB pK.1
                  replace hO := pK.2
                  have kB2 := keep _ lB2.lt oB2
                  replace lB2 := keep_blk lB2 kB2.1
                  replace oB2 := kB2.2
                  replace R := R2
                  replace hL := hL.trans hA
                  obtain ⟨z5, k5, rfl, _, _, _⟩ := A.own.read
                  clear keep hA R2 A A1 lB1 oB1
                  refine ⟨SV, ?_⟩
                  refine held_wp (i := 12) rfl (by kernel_rfl) (by kernel_rfl) (wp_addR 96 (by kernel_rfl) (s := q.rate) (v := (.slice zc l2.length kc)) (b := some ⟨g2, 0, none⟩) (.tmp 92) (.tmp 95) rfl (by kernel_rfl) R.o3 (by kernel_rfl) (.of (Row.lit_at lB2)) hlen2 ?_)
                  intro y6 x6 A
                  have A1 := A.fr
                  replace SV := SV.trans A1 fun i _ hi => Or.inr (Or.inr hi)
                  obtain ⟨R2, keep, hA⟩ := R.add3 hL.size A
                  have pK := keep _ pB.lt hO
                  replace pB := keep_blk pB pK.1
                  replace hO := pK.2
                  replace R := R2
                  replace hL := hL.trans hA
                  obtain ⟨z6, k6, rfl, _, _, _⟩ := A.own.read
                  clear keep hA R2 A A1 lB2 oB2
                  refine ⟨SV, ?_⟩
                  refine h2_take (i := 13) (v := (.slice z4 (l0 ++ [nw]).length k4)) 9 rfl (by kernel_rfl) (by kernel_rfl) (by kernel_rfl) (by kernel_rfl) (fun _ _ _ h => nomatch h.1) (by kernel_rfl) SV (fun v hv => by kernel_rfl) ?_
                  refine h2_take (i := 14) (v := (.slice z5 (l1 ++ [n]).length k5)) 10 rfl (by kernel_rfl) (by kernel_rfl) (by kernel_rfl) (by kernel_rfl) (fun _ _ _ h => nomatch h.1) (by kernel_rfl) SV (fun v hv => by kernel_rfl) ?_
                  refine h2_take (i := 15) (v := (.slice z6 (l2 ++ [q.rate]).length k6)) 11 rfl (by kernel_rfl) (by kernel_rfl) (by kernel_rfl) (by kernel_rfl) (fun _ _ _ h => nomatch h.1) (by kernel_rfl) SV (fun v hv => by kernel_rfl) ?_
                  exact held_done (by kernel_rfl) ⟨rfl, .slice (some ⟨g0, 0, none⟩) 1 1, .slice (some ⟨g1, 0, none⟩) 1 1, .slice (some ⟨g2, 0, none⟩) 1 1, (.slice z4 (l0 ++ [nw]).length k4), (.slice z5 (l1 ++ [n]).length k5), (.slice z6 (l2 ++ [q.rate]).length k6), by kernel_rfl, R, pB, hO, hL⟩
        · simp only [↓reduceIte] at e1 e2
          have CT := fun V => take_any (setP p a0 (p.at_ + d) x) hfs a0 (p.at_ + d) s hb hnw hsU V
          rw [e1] at CT
          generalize takeB (setP p a0 (p.at_ + d) x) a0 (p.at_ + d) s = tb at *
          generalize setP p a0 (p.at_ + d) x = p' at *
          unfold PcPost pc at CSet
          go_upto_region 12 with fail
          have e0 := fun v : In (Lt wr) => inCell v (o := 0) (v := .int .u64 p.tok) (pB.cell 0)
          have e1' := fun v : In (Lt wr) => inCell v (o := 1) (v := .int .u64 p.at_) (pB.cell 1)
          have e2' := fun v : In (Lt wr) => inCell v (o := 2) (v := .int .u64 p.rate) (pB.cell 2)
          have hl15 := (hL.cell (p := ⟨b', off' + k * 4 + 1 + 1 + 1, none⟩) hb').trans hx3
          have ex := fun v : In (Lt wr) => inCell v hl15
          refine wp_region_rest (C := fun w' => ∃ v : In (Lt wr), w' = v.w) 10 1 (by kernel_rfl) (by kernel_rfl) (by kernel_rfl) (by kernel_rfl) (by kernel_rfl) ⟨⟨wr.drew, Lt.drew wr⟩, rfl⟩ ?_
          simp only [List.toList_toArray, List.take_succ_cons, List.take_zero]
          repeat (go_big_quiet_step ((go_at_call 14; refine in_below (v := .agg #[.int .u64 p'.tok, .int .u64 p'.at_, .int .u64 p'.rate]) ?_; exact CSet _)))
          refine wpQuiet_nil ?_
          rintro w5 ⟨⟨_, hw5⟩, rfl⟩
          have hw5 : Below wr.heap.size wr w5 := hw5
          clear e0 e1' e2' ex CSet hl15
          have pB5 := pB.below hw5 pB.lt
          refine wpAny_of_held (S := fun _ => True) _ _ _ _ ?_
          refine h2_st (i := 10) rfl (by kernel_rfl) (by kernel_rfl) (by kernel_rfl) (st_row 24 (.tmp 8) (.tmp 62) rfl (g := pb) (cells := #[.int .u64 p'.tok, .int .u64 p'.at_, .int .u64 p'.rate]) (by kernel_rfl) (by kernel_rfl) pB5 (by kernel_rfl) rfl (by simp [Value.oneCell'])) trivial ?_
          refine held_done (by kernel_rfl) ?_
          have pB6 := pB5.setRow #[.int .u64 p'.tok, .int .u64 p'.at_, .int .u64 p'.rate]
          have F6 : Fr (fun k => k = pb) w5 (w5.setRow pb #[.int .u64 p'.tok, .int .u64 p'.at_, .int .u64 p'.rate]) := (Fr.refl (fun k => k = pb) w5).setRow (fun _ => rfl) _
          have R6 := (R.below hw5).kept F6 hO
          have hL6 : Below w.heap.size w (w5.setRow pb #[.int .u64 p'.tok, .int .u64 p'.at_, .int .u64 p'.rate]) := below_setRow' (Base.next hL hw5) hpb
          generalize w5.setRow pb #[.int .u64 p'.tok, .int .u64 p'.at_, .int .u64 p'.rate] = V5 at *
          clear R pB hL F6 pB5 hw5 hl12 hl14 hbr hx2 hx3 e1
          go_wp2
          generalize p.at_ + d = nw at *
          refine at_any ?_
          intro V hV
          have R : Rows3 w V v1 v2 v3 (T.map Tk.at_) (T.map Tk.went) (T.map Tk.rate) := by subst hV; exact R6
          have pB : Blk V pb #[.int .u64 p'.tok, .int .u64 p'.at_, .int .u64 p'.rate] 24 := by subst hV; exact pB6
          have hL : Below w.heap.size w V := by subst hV; exact hL6
          clear hV R6 pB6 hL6
          have hl13 := (hL.cell (p := ⟨b', off' + k * 4 + 1, none⟩) hb').trans hx1
          have hbV : b' < V.heap.size := Nat.lt_of_lt_of_le hb' hL.size
          unfold pc at CT
          go_cut [14, 15] (fun s14 s15 wx => ∃ qb, s14 = .pointer (some ⟨qb, 0, none⟩) ∧ s15 = .bool tb ∧ Blk wx qb #[.int .u64 q.tok, .int .u64 q.at_, .int .u64 q.rate] 24 ∧ V.heap.size ≤ qb ∧ Below V.heap.size V wx)
          case first =>
            have hVD : Below V.heap.size V V.drew := Base.drew1 (Below.refl _ _)
            have hpV : ∀ v, Below V.heap.size V v → v.rangeAt pb 0 [.int .u64 p'.tok, .int .u64 p'.at_, .int .u64 p'.rate] := fun v hv => Blk.range (pB.below hv pB.lt) 0 _ (fun j u hj => by rw [Nat.zero_add]; rcases j with _ | _ | _ | j <;> first | exact hj | simp at hj)
            have hsV : ∀ v, Below V.heap.size V v → v.cell? ⟨b', off' + k * 4 + 1, none⟩ = some (.int .u16 s) := fun v hv => (hv.cell (p := ⟨b', off' + k * 4 + 1, none⟩) hbV).trans hl13
            refine held_start (fun v => Below V.heap.size V v) (by kernel_rfl) ?_
            generalize V.drew = D at *
            refine h2_take (i := 0) (v := .agg #[.int .u64 p'.tok, .int .u64 p'.at_, .int .u64 p'.rate]) 64 rfl (by kernel_rfl) (by kernel_rfl) (by kernel_rfl) (by kernel_rfl) (fun _ _ _ h => h) (by kernel_rfl) hVD (fun v hv => by exact lb_mid 24 (.tmp 8) rfl (by kernel_rfl) (hpV v hv) Try.underlying24 rfl (by kernel_rfl)) ?_
            refine h2_take (i := 1) (v := .int .u64 a0) 65 rfl (by kernel_rfl) (by kernel_rfl) (by kernel_rfl) (by kernel_rfl) (fun _ _ _ h => h) (by kernel_rfl) hVD (fun v hv => by kernel_rfl) ?_
            refine h2_take (i := 2) (v := .int .u64 nw) 66 rfl (by kernel_rfl) (by kernel_rfl) (by kernel_rfl) (by kernel_rfl) (fun _ _ _ h => h) (by kernel_rfl) hVD (fun v hv => by kernel_rfl) ?_
            refine h2_take (i := 3) (v := (.slice (some ⟨b', off', none⟩) z2.length cap2)) 67 rfl (by kernel_rfl) (by kernel_rfl) (by kernel_rfl) (by kernel_rfl) (fun _ _ _ h => h) (by kernel_rfl) hVD (fun v hv => by kernel_rfl) ?_
            refine h2_take (i := 4) (v := .int .i64 k) 68 rfl (by kernel_rfl) (by kernel_rfl) (by kernel_rfl) (by kernel_rfl) (fun _ _ _ h => h) (by kernel_rfl) hVD (fun v hv => by kernel_rfl) ?_
            refine h2_take (i := 5) (v := (.pointer (some ⟨b', off' + k * 4, none⟩))) 69 rfl (by kernel_rfl) (by kernel_rfl) (by kernel_rfl) (by kernel_rfl) (fun _ _ _ h => h) (by kernel_rfl) hVD (fun v hv => by exact ix_go (n := z2.length) (cap := cap2) (.tmp 67) (.tmp 68) rfl (by kernel_rfl) (by kernel_rfl) hlt) ?_
            refine h2_take (i := 6) (v := (.pointer (some ⟨b', off' + k * 4 + 1, none⟩))) 70 rfl (by kernel_rfl) (by kernel_rfl) (by kernel_rfl) (by kernel_rfl) (fun _ _ _ h => h) (by kernel_rfl) hVD (fun v hv => by kernel_rfl) ?_
            refine h2_take (i := 7) (v := .int .u16 s) 71 rfl (by kernel_rfl) (by kernel_rfl) (by kernel_rfl) (by kernel_rfl) (fun _ _ _ h => h) (by kernel_rfl) hVD (fun v hv => by exact lb_any 32 (.tmp 70) rfl (by kernel_rfl) (by kernel_rfl) (hsV v hv)) ?_
            refine h2_take (i := 8) (v := .int .u64 s) 72 rfl (by kernel_rfl) (by kernel_rfl) (by kernel_rfl) (by kernel_rfl) (fun _ _ _ h => h) (by kernel_rfl) hVD (fun v hv => by exact cv_u16 (.tmp 71) rfl (by kernel_rfl) s0' s1') ?_
            clear hpV hsV
            refine held_two (i := 9) (j := 13) (by kernel_rfl) ?_ ?_
            · refine o2_call (i := 9) 73 (f := 8) (args := #[.agg #[.int .u64 p'.tok, .int .u64 p'.at_, .int .u64 p'.rate], .int .u64 a0, .int .u64 nw, .int .u64 s]) rfl (by kernel_rfl) (by kernel_rfl) (by kernel_rfl) ((CT D).mono ?_)
              rintro e v1' ⟨rfl, E1⟩
              have H1 : Below V.heap.size V v1' := Base.next hVD E1
              have hz1 := E1.size
              refine ⟨_, rfl, H1, ?_⟩
              refine h2_take (i := 10) (v := .tuple #[.agg #[.int .u64 q.tok, .int .u64 q.at_, .int .u64 q.rate], .bool tb]) 63 rfl (by kernel_rfl) (by kernel_rfl) (by kernel_rfl) (by kernel_rfl) (fun _ _ _ h => h) (by kernel_rfl) H1 (fun v hv => by kernel_rfl) ?_
              refine h2_take (i := 11) (v := .agg #[.int .u64 q.tok, .int .u64 q.at_, .int .u64 q.rate]) 74 rfl (by kernel_rfl) (by kernel_rfl) (by kernel_rfl) (by kernel_rfl) (fun _ _ _ h => h) (by kernel_rfl) H1 (fun v hv => by kernel_rfl) ?_
              refine h2_take (i := 12) (v := .bool tb) 75 rfl (by kernel_rfl) (by kernel_rfl) (by kernel_rfl) (by kernel_rfl) (fun _ _ _ h => h) (by kernel_rfl) H1 (fun v hv => by kernel_rfl) ?_
              refine h2_one (i := 13) 14 (v := .pointer (some ⟨v1'.heap.size, 0, none⟩)) (w' := v1'.alloc (.cells #[.int .u64 0, .int .u64 0, .int .u64 0] 24)) rfl (by kernel_rfl) (by kernel_rfl) (by kernel_rfl) (by kernel_rfl) (H1.alloc H1.size _) ?_
              have qB := Blk.new v1' #[.int .u64 0, .int .u64 0, .int .u64 0] 24
              have H2 := H1.alloc H1.size (.cells #[.int .u64 0, .int .u64 0, .int .u64 0] 24)
              generalize v1'.alloc (.cells #[.int .u64 0, .int .u64 0, .int .u64 0] 24) = v2' at *
              refine h2_st (i := 14) rfl (by kernel_rfl) (by kernel_rfl) (by kernel_rfl) (st_row 24 (.tmp 14) (.tmp 74) rfl (g := v1'.heap.size) (cells := #[.int .u64 q.tok, .int .u64 q.at_, .int .u64 q.rate]) (by kernel_rfl) (by kernel_rfl) qB (by kernel_rfl) rfl (by simp [Value.oneCell'])) (below_setRow' H2 (by have := hVD.size; omega)) ?_
              refine h2_take (i := 15) (v := .bool tb) 15 rfl (by kernel_rfl) (by kernel_rfl) (by kernel_rfl) (by kernel_rfl) (fun _ _ _ h => h) (by kernel_rfl) (below_setRow' H2 (by have := hVD.size; omega)) (fun v hv => by kernel_rfl) ?_
              refine held_done (by kernel_rfl) ?_
              simp only [Act.put, List.setIfInBounds_toArray, List.set_cons_succ, List.set_cons_zero]
              go_wp2
              go_meet
              exact ⟨_, rfl, rfl, qB.setRow _, (by have := hVD.size; omega), below_setRow' H2 (by have := hVD.size; omega)⟩
            · refine o2_value (i := 13) 14 (v := .pointer (some ⟨D.heap.size, 0, none⟩)) (w' := D.alloc (.cells #[.int .u64 0, .int .u64 0, .int .u64 0] 24)) rfl (by kernel_rfl) (by kernel_rfl) (by kernel_rfl) ?_
              have qB := Blk.new D #[.int .u64 0, .int .u64 0, .int .u64 0] 24
              have H1 := hVD.alloc hVD.size (.cells #[.int .u64 0, .int .u64 0, .int .u64 0] 24)
              generalize D.alloc (.cells #[.int .u64 0, .int .u64 0, .int .u64 0] 24) = v1' at *
              refine ⟨H1, ?_⟩
              refine h2_call (i := 9) 73 (f := 8) (args := #[.agg #[.int .u64 p'.tok, .int .u64 p'.at_, .int .u64 p'.rate], .int .u64 a0, .int .u64 nw, .int .u64 s]) rfl (by kernel_rfl) (by kernel_rfl) (by kernel_rfl) (by kernel_rfl) ((CT v1').mono ?_)
              rintro e v2' ⟨rfl, E2⟩
              have H2 : Below V.heap.size V v2' := Base.next H1 E2
              replace qB := qB.below E2 qB.lt
              refine ⟨_, rfl, H2, ?_⟩
              refine h2_take (i := 10) (v := .tuple #[.agg #[.int .u64 q.tok, .int .u64 q.at_, .int .u64 q.rate], .bool tb]) 63 rfl (by kernel_rfl) (by kernel_rfl) (by kernel_rfl) (by kernel_rfl) (fun _ _ _ h => h) (by kernel_rfl) H2 (fun v hv => by kernel_rfl) ?_
              refine h2_take (i := 11) (v := .agg #[.int .u64 q.tok, .int .u64 q.at_, .int .u64 q.rate]) 74 rfl (by kernel_rfl) (by kernel_rfl) (by kernel_rfl) (by kernel_rfl) (fun _ _ _ h => h) (by kernel_rfl) H2 (fun v hv => by kernel_rfl) ?_
              refine h2_take (i := 12) (v := .bool tb) 75 rfl (by kernel_rfl) (by kernel_rfl) (by kernel_rfl) (by kernel_rfl) (fun _ _ _ h => h) (by kernel_rfl) H2 (fun v hv => by kernel_rfl) ?_
              refine h2_st (i := 14) rfl (by kernel_rfl) (by kernel_rfl) (by kernel_rfl) (st_row 24 (.tmp 14) (.tmp 74) rfl (g := D.heap.size) (cells := #[.int .u64 q.tok, .int .u64 q.at_, .int .u64 q.rate]) (by kernel_rfl) (by kernel_rfl) qB (by kernel_rfl) rfl (by simp [Value.oneCell'])) (below_setRow' H2 (by have := hVD.size; omega)) ?_
              refine h2_take (i := 15) (v := .bool tb) 15 rfl (by kernel_rfl) (by kernel_rfl) (by kernel_rfl) (by kernel_rfl) (fun _ _ _ h => h) (by kernel_rfl) (below_setRow' H2 (by have := hVD.size; omega)) (fun v hv => by kernel_rfl) ?_
              refine held_done (by kernel_rfl) ?_
              simp only [Act.put, List.setIfInBounds_toArray, List.set_cons_succ, List.set_cons_zero]
              go_wp2
              go_meet
              exact ⟨_, rfl, rfl, qB.setRow _, (by have := hVD.size; omega), below_setRow' H2 (by have := hVD.size; omega)⟩
          case rest =>
            obtain ⟨qb, rfl, rfl, qB, hqb, hX⟩ := hcut
            have hne : pb ≠ qb := by have := pB.lt; omega
            have R := R.below hX
            have pB := pB.below hX pB.lt
            have hL := Base.next hL hX
            clear CT hl13 hbV hX hqb
            have k0 : _ = some (Value.int .u64 q.tok) := qB.cell 0
            have k1 : _ = some (Value.int .u64 q.at_) := qB.cell 1
            have k2 : _ = some (Value.int .u64 q.rate) := qB.cell 2
            have hqlt := qB.lt
            go_upto_region 15 with (refine wpl_store_row rfl 24 (.tmp 8) (.tmp 76) rfl pB #[.int .u64 q.tok, .int .u64 q.at_, .int .u64 q.rate] rfl rfl (by kernel_rfl) rfl (by simp [Value.oneCell']) ?_)
            refine at_any ?_
            intro X0 hX
            have F6 : Fr (fun k => k = pb) wc (wc.setRow pb #[.int .u64 q.tok, .int .u64 q.at_, .int .u64 q.rate]) := (Fr.refl (fun k => k = pb) wc).setRow (fun _ => rfl) _
            replace R : Rows3 w X0 v1 v2 v3 (T.map Tk.at_) (T.map Tk.went) (T.map Tk.rate) := by subst hX; exact R.kept F6 hO
            replace pB : Blk X0 pb #[.int .u64 q.tok, .int .u64 q.at_, .int .u64 q.rate] 24 := by subst hX; exact pB.setRow _
            replace hL : Below w.heap.size w X0 := by subst hX; exact below_setRow' hL hpb
            clear F6 hX k0 k1 k2 hqlt qB hne
            have hl13 := (hL.cell (p := ⟨b', off' + k * 4 + 1, none⟩) hb').trans hx1
            have hbX : b' < X0.heap.size := Nat.lt_of_lt_of_le hb' hL.size
            go_upto_if 77 with fail
            go_cut [16] (fun s16 wx => s16 = .int .u64 n ∧ wx = X0)
            case first =>
              cases tb
              · simp only [Bool.false_eq_true, ↓reduceIte] at e2
                subst e2
                go_wp2
                go_meet
                exact ⟨rfl, rfl⟩
              · simp only [↓reduceIte] at e2
                subst e2
                go_wp2
                go_meet
                exact ⟨rfl, rfl⟩
            case rest =>
              obtain ⟨rfl, rfl⟩ := hcut
              clear hl13 hbX
              go_upto_region 18 with fail
              refine at_any ?_
              intro X hX
              replace R : Rows3 w X v1 v2 v3 (T.map Tk.at_) (T.map Tk.went) (T.map Tk.rate) := by subst hX; exact R
              replace pB : Blk X pb #[.int .u64 q.tok, .int .u64 q.at_, .int .u64 q.rate] 24 := by subst hX; exact pB
              replace hL : Below w.heap.size w X := by subst hX; exact hL
              clear hX
              have hend : ∀ (y1 y2 y3 : Value) (V : World), Rows3 w V y1 y2 y3 (T.map Tk.at_ ++ [nw]) (T.map Tk.went ++ [n]) (T.map Tk.rate ++ [q.rate]) → Blk V pb #[.int .u64 q.tok, .int .u64 q.at_, .int .u64 q.rate] 24 → Out3 y1 y2 y3 pb → Below w.heap.size w V → (∃ (k1 : Nat) (T : List Tk) (p : Pc) (v1 v2 v3 : Value), k1 ≤ z2.length ∧ Value.int .i64 ((k : Int) + 1) = .int .i64 k1 ∧ Value.int .u64 nw = .int .u64 p.at_ ∧ v1 = y1 ∧ v2 = y2 ∧ v3 = y3 ∧ T.length = k1 ∧ Chain (a0 * 1000000) T ∧ 0 ≤ p.tok ∧ p.tok ≤ a0 * 1000000 ∧ 0 ≤ p.at_ ∧ p.at_ ≤ 65535 * k1 ∧ 0 ≤ p.rate ∧ p.rate ≤ 4294967296 ∧ (∀ j, j + 1 = T.length → (T.getD j tk0).at_ = p.at_ ∧ (T.getD j tk0).rate = p.rate ∧ (T.getD j tk0).y = p.tok) ∧ Rows3 w V v1 v2 v3 (T.map Tk.at_) (T.map Tk.went) (T.map Tk.rate) ∧ Blk V pb #[.int .u64 p.tok, .int .u64 p.at_, .int .u64 p.rate] 24 ∧ Out3 v1 v2 v3 pb ∧ Below w.heap.size w V) := fun y1 y2 y3 V R pB hO hL => by
                refine ⟨k + 1, T ++ [⟨q.at_, n, q.rate, q.tok⟩], q, y1, y2, y3, hlt, by go_num, by rw [UA.out], rfl, rfl, rfl, by simp [hT], hCh2, u0, u1, by have := UA.out; have := hnw.1; omega, by have := UA.out; omega, ur0, ur1, fun j hj => ?_, ?_, pB, hO, hL⟩
                · obtain rfl : j = T.length := by simpa using hj
                  rw [getD_snoc_at]
                  exact ⟨rfl, rfl, rfl⟩
                · simp only [List.map_append, List.map_cons, List.map_nil, UA.out]
                  exact R
              clear hCh2 u0 u1 ua1 ur0 ur1 UA
              refine wp_fin (fun a a' V => ∃ g1 g2 g3 y1 y2 y3 : Value, a' = ((((((((((((((((a.put (some 84) v1).put (some 85) (.int .u64 nw)).put (some 86) g1).put (some 87) y1).put (some 88) v2).put (some 89) (.int .u64 n)).put (some 90) g2).put (some 91) y2).put (some 92) v3).put (some 93) (.pointer (some ⟨pb, 2, none⟩))).put (some 94) (.int .u64 q.rate)).put (some 95) g3).put (some 96) y3).put (some 9) y1).put (some 10) y2).put (some 11) y3) ∧ Rows3 w V y1 y2 y3 (T.map Tk.at_ ++ [nw]) (T.map Tk.went ++ [n]) (T.map Tk.rate ++ [q.rate]) ∧ Blk V pb #[.int .u64 q.tok, .int .u64 q.at_, .int .u64 q.rate] 24 ∧ Out3 y1 y2 y3 pb ∧ Below w.heap.size w V) ?_ ?_
              rotate_left
              · rintro a' V ⟨g1, g2, g3, y1, y2, y3, rfl, R, pB, hO, hL⟩
                simp only [Act.put, List.setIfInBounds_toArray, List.set_cons_succ, List.set_cons_zero]
                go_wp2
                all_goals go_roundw
                case rel => exact hend _ _ _ _ R pB hO hL
                case measure => simp [intOf]; omega
              clear hend
              have hDD : Fr (fun _ => False) X X.drew := Fr.of_below (Base.drew1 (Below.refl _ _))
              have hLD := Base.drew1 (Below.refl X.heap.size X)
              replace R := R.below hLD
              replace pB := pB.below hLD pB.lt
              replace hL := Base.next hL hLD
              have hlen0 : (T.map Tk.at_).length + 1 ≤ 1000000000000 := by rw [List.length_map]; omega
              have hlen1 : (T.map Tk.went).length + 1 ≤ 1000000000000 := by rw [List.length_map]; omega
              have hlen2 : (T.map Tk.rate).length + 1 ≤ 1000000000000 := by rw [List.length_map]; omega
              have hpD : ∀ v, Fr (fun k => v1.ownBlock = some k ∨ v2.ownBlock = some k ∨ v3.ownBlock = some k) X.drew v → v.cell? ⟨pb, 2, none⟩ = some (.int .u64 q.rate) := fun v hv => (hv.cell (p := ⟨pb, 2, none⟩) pB.lt (fun h => h.elim hO.1 fun h => h.elim hO.2.1 hO.2.2)).trans (pB.cell 2)
              have SV : Fr (fun k => v1.ownBlock = some k ∨ v2.ownBlock = some k ∨ v3.ownBlock = some k) X.drew X.drew := Fr.refl _ _
              generalize T.map Tk.at_ = l0 at *
              generalize T.map Tk.went = l1 at *
              generalize T.map Tk.rate = l2 at *
              obtain ⟨za, ka, rfl, _, _, _⟩ := R.o1.read
              obtain ⟨zb, kb, rfl, _, _, _⟩ := R.o2.read
              obtain ⟨zc, kc, rfl, _, _, _⟩ := R.o3.read
              refine held_start (fun v => Fr (fun k => (Value.slice za l0.length ka).ownBlock = some k ∨ (Value.slice zb l1.length kb).ownBlock = some k ∨ (Value.slice zc l2.length kc).ownBlock = some k) X.drew v) (by kernel_rfl) ?_
              generalize X.drew = x0 at *
              clear hDD hLD
              refine h2_take (i := 0) (v := (.slice za l0.length ka)) 84 rfl (by kernel_rfl) (by kernel_rfl) (by kernel_rfl) (by kernel_rfl) (fun _ _ _ h => nomatch h.1) (by kernel_rfl) SV (fun v hv => by kernel_rfl) ?_
              refine h2_take (i := 1) (v := .int .u64 nw) 85 rfl (by kernel_rfl) (by kernel_rfl) (by kernel_rfl) (by kernel_rfl) (fun _ _ _ h => nomatch h.1) (by kernel_rfl) SV (fun v hv => by kernel_rfl) ?_
              refine h2_take (i := 4) (v := (.slice zb l1.length kb)) 88 rfl (by kernel_rfl) (by kernel_rfl) (by kernel_rfl) (by kernel_rfl) (fun _ _ _ h => nomatch h.1) (by kernel_rfl) SV (fun v hv => by kernel_rfl) ?_
              refine h2_take (i := 5) (v := .int .u64 n) 89 rfl (by kernel_rfl) (by kernel_rfl) (by kernel_rfl) (by kernel_rfl) (fun _ _ _ h => nomatch h.1) (by kernel_rfl) SV (fun v hv => by kernel_rfl) ?_
              refine h2_take (i := 8) (v := (.slice zc l2.length kc)) 92 rfl (by kernel_rfl) (by kernel_rfl) (by kernel_rfl) (by kernel_rfl) (fun _ _ _ h => nomatch h.1) (by kernel_rfl) SV (fun v hv => by kernel_rfl) ?_
              refine h2_take (i := 9) (v := .pointer (some ⟨pb, 2, none⟩)) 93 rfl (by kernel_rfl) (by kernel_rfl) (by kernel_rfl) (by kernel_rfl) (fun _ _ _ h => nomatch h.1) (by kernel_rfl) SV (fun v hv => by kernel_rfl) ?_
              refine h2_take (i := 10) (v := .int .u64 q.rate) 94 rfl (by kernel_rfl) (by kernel_rfl) (by kernel_rfl) (by kernel_rfl) (fun _ _ _ h => nomatch h.1) (by kernel_rfl) SV (fun v hv => by exact lb_any 22 (.tmp 93) rfl (by kernel_rfl) (by kernel_rfl) (hpD v hv)) ?_
              clear hpD
              refine h2_three (i := 2) (j := 6) (k := 11) (by kernel_rfl) ?_ ?_ ?_
              · refine o2_lit (n := nw) (i := 2) 86 (.tmp 85) rfl (by kernel_rfl) (by kernel_rfl) rfl (by kernel_rfl) ?_
                intro g0 x1 e0 hA lB0
                have oB0 := out3_lt R (Nat.le_refl _)
                rw [← e0] at oB0
                clear e0
                replace R := R.below hA
                replace pB := pB.below hA pB.lt
                replace hL := Base.next hL hA
                replace SV := SV.trans (T := fun _ => False) (Fr.of_below hA) fun _ _ h => h.elim
                clear hA
                refine ⟨SV, ?_⟩
                refine h2_three (i := 3) (j := 6) (k := 11) (by kernel_rfl) ?_ ?_ ?_
                · refine o2_wp (i := 3) rfl (by kernel_rfl) (wp_addR 87 (by kernel_rfl) (s := nw) (v := (.slice za l0.length ka)) (b := some ⟨g0, 0, none⟩) (.tmp 84) (.tmp 86) rfl (by kernel_rfl) R.o1 (by kernel_rfl) (.of (Row.lit_at lB0)) hlen0 ?_)
                  intro y2 x2 A
                  have A1 := A.fr
                  replace SV := SV.trans A1 fun i _ hi => Or.inl hi
                  obtain ⟨R2, keep, hA⟩ := R.add1 hL.size A
                  have pK := keep _ pB.lt hO
                  replace pB := keep_blk pB pK.1
                  replace hO := pK.2
                  replace R := R2
                  replace hL := hL.trans hA
                  obtain ⟨z2, k2, rfl, _, _, _⟩ := A.own.read
                  clear keep hA R2 A A1 lB0 oB0
                  refine ⟨SV, ?_⟩
                  refine held_two (i := 6) (j := 11) (by kernel_rfl) ?_ ?_
                  · refine o2_lit (n := n) (i := 6) 90 (.tmp 89) rfl (by kernel_rfl) (by kernel_rfl) rfl (by kernel_rfl) ?_
                    intro g1 x3 e1 hA lB1
                    have oB1 := out3_lt R (Nat.le_refl _)
                    rw [← e1] at oB1
                    clear e1
                    replace R := R.below hA
                    replace pB := pB.below hA pB.lt
                    replace hL := Base.next hL hA
                    replace SV := SV.trans (T := fun _ => False) (Fr.of_below hA) fun _ _ h => h.elim
                    clear hA
                    refine ⟨SV, ?_⟩
                    refine held_two (i := 7) (j := 11) (by kernel_rfl) ?_ ?_
                    · refine o2_wp (i := 7) rfl (by kernel_rfl) (wp_addR 91 (by kernel_rfl) (s := n) (v := (.slice zb l1.length kb)) (b := some ⟨g1, 0, none⟩) (.tmp 88) (.tmp 90) rfl (by kernel_rfl) R.o2 (by kernel_rfl) (.of (Row.lit_at lB1)) hlen1 ?_)
                      intro y4 x4 A
                      have A1 := A.fr
                      replace SV := SV.trans A1 fun i _ hi => Or.inr (Or.inl hi)
                      obtain ⟨R2, keep, hA⟩ := R.add2 hL.size A
                      have pK := keep _ pB.lt hO
                      replace pB := keep_blk pB pK.1
                      replace hO := pK.2
                      replace R := R2
                      replace hL := hL.trans hA
                      obtain ⟨z4, k4, rfl, _, _, _⟩ := A.own.read
                      clear keep hA R2 A A1 lB1 oB1
                      refine ⟨SV, ?_⟩
                      refine h2_lit (n := q.rate) (i := 11) 95 (.tmp 94) rfl (by kernel_rfl) (by kernel_rfl) (by kernel_rfl) rfl (by kernel_rfl) ?_
                      intro g2 x5 e2 hA lB2
                      have oB2 := out3_lt R (Nat.le_refl _)
                      rw [← e2] at oB2
                      clear e2
                      replace R := R.below hA
                      replace pB := pB.below hA pB.lt
                      replace hL := Base.next hL hA
                      replace SV := SV.trans (T := fun _ => False) (Fr.of_below hA) fun _ _ h => h.elim
                      clear hA
                      refine ⟨SV, ?_⟩
                      refine held_wp (i := 12) rfl (by kernel_rfl) (by kernel_rfl) (wp_addR 96 (by kernel_rfl) (s := q.rate) (v := (.slice zc l2.length kc)) (b := some ⟨g2, 0, none⟩) (.tmp 92) (.tmp 95) rfl (by kernel_rfl) R.o3 (by kernel_rfl) (.of (Row.lit_at lB2)) hlen2 ?_)
                      intro y6 x6 A
                      have A1 := A.fr
                      replace SV := SV.trans A1 fun i _ hi => Or.inr (Or.inr hi)
                      obtain ⟨R2, keep, hA⟩ := R.add3 hL.size A
                      have pK := keep _ pB.lt hO
                      replace pB := keep_blk pB pK.1
                      replace hO := pK.2
                      replace R := R2
                      replace hL := hL.trans hA
                      obtain ⟨z6, k6, rfl, _, _, _⟩ := A.own.read
                      clear keep hA R2 A A1 lB2 oB2
                      refine ⟨SV, ?_⟩
                      refine h2_take (i := 13) (v := (.slice z2 (l0 ++ [nw]).length k2)) 9 rfl (by kernel_rfl) (by kernel_rfl) (by kernel_rfl) (by kernel_rfl) (fun _ _ _ h => nomatch h.1) (by kernel_rfl) SV (fun v hv => by kernel_rfl) ?_
                      refine h2_take (i := 14) (v := (.slice z4 (l1 ++ [n]).length k4)) 10 rfl (by kernel_rfl) (by kernel_rfl) (by kernel_rfl) (by kernel_rfl) (fun _ _ _ h => nomatch h.1) (by kernel_rfl) SV (fun v hv => by kernel_rfl) ?_
                      refine h2_take (i := 15) (v := (.slice z6 (l2 ++ [q.rate]).length k6)) 11 rfl (by kernel_rfl) (by kernel_rfl) (by kernel_rfl) (by kernel_rfl) (fun _ _ _ h => nomatch h.1) (by kernel_rfl) SV (fun v hv => by kernel_rfl) ?_
                      exact held_done (by kernel_rfl) ⟨rfl, .slice (some ⟨g0, 0, none⟩) 1 1, .slice (some ⟨g1, 0, none⟩) 1 1, .slice (some ⟨g2, 0, none⟩) 1 1, (.slice z2 (l0 ++ [nw]).length k2), (.slice z4 (l1 ++ [n]).length k4), (.slice z6 (l2 ++ [q.rate]).length k6), by kernel_rfl, R, pB, hO, hL⟩
                    · refine o2_lit (n := q.rate) (i := 11) 95 (.tmp 94) rfl (by kernel_rfl) (by kernel_rfl) rfl (by kernel_rfl) ?_
                      intro g2 x4 e2 hA lB2
                      have oB2 := out3_lt R (Nat.le_refl _)
                      rw [← e2] at oB2
                      clear e2
                      replace lB1 := lB1.below hA lB1.lt
                      replace R := R.below hA
                      replace pB := pB.below hA pB.lt
                      replace hL := Base.next hL hA
                      replace SV := SV.trans (T := fun _ => False) (Fr.of_below hA) fun _ _ h => h.elim
                      clear hA
                      refine ⟨SV, ?_⟩
                      refine held_wp (i := 7) rfl (by kernel_rfl) (by kernel_rfl) (wp_addR 91 (by kernel_rfl) (s := n) (v := (.slice zb l1.length kb)) (b := some ⟨g1, 0, none⟩) (.tmp 88) (.tmp 90) rfl (by kernel_rfl) R.o2 (by kernel_rfl) (.of (Row.lit_at lB1)) hlen1 ?_)
                      intro y5 x5 A
                      have A1 := A.fr
                      replace SV := SV.trans A1 fun i _ hi => Or.inr (Or.inl hi)
                      obtain ⟨R2, keep, hA⟩ := R.add2 hL.size A
                      have pK := keep _ pB.lt hO
                      replace pB := keep_blk pB pK.1
                      replace hO := pK.2
                      have kB2 := keep _ lB2.lt oB2
                      replace lB2 := keep_blk lB2 kB2.1
                      replace oB2 := kB2.2
                      replace R := R2
                      replace hL := hL.trans hA
                      obtain ⟨z5, k5, rfl, _, _, _⟩ := A.own.read
                      clear keep hA R2 A A1 lB1 oB1
                      refine ⟨SV, ?_⟩
                      refine held_wp (i := 12) rfl (by kernel_rfl) (by kernel_rfl) (wp_addR 96 (by kernel_rfl) (s := q.rate) (v := (.slice zc l2.length kc)) (b := some ⟨g2, 0, none⟩) (.tmp 92) (.tmp 95) rfl (by kernel_rfl) R.o3 (by kernel_rfl) (.of (Row.lit_at lB2)) hlen2 ?_)
                      intro y6 x6 A
                      have A1 := A.fr
                      replace SV := SV.trans A1 fun i _ hi => Or.inr (Or.inr hi)
                      obtain ⟨R2, keep, hA⟩ := R.add3 hL.size A
                      have pK := keep _ pB.lt hO
                      replace pB := keep_blk pB pK.1
                      replace hO := pK.2
                      replace R := R2
                      replace hL := hL.trans hA
                      obtain ⟨z6, k6, rfl, _, _, _⟩ := A.own.read
                      clear keep hA R2 A A1 lB2 oB2
                      refine ⟨SV, ?_⟩
                      refine h2_take (i := 13) (v := (.slice z2 (l0 ++ [nw]).length k2)) 9 rfl (by kernel_rfl) (by kernel_rfl) (by kernel_rfl) (by kernel_rfl) (fun _ _ _ h => nomatch h.1) (by kernel_rfl) SV (fun v hv => by kernel_rfl) ?_
                      refine h2_take (i := 14) (v := (.slice z5 (l1 ++ [n]).length k5)) 10 rfl (by kernel_rfl) (by kernel_rfl) (by kernel_rfl) (by kernel_rfl) (fun _ _ _ h => nomatch h.1) (by kernel_rfl) SV (fun v hv => by kernel_rfl) ?_
                      refine h2_take (i := 15) (v := (.slice z6 (l2 ++ [q.rate]).length k6)) 11 rfl (by kernel_rfl) (by kernel_rfl) (by kernel_rfl) (by kernel_rfl) (fun _ _ _ h => nomatch h.1) (by kernel_rfl) SV (fun v hv => by kernel_rfl) ?_
                      exact held_done (by kernel_rfl) ⟨rfl, .slice (some ⟨g0, 0, none⟩) 1 1, .slice (some ⟨g1, 0, none⟩) 1 1, .slice (some ⟨g2, 0, none⟩) 1 1, (.slice z2 (l0 ++ [nw]).length k2), (.slice z5 (l1 ++ [n]).length k5), (.slice z6 (l2 ++ [q.rate]).length k6), by kernel_rfl, R, pB, hO, hL⟩
                  · refine o2_lit (n := q.rate) (i := 11) 95 (.tmp 94) rfl (by kernel_rfl) (by kernel_rfl) rfl (by kernel_rfl) ?_
                    intro g2 x3 e2 hA lB2
                    have oB2 := out3_lt R (Nat.le_refl _)
                    rw [← e2] at oB2
                    clear e2
                    replace R := R.below hA
                    replace pB := pB.below hA pB.lt
                    replace hL := Base.next hL hA
                    replace SV := SV.trans (T := fun _ => False) (Fr.of_below hA) fun _ _ h => h.elim
                    clear hA
                    refine ⟨SV, ?_⟩
                    refine h2_lit (n := n) (i := 6) 90 (.tmp 89) rfl (by kernel_rfl) (by kernel_rfl) (by kernel_rfl) rfl (by kernel_rfl) ?_
                    intro g1 x4 e1 hA lB1
                    have oB1 := out3_lt R (Nat.le_refl _)
                    rw [← e1] at oB1
                    clear e1
                    replace lB2 := lB2.below hA lB2.lt
                    replace R := R.below hA
                    replace pB := pB.below hA pB.lt
                    replace hL := Base.next hL hA
                    replace SV := SV.trans (T := fun _ => False) (Fr.of_below hA) fun _ _ h => h.elim
                    clear hA
                    refine ⟨SV, ?_⟩
                    refine held_wp (i := 7) rfl (by kernel_rfl) (by kernel_rfl) (wp_addR 91 (by kernel_rfl) (s := n) (v := (.slice zb l1.length kb)) (b := some ⟨g1, 0, none⟩) (.tmp 88) (.tmp 90) rfl (by kernel_rfl) R.o2 (by kernel_rfl) (.of (Row.lit_at lB1)) hlen1 ?_)
                    intro y5 x5 A
                    have A1 := A.fr
                    replace SV := SV.trans A1 fun i _ hi => Or.inr (Or.inl hi)
                    obtain ⟨R2, keep, hA⟩ := R.add2 hL.size A
                    have pK := keep _ pB.lt hO
                    replace pB := keep_blk pB pK.1
                    replace hO := pK.2
                    have kB2 := keep _ lB2.lt oB2
                    replace lB2 := keep_blk lB2 kB2.1
                    replace oB2 := kB2.2
                    replace R := R2
                    replace hL := hL.trans hA
                    obtain ⟨z5, k5, rfl, _, _, _⟩ := A.own.read
                    clear keep hA R2 A A1 lB1 oB1
                    refine ⟨SV, ?_⟩
                    refine held_wp (i := 12) rfl (by kernel_rfl) (by kernel_rfl) (wp_addR 96 (by kernel_rfl) (s := q.rate) (v := (.slice zc l2.length kc)) (b := some ⟨g2, 0, none⟩) (.tmp 92) (.tmp 95) rfl (by kernel_rfl) R.o3 (by kernel_rfl) (.of (Row.lit_at lB2)) hlen2 ?_)
                    intro y6 x6 A
                    have A1 := A.fr
                    replace SV := SV.trans A1 fun i _ hi => Or.inr (Or.inr hi)
                    obtain ⟨R2, keep, hA⟩ := R.add3 hL.size A
                    have pK := keep _ pB.lt hO
                    replace pB := keep_blk pB pK.1
                    replace hO := pK.2
                    replace R := R2
                    replace hL := hL.trans hA
                    obtain ⟨z6, k6, rfl, _, _, _⟩ := A.own.read
                    clear keep hA R2 A A1 lB2 oB2
                    refine ⟨SV, ?_⟩
                    refine h2_take (i := 13) (v := (.slice z2 (l0 ++ [nw]).length k2)) 9 rfl (by kernel_rfl) (by kernel_rfl) (by kernel_rfl) (by kernel_rfl) (fun _ _ _ h => nomatch h.1) (by kernel_rfl) SV (fun v hv => by kernel_rfl) ?_
                    refine h2_take (i := 14) (v := (.slice z5 (l1 ++ [n]).length k5)) 10 rfl (by kernel_rfl) (by kernel_rfl) (by kernel_rfl) (by kernel_rfl) (fun _ _ _ h => nomatch h.1) (by kernel_rfl) SV (fun v hv => by kernel_rfl) ?_
                    refine h2_take (i := 15) (v := (.slice z6 (l2 ++ [q.rate]).length k6)) 11 rfl (by kernel_rfl) (by kernel_rfl) (by kernel_rfl) (by kernel_rfl) (fun _ _ _ h => nomatch h.1) (by kernel_rfl) SV (fun v hv => by kernel_rfl) ?_
                    exact held_done (by kernel_rfl) ⟨rfl, .slice (some ⟨g0, 0, none⟩) 1 1, .slice (some ⟨g1, 0, none⟩) 1 1, .slice (some ⟨g2, 0, none⟩) 1 1, (.slice z2 (l0 ++ [nw]).length k2), (.slice z5 (l1 ++ [n]).length k5), (.slice z6 (l2 ++ [q.rate]).length k6), by kernel_rfl, R, pB, hO, hL⟩
                · refine o2_lit (n := n) (i := 6) 90 (.tmp 89) rfl (by kernel_rfl) (by kernel_rfl) rfl (by kernel_rfl) ?_
                  intro g1 x2 e1 hA lB1
                  have oB1 := out3_lt R (Nat.le_refl _)
                  rw [← e1] at oB1
                  clear e1
                  replace lB0 := lB0.below hA lB0.lt
                  replace R := R.below hA
                  replace pB := pB.below hA pB.lt
                  replace hL := Base.next hL hA
                  replace SV := SV.trans (T := fun _ => False) (Fr.of_below hA) fun _ _ h => h.elim
                  clear hA
                  refine ⟨SV, ?_⟩
                  refine held_two (i := 3) (j := 11) (by kernel_rfl) ?_ ?_
                  · refine o2_wp (i := 3) rfl (by kernel_rfl) (wp_addR 87 (by kernel_rfl) (s := nw) (v := (.slice za l0.length ka)) (b := some ⟨g0, 0, none⟩) (.tmp 84) (.tmp 86) rfl (by kernel_rfl) R.o1 (by kernel_rfl) (.of (Row.lit_at lB0)) hlen0 ?_)
                    intro y3 x3 A
                    have A1 := A.fr
                    replace SV := SV.trans A1 fun i _ hi => Or.inl hi
                    obtain ⟨R2, keep, hA⟩ := R.add1 hL.size A
                    have pK := keep _ pB.lt hO
                    replace pB := keep_blk pB pK.1
                    replace hO := pK.2
                    have kB1 := keep _ lB1.lt oB1
                    replace lB1 := keep_blk lB1 kB1.1
                    replace oB1 := kB1.2
                    replace R := R2
                    replace hL := hL.trans hA
                    obtain ⟨z3, k3, rfl, _, _, _⟩ := A.own.read
                    clear keep hA R2 A A1 lB0 oB0
                    refine ⟨SV, ?_⟩
                    refine held_two (i := 7) (j := 11) (by kernel_rfl) ?_ ?_
                    · refine o2_wp (i := 7) rfl (by kernel_rfl) (wp_addR 91 (by kernel_rfl) (s := n) (v := (.slice zb l1.length kb)) (b := some ⟨g1, 0, none⟩) (.tmp 88) (.tmp 90) rfl (by kernel_rfl) R.o2 (by kernel_rfl) (.of (Row.lit_at lB1)) hlen1 ?_)
                      intro y4 x4 A
                      have A1 := A.fr
                      replace SV := SV.trans A1 fun i _ hi => Or.inr (Or.inl hi)
                      obtain ⟨R2, keep, hA⟩ := R.add2 hL.size A
                      have pK := keep _ pB.lt hO
                      replace pB := keep_blk pB pK.1
                      replace hO := pK.2
                      replace R := R2
                      replace hL := hL.trans hA
                      obtain ⟨z4, k4, rfl, _, _, _⟩ := A.own.read
                      clear keep hA R2 A A1 lB1 oB1
                      refine ⟨SV, ?_⟩
                      refine h2_lit (n := q.rate) (i := 11) 95 (.tmp 94) rfl (by kernel_rfl) (by kernel_rfl) (by kernel_rfl) rfl (by kernel_rfl) ?_
                      intro g2 x5 e2 hA lB2
                      have oB2 := out3_lt R (Nat.le_refl _)
                      rw [← e2] at oB2
                      clear e2
                      replace R := R.below hA
                      replace pB := pB.below hA pB.lt
                      replace hL := Base.next hL hA
                      replace SV := SV.trans (T := fun _ => False) (Fr.of_below hA) fun _ _ h => h.elim
                      clear hA
                      refine ⟨SV, ?_⟩
                      refine held_wp (i := 12) rfl (by kernel_rfl) (by kernel_rfl) (wp_addR 96 (by kernel_rfl) (s := q.rate) (v := (.slice zc l2.length kc)) (b := some ⟨g2, 0, none⟩) (.tmp 92) (.tmp 95) rfl (by kernel_rfl) R.o3 (by kernel_rfl) (.of (Row.lit_at lB2)) hlen2 ?_)
                      intro y6 x6 A
                      have A1 := A.fr
                      replace SV := SV.trans A1 fun i _ hi => Or.inr (Or.inr hi)
                      obtain ⟨R2, keep, hA⟩ := R.add3 hL.size A
                      have pK := keep _ pB.lt hO
                      replace pB := keep_blk pB pK.1
                      replace hO := pK.2
                      replace R := R2
                      replace hL := hL.trans hA
                      obtain ⟨z6, k6, rfl, _, _, _⟩ := A.own.read
                      clear keep hA R2 A A1 lB2 oB2
                      refine ⟨SV, ?_⟩
                      refine h2_take (i := 13) (v := (.slice z3 (l0 ++ [nw]).length k3)) 9 rfl (by kernel_rfl) (by kernel_rfl) (by kernel_rfl) (by kernel_rfl) (fun _ _ _ h => nomatch h.1) (by kernel_rfl) SV (fun v hv => by kernel_rfl) ?_
                      refine h2_take (i := 14) (v := (.slice z4 (l1 ++ [n]).length k4)) 10 rfl (by kernel_rfl) (by kernel_rfl) (by kernel_rfl) (by kernel_rfl) (fun _ _ _ h => nomatch h.1) (by kernel_rfl) SV (fun v hv => by kernel_rfl) ?_
                      refine h2_take (i := 15) (v := (.slice z6 (l2 ++ [q.rate]).length k6)) 11 rfl (by kernel_rfl) (by kernel_rfl) (by kernel_rfl) (by kernel_rfl) (fun _ _ _ h => nomatch h.1) (by kernel_rfl) SV (fun v hv => by kernel_rfl) ?_
                      exact held_done (by kernel_rfl) ⟨rfl, .slice (some ⟨g0, 0, none⟩) 1 1, .slice (some ⟨g1, 0, none⟩) 1 1, .slice (some ⟨g2, 0, none⟩) 1 1, (.slice z3 (l0 ++ [nw]).length k3), (.slice z4 (l1 ++ [n]).length k4), (.slice z6 (l2 ++ [q.rate]).length k6), by kernel_rfl, R, pB, hO, hL⟩
                    · refine o2_lit (n := q.rate) (i := 11) 95 (.tmp 94) rfl (by kernel_rfl) (by kernel_rfl) rfl (by kernel_rfl) ?_
                      intro g2 x4 e2 hA lB2
                      have oB2 := out3_lt R (Nat.le_refl _)
                      rw [← e2] at oB2
                      clear e2
                      replace lB1 := lB1.below hA lB1.lt
                      replace R := R.below hA
                      replace pB := pB.below hA pB.lt
                      replace hL := Base.next hL hA
                      replace SV := SV.trans (T := fun _ => False) (Fr.of_below hA) fun _ _ h => h.elim
                      clear hA
                      refine ⟨SV, ?_⟩
                      refine held_wp (i := 7) rfl (by kernel_rfl) (by kernel_rfl) (wp_addR 91 (by kernel_rfl) (s := n) (v := (.slice zb l1.length kb)) (b := some ⟨g1, 0, none⟩) (.tmp 88) (.tmp 90) rfl (by kernel_rfl) R.o2 (by kernel_rfl) (.of (Row.lit_at lB1)) hlen1 ?_)
                      intro y5 x5 A
                      have A1 := A.fr
                      replace SV := SV.trans A1 fun i _ hi => Or.inr (Or.inl hi)
                      obtain ⟨R2, keep, hA⟩ := R.add2 hL.size A
                      have pK := keep _ pB.lt hO
                      replace pB := keep_blk pB pK.1
                      replace hO := pK.2
                      have kB2 := keep _ lB2.lt oB2
                      replace lB2 := keep_blk lB2 kB2.1
                      replace oB2 := kB2.2
                      replace R := R2
                      replace hL := hL.trans hA
                      obtain ⟨z5, k5, rfl, _, _, _⟩ := A.own.read
                      clear keep hA R2 A A1 lB1 oB1
                      refine ⟨SV, ?_⟩
                      refine held_wp (i := 12) rfl (by kernel_rfl) (by kernel_rfl) (wp_addR 96 (by kernel_rfl) (s := q.rate) (v := (.slice zc l2.length kc)) (b := some ⟨g2, 0, none⟩) (.tmp 92) (.tmp 95) rfl (by kernel_rfl) R.o3 (by kernel_rfl) (.of (Row.lit_at lB2)) hlen2 ?_)
                      intro y6 x6 A
                      have A1 := A.fr
                      replace SV := SV.trans A1 fun i _ hi => Or.inr (Or.inr hi)
                      obtain ⟨R2, keep, hA⟩ := R.add3 hL.size A
                      have pK := keep _ pB.lt hO
                      replace pB := keep_blk pB pK.1
                      replace hO := pK.2
                      replace R := R2
                      replace hL := hL.trans hA
                      obtain ⟨z6, k6, rfl, _, _, _⟩ := A.own.read
                      clear keep hA R2 A A1 lB2 oB2
                      refine ⟨SV, ?_⟩
                      refine h2_take (i := 13) (v := (.slice z3 (l0 ++ [nw]).length k3)) 9 rfl (by kernel_rfl) (by kernel_rfl) (by kernel_rfl) (by kernel_rfl) (fun _ _ _ h => nomatch h.1) (by kernel_rfl) SV (fun v hv => by kernel_rfl) ?_
                      refine h2_take (i := 14) (v := (.slice z5 (l1 ++ [n]).length k5)) 10 rfl (by kernel_rfl) (by kernel_rfl) (by kernel_rfl) (by kernel_rfl) (fun _ _ _ h => nomatch h.1) (by kernel_rfl) SV (fun v hv => by kernel_rfl) ?_
                      refine h2_take (i := 15) (v := (.slice z6 (l2 ++ [q.rate]).length k6)) 11 rfl (by kernel_rfl) (by kernel_rfl) (by kernel_rfl) (by kernel_rfl) (fun _ _ _ h => nomatch h.1) (by kernel_rfl) SV (fun v hv => by kernel_rfl) ?_
                      exact held_done (by kernel_rfl) ⟨rfl, .slice (some ⟨g0, 0, none⟩) 1 1, .slice (some ⟨g1, 0, none⟩) 1 1, .slice (some ⟨g2, 0, none⟩) 1 1, (.slice z3 (l0 ++ [nw]).length k3), (.slice z5 (l1 ++ [n]).length k5), (.slice z6 (l2 ++ [q.rate]).length k6), by kernel_rfl, R, pB, hO, hL⟩
                  · refine o2_lit (n := q.rate) (i := 11) 95 (.tmp 94) rfl (by kernel_rfl) (by kernel_rfl) rfl (by kernel_rfl) ?_
                    intro g2 x3 e2 hA lB2
                    have oB2 := out3_lt R (Nat.le_refl _)
                    rw [← e2] at oB2
                    clear e2
                    replace lB0 := lB0.below hA lB0.lt
                    replace lB1 := lB1.below hA lB1.lt
                    replace R := R.below hA
                    replace pB := pB.below hA pB.lt
                    replace hL := Base.next hL hA
                    replace SV := SV.trans (T := fun _ => False) (Fr.of_below hA) fun _ _ h => h.elim
                    clear hA
                    refine ⟨SV, ?_⟩
                    refine held_wp (i := 3) rfl (by kernel_rfl) (by kernel_rfl) (wp_addR 87 (by kernel_rfl) (s := nw) (v := (.slice za l0.length ka)) (b := some ⟨g0, 0, none⟩) (.tmp 84) (.tmp 86) rfl (by kernel_rfl) R.o1 (by kernel_rfl) (.of (Row.lit_at lB0)) hlen0 ?_)
                    intro y4 x4 A
                    have A1 := A.fr
                    replace SV := SV.trans A1 fun i _ hi => Or.inl hi
                    obtain ⟨R2, keep, hA⟩ := R.add1 hL.size A
                    have pK := keep _ pB.lt hO
                    replace pB := keep_blk pB pK.1
                    replace hO := pK.2
                    have kB1 := keep _ lB1.lt oB1
                    replace lB1 := keep_blk lB1 kB1.1
                    replace oB1 := kB1.2
                    have kB2 := keep _ lB2.lt oB2
                    replace lB2 := keep_blk lB2 kB2.1
                    replace oB2 := kB2.2
                    replace R := R2
                    replace hL := hL.trans hA
                    obtain ⟨z4, k4, rfl, _, _, _⟩ := A.own.read
                    clear keep hA R2 A A1 lB0 oB0
                    refine ⟨SV, ?_⟩
                    refine held_wp (i := 7) rfl (by kernel_rfl) (by kernel_rfl) (wp_addR 91 (by kernel_rfl) (s := n) (v := (.slice zb l1.length kb)) (b := some ⟨g1, 0, none⟩) (.tmp 88) (.tmp 90) rfl (by kernel_rfl) R.o2 (by kernel_rfl) (.of (Row.lit_at lB1)) hlen1 ?_)
                    intro y5 x5 A
                    have A1 := A.fr
                    replace SV := SV.trans A1 fun i _ hi => Or.inr (Or.inl hi)
                    obtain ⟨R2, keep, hA⟩ := R.add2 hL.size A
                    have pK := keep _ pB.lt hO
                    replace pB := keep_blk pB pK.1
                    replace hO := pK.2
                    have kB2 := keep _ lB2.lt oB2
                    replace lB2 := keep_blk lB2 kB2.1
                    replace oB2 := kB2.2
                    replace R := R2
                    replace hL := hL.trans hA
                    obtain ⟨z5, k5, rfl, _, _, _⟩ := A.own.read
                    clear keep hA R2 A A1 lB1 oB1
                    refine ⟨SV, ?_⟩
                    refine held_wp (i := 12) rfl (by kernel_rfl) (by kernel_rfl) (wp_addR 96 (by kernel_rfl) (s := q.rate) (v := (.slice zc l2.length kc)) (b := some ⟨g2, 0, none⟩) (.tmp 92) (.tmp 95) rfl (by kernel_rfl) R.o3 (by kernel_rfl) (.of (Row.lit_at lB2)) hlen2 ?_)
                    intro y6 x6 A
                    have A1 := A.fr
                    replace SV := SV.trans A1 fun i _ hi => Or.inr (Or.inr hi)
                    obtain ⟨R2, keep, hA⟩ := R.add3 hL.size A
                    have pK := keep _ pB.lt hO
                    replace pB := keep_blk pB pK.1
                    replace hO := pK.2
                    replace R := R2
                    replace hL := hL.trans hA
                    obtain ⟨z6, k6, rfl, _, _, _⟩ := A.own.read
                    clear keep hA R2 A A1 lB2 oB2
                    refine ⟨SV, ?_⟩
                    refine h2_take (i := 13) (v := (.slice z4 (l0 ++ [nw]).length k4)) 9 rfl (by kernel_rfl) (by kernel_rfl) (by kernel_rfl) (by kernel_rfl) (fun _ _ _ h => nomatch h.1) (by kernel_rfl) SV (fun v hv => by kernel_rfl) ?_
                    refine h2_take (i := 14) (v := (.slice z5 (l1 ++ [n]).length k5)) 10 rfl (by kernel_rfl) (by kernel_rfl) (by kernel_rfl) (by kernel_rfl) (fun _ _ _ h => nomatch h.1) (by kernel_rfl) SV (fun v hv => by kernel_rfl) ?_
                    refine h2_take (i := 15) (v := (.slice z6 (l2 ++ [q.rate]).length k6)) 11 rfl (by kernel_rfl) (by kernel_rfl) (by kernel_rfl) (by kernel_rfl) (fun _ _ _ h => nomatch h.1) (by kernel_rfl) SV (fun v hv => by kernel_rfl) ?_
                    exact held_done (by kernel_rfl) ⟨rfl, .slice (some ⟨g0, 0, none⟩) 1 1, .slice (some ⟨g1, 0, none⟩) 1 1, .slice (some ⟨g2, 0, none⟩) 1 1, (.slice z4 (l0 ++ [nw]).length k4), (.slice z5 (l1 ++ [n]).length k5), (.slice z6 (l2 ++ [q.rate]).length k6), by kernel_rfl, R, pB, hO, hL⟩
                · refine o2_lit (n := q.rate) (i := 11) 95 (.tmp 94) rfl (by kernel_rfl) (by kernel_rfl) rfl (by kernel_rfl) ?_
                  intro g2 x2 e2 hA lB2
                  have oB2 := out3_lt R (Nat.le_refl _)
                  rw [← e2] at oB2
                  clear e2
                  replace lB0 := lB0.below hA lB0.lt
                  replace R := R.below hA
                  replace pB := pB.below hA pB.lt
                  replace hL := Base.next hL hA
                  replace SV := SV.trans (T := fun _ => False) (Fr.of_below hA) fun _ _ h => h.elim
                  clear hA
                  refine ⟨SV, ?_⟩
                  refine held_two (i := 3) (j := 6) (by kernel_rfl) ?_ ?_
                  · refine o2_wp (i := 3) rfl (by kernel_rfl) (wp_addR 87 (by kernel_rfl) (s := nw) (v := (.slice za l0.length ka)) (b := some ⟨g0, 0, none⟩) (.tmp 84) (.tmp 86) rfl (by kernel_rfl) R.o1 (by kernel_rfl) (.of (Row.lit_at lB0)) hlen0 ?_)
                    intro y3 x3 A
                    have A1 := A.fr
                    replace SV := SV.trans A1 fun i _ hi => Or.inl hi
                    obtain ⟨R2, keep, hA⟩ := R.add1 hL.size A
                    have pK := keep _ pB.lt hO
                    replace pB := keep_blk pB pK.1
                    replace hO := pK.2
                    have kB2 := keep _ lB2.lt oB2
                    replace lB2 := keep_blk lB2 kB2.1
                    replace oB2 := kB2.2
                    replace R := R2
                    replace hL := hL.trans hA
                    obtain ⟨z3, k3, rfl, _, _, _⟩ := A.own.read
                    clear keep hA R2 A A1 lB0 oB0
                    refine ⟨SV, ?_⟩
                    refine h2_lit (n := n) (i := 6) 90 (.tmp 89) rfl (by kernel_rfl) (by kernel_rfl) (by kernel_rfl) rfl (by kernel_rfl) ?_
                    intro g1 x4 e1 hA lB1
                    have oB1 := out3_lt R (Nat.le_refl _)
                    rw [← e1] at oB1
                    clear e1
                    replace lB2 := lB2.below hA lB2.lt
                    replace R := R.below hA
                    replace pB := pB.below hA pB.lt
                    replace hL := Base.next hL hA
                    replace SV := SV.trans (T := fun _ => False) (Fr.of_below hA) fun _ _ h => h.elim
                    clear hA
                    refine ⟨SV, ?_⟩
                    refine held_wp (i := 7) rfl (by kernel_rfl) (by kernel_rfl) (wp_addR 91 (by kernel_rfl) (s := n) (v := (.slice zb l1.length kb)) (b := some ⟨g1, 0, none⟩) (.tmp 88) (.tmp 90) rfl (by kernel_rfl) R.o2 (by kernel_rfl) (.of (Row.lit_at lB1)) hlen1 ?_)
                    intro y5 x5 A
                    have A1 := A.fr
                    replace SV := SV.trans A1 fun i _ hi => Or.inr (Or.inl hi)
                    obtain ⟨R2, keep, hA⟩ := R.add2 hL.size A
                    have pK := keep _ pB.lt hO
                    replace pB := keep_blk pB pK.1
                    replace hO := pK.2
                    have kB2 := keep _ lB2.lt oB2
                    replace lB2 := keep_blk lB2 kB2.1
                    replace oB2 := kB2.2
                    replace R := R2
                    replace hL := hL.trans hA
                    obtain ⟨z5, k5, rfl, _, _, _⟩ := A.own.read
                    clear keep hA R2 A A1 lB1 oB1
                    refine ⟨SV, ?_⟩
                    refine held_wp (i := 12) rfl (by kernel_rfl) (by kernel_rfl) (wp_addR 96 (by kernel_rfl) (s := q.rate) (v := (.slice zc l2.length kc)) (b := some ⟨g2, 0, none⟩) (.tmp 92) (.tmp 95) rfl (by kernel_rfl) R.o3 (by kernel_rfl) (.of (Row.lit_at lB2)) hlen2 ?_)
                    intro y6 x6 A
                    have A1 := A.fr
                    replace SV := SV.trans A1 fun i _ hi => Or.inr (Or.inr hi)
                    obtain ⟨R2, keep, hA⟩ := R.add3 hL.size A
                    have pK := keep _ pB.lt hO
                    replace pB := keep_blk pB pK.1
                    replace hO := pK.2
                    replace R := R2
                    replace hL := hL.trans hA
                    obtain ⟨z6, k6, rfl, _, _, _⟩ := A.own.read
                    clear keep hA R2 A A1 lB2 oB2
                    refine ⟨SV, ?_⟩
                    refine h2_take (i := 13) (v := (.slice z3 (l0 ++ [nw]).length k3)) 9 rfl (by kernel_rfl) (by kernel_rfl) (by kernel_rfl) (by kernel_rfl) (fun _ _ _ h => nomatch h.1) (by kernel_rfl) SV (fun v hv => by kernel_rfl) ?_
                    refine h2_take (i := 14) (v := (.slice z5 (l1 ++ [n]).length k5)) 10 rfl (by kernel_rfl) (by kernel_rfl) (by kernel_rfl) (by kernel_rfl) (fun _ _ _ h => nomatch h.1) (by kernel_rfl) SV (fun v hv => by kernel_rfl) ?_
                    refine h2_take (i := 15) (v := (.slice z6 (l2 ++ [q.rate]).length k6)) 11 rfl (by kernel_rfl) (by kernel_rfl) (by kernel_rfl) (by kernel_rfl) (fun _ _ _ h => nomatch h.1) (by kernel_rfl) SV (fun v hv => by kernel_rfl) ?_
                    exact held_done (by kernel_rfl) ⟨rfl, .slice (some ⟨g0, 0, none⟩) 1 1, .slice (some ⟨g1, 0, none⟩) 1 1, .slice (some ⟨g2, 0, none⟩) 1 1, (.slice z3 (l0 ++ [nw]).length k3), (.slice z5 (l1 ++ [n]).length k5), (.slice z6 (l2 ++ [q.rate]).length k6), by kernel_rfl, R, pB, hO, hL⟩
                  · refine o2_lit (n := n) (i := 6) 90 (.tmp 89) rfl (by kernel_rfl) (by kernel_rfl) rfl (by kernel_rfl) ?_
                    intro g1 x3 e1 hA lB1
                    have oB1 := out3_lt R (Nat.le_refl _)
                    rw [← e1] at oB1
                    clear e1
                    replace lB0 := lB0.below hA lB0.lt
                    replace lB2 := lB2.below hA lB2.lt
                    replace R := R.below hA
                    replace pB := pB.below hA pB.lt
                    replace hL := Base.next hL hA
                    replace SV := SV.trans (T := fun _ => False) (Fr.of_below hA) fun _ _ h => h.elim
                    clear hA
                    refine ⟨SV, ?_⟩
                    refine held_wp (i := 3) rfl (by kernel_rfl) (by kernel_rfl) (wp_addR 87 (by kernel_rfl) (s := nw) (v := (.slice za l0.length ka)) (b := some ⟨g0, 0, none⟩) (.tmp 84) (.tmp 86) rfl (by kernel_rfl) R.o1 (by kernel_rfl) (.of (Row.lit_at lB0)) hlen0 ?_)
                    intro y4 x4 A
                    have A1 := A.fr
                    replace SV := SV.trans A1 fun i _ hi => Or.inl hi
                    obtain ⟨R2, keep, hA⟩ := R.add1 hL.size A
                    have pK := keep _ pB.lt hO
                    replace pB := keep_blk pB pK.1
                    replace hO := pK.2
                    have kB2 := keep _ lB2.lt oB2
                    replace lB2 := keep_blk lB2 kB2.1
                    replace oB2 := kB2.2
                    have kB1 := keep _ lB1.lt oB1
                    replace lB1 := keep_blk lB1 kB1.1
                    replace oB1 := kB1.2
                    replace R := R2
                    replace hL := hL.trans hA
                    obtain ⟨z4, k4, rfl, _, _, _⟩ := A.own.read
                    clear keep hA R2 A A1 lB0 oB0
                    refine ⟨SV, ?_⟩
                    refine held_wp (i := 7) rfl (by kernel_rfl) (by kernel_rfl) (wp_addR 91 (by kernel_rfl) (s := n) (v := (.slice zb l1.length kb)) (b := some ⟨g1, 0, none⟩) (.tmp 88) (.tmp 90) rfl (by kernel_rfl) R.o2 (by kernel_rfl) (.of (Row.lit_at lB1)) hlen1 ?_)
                    intro y5 x5 A
                    have A1 := A.fr
                    replace SV := SV.trans A1 fun i _ hi => Or.inr (Or.inl hi)
                    obtain ⟨R2, keep, hA⟩ := R.add2 hL.size A
                    have pK := keep _ pB.lt hO
                    replace pB := keep_blk pB pK.1
                    replace hO := pK.2
                    have kB2 := keep _ lB2.lt oB2
                    replace lB2 := keep_blk lB2 kB2.1
                    replace oB2 := kB2.2
                    replace R := R2
                    replace hL := hL.trans hA
                    obtain ⟨z5, k5, rfl, _, _, _⟩ := A.own.read
                    clear keep hA R2 A A1 lB1 oB1
                    refine ⟨SV, ?_⟩
                    refine held_wp (i := 12) rfl (by kernel_rfl) (by kernel_rfl) (wp_addR 96 (by kernel_rfl) (s := q.rate) (v := (.slice zc l2.length kc)) (b := some ⟨g2, 0, none⟩) (.tmp 92) (.tmp 95) rfl (by kernel_rfl) R.o3 (by kernel_rfl) (.of (Row.lit_at lB2)) hlen2 ?_)
                    intro y6 x6 A
                    have A1 := A.fr
                    replace SV := SV.trans A1 fun i _ hi => Or.inr (Or.inr hi)
                    obtain ⟨R2, keep, hA⟩ := R.add3 hL.size A
                    have pK := keep _ pB.lt hO
                    replace pB := keep_blk pB pK.1
                    replace hO := pK.2
                    replace R := R2
                    replace hL := hL.trans hA
                    obtain ⟨z6, k6, rfl, _, _, _⟩ := A.own.read
                    clear keep hA R2 A A1 lB2 oB2
                    refine ⟨SV, ?_⟩
                    refine h2_take (i := 13) (v := (.slice z4 (l0 ++ [nw]).length k4)) 9 rfl (by kernel_rfl) (by kernel_rfl) (by kernel_rfl) (by kernel_rfl) (fun _ _ _ h => nomatch h.1) (by kernel_rfl) SV (fun v hv => by kernel_rfl) ?_
                    refine h2_take (i := 14) (v := (.slice z5 (l1 ++ [n]).length k5)) 10 rfl (by kernel_rfl) (by kernel_rfl) (by kernel_rfl) (by kernel_rfl) (fun _ _ _ h => nomatch h.1) (by kernel_rfl) SV (fun v hv => by kernel_rfl) ?_
                    refine h2_take (i := 15) (v := (.slice z6 (l2 ++ [q.rate]).length k6)) 11 rfl (by kernel_rfl) (by kernel_rfl) (by kernel_rfl) (by kernel_rfl) (fun _ _ _ h => nomatch h.1) (by kernel_rfl) SV (fun v hv => by kernel_rfl) ?_
                    exact held_done (by kernel_rfl) ⟨rfl, .slice (some ⟨g0, 0, none⟩) 1 1, .slice (some ⟨g1, 0, none⟩) 1 1, .slice (some ⟨g2, 0, none⟩) 1 1, (.slice z4 (l0 ++ [nw]).length k4), (.slice z5 (l1 ++ [n]).length k5), (.slice z6 (l2 ++ [q.rate]).length k6), by kernel_rfl, R, pB, hO, hL⟩
              · refine o2_lit (n := n) (i := 6) 90 (.tmp 89) rfl (by kernel_rfl) (by kernel_rfl) rfl (by kernel_rfl) ?_
                intro g1 x1 e1 hA lB1
                have oB1 := out3_lt R (Nat.le_refl _)
                rw [← e1] at oB1
                clear e1
                replace R := R.below hA
                replace pB := pB.below hA pB.lt
                replace hL := Base.next hL hA
                replace SV := SV.trans (T := fun _ => False) (Fr.of_below hA) fun _ _ h => h.elim
                clear hA
                refine ⟨SV, ?_⟩
                refine held_two (i := 2) (j := 11) (by kernel_rfl) ?_ ?_
                · refine o2_lit (n := nw) (i := 2) 86 (.tmp 85) rfl (by kernel_rfl) (by kernel_rfl) rfl (by kernel_rfl) ?_
                  intro g0 x2 e0 hA lB0
                  have oB0 := out3_lt R (Nat.le_refl _)
                  rw [← e0] at oB0
                  clear e0
                  replace lB1 := lB1.below hA lB1.lt
                  replace R := R.below hA
                  replace pB := pB.below hA pB.lt
                  replace hL := Base.next hL hA
                  replace SV := SV.trans (T := fun _ => False) (Fr.of_below hA) fun _ _ h => h.elim
                  clear hA
                  refine ⟨SV, ?_⟩
                  refine held_two (i := 3) (j := 11) (by kernel_rfl) ?_ ?_
                  · refine o2_wp (i := 3) rfl (by kernel_rfl) (wp_addR 87 (by kernel_rfl) (s := nw) (v := (.slice za l0.length ka)) (b := some ⟨g0, 0, none⟩) (.tmp 84) (.tmp 86) rfl (by kernel_rfl) R.o1 (by kernel_rfl) (.of (Row.lit_at lB0)) hlen0 ?_)
                    intro y3 x3 A
                    have A1 := A.fr
                    replace SV := SV.trans A1 fun i _ hi => Or.inl hi
                    obtain ⟨R2, keep, hA⟩ := R.add1 hL.size A
                    have pK := keep _ pB.lt hO
                    replace pB := keep_blk pB pK.1
                    replace hO := pK.2
                    have kB1 := keep _ lB1.lt oB1
                    replace lB1 := keep_blk lB1 kB1.1
                    replace oB1 := kB1.2
                    replace R := R2
                    replace hL := hL.trans hA
                    obtain ⟨z3, k3, rfl, _, _, _⟩ := A.own.read
                    clear keep hA R2 A A1 lB0 oB0
                    refine ⟨SV, ?_⟩
                    refine held_two (i := 7) (j := 11) (by kernel_rfl) ?_ ?_
                    · refine o2_wp (i := 7) rfl (by kernel_rfl) (wp_addR 91 (by kernel_rfl) (s := n) (v := (.slice zb l1.length kb)) (b := some ⟨g1, 0, none⟩) (.tmp 88) (.tmp 90) rfl (by kernel_rfl) R.o2 (by kernel_rfl) (.of (Row.lit_at lB1)) hlen1 ?_)
                      intro y4 x4 A
                      have A1 := A.fr
                      replace SV := SV.trans A1 fun i _ hi => Or.inr (Or.inl hi)
                      obtain ⟨R2, keep, hA⟩ := R.add2 hL.size A
                      have pK := keep _ pB.lt hO
                      replace pB := keep_blk pB pK.1
                      replace hO := pK.2
                      replace R := R2
                      replace hL := hL.trans hA
                      obtain ⟨z4, k4, rfl, _, _, _⟩ := A.own.read
                      clear keep hA R2 A A1 lB1 oB1
                      refine ⟨SV, ?_⟩
                      refine h2_lit (n := q.rate) (i := 11) 95 (.tmp 94) rfl (by kernel_rfl) (by kernel_rfl) (by kernel_rfl) rfl (by kernel_rfl) ?_
                      intro g2 x5 e2 hA lB2
                      have oB2 := out3_lt R (Nat.le_refl _)
                      rw [← e2] at oB2
                      clear e2
                      replace R := R.below hA
                      replace pB := pB.below hA pB.lt
                      replace hL := Base.next hL hA
                      replace SV := SV.trans (T := fun _ => False) (Fr.of_below hA) fun _ _ h => h.elim
                      clear hA
                      refine ⟨SV, ?_⟩
                      refine held_wp (i := 12) rfl (by kernel_rfl) (by kernel_rfl) (wp_addR 96 (by kernel_rfl) (s := q.rate) (v := (.slice zc l2.length kc)) (b := some ⟨g2, 0, none⟩) (.tmp 92) (.tmp 95) rfl (by kernel_rfl) R.o3 (by kernel_rfl) (.of (Row.lit_at lB2)) hlen2 ?_)
                      intro y6 x6 A
                      have A1 := A.fr
                      replace SV := SV.trans A1 fun i _ hi => Or.inr (Or.inr hi)
                      obtain ⟨R2, keep, hA⟩ := R.add3 hL.size A
                      have pK := keep _ pB.lt hO
                      replace pB := keep_blk pB pK.1
                      replace hO := pK.2
                      replace R := R2
                      replace hL := hL.trans hA
                      obtain ⟨z6, k6, rfl, _, _, _⟩ := A.own.read
                      clear keep hA R2 A A1 lB2 oB2
                      refine ⟨SV, ?_⟩
                      refine h2_take (i := 13) (v := (.slice z3 (l0 ++ [nw]).length k3)) 9 rfl (by kernel_rfl) (by kernel_rfl) (by kernel_rfl) (by kernel_rfl) (fun _ _ _ h => nomatch h.1) (by kernel_rfl) SV (fun v hv => by kernel_rfl) ?_
                      refine h2_take (i := 14) (v := (.slice z4 (l1 ++ [n]).length k4)) 10 rfl (by kernel_rfl) (by kernel_rfl) (by kernel_rfl) (by kernel_rfl) (fun _ _ _ h => nomatch h.1) (by kernel_rfl) SV (fun v hv => by kernel_rfl) ?_
                      refine h2_take (i := 15) (v := (.slice z6 (l2 ++ [q.rate]).length k6)) 11 rfl (by kernel_rfl) (by kernel_rfl) (by kernel_rfl) (by kernel_rfl) (fun _ _ _ h => nomatch h.1) (by kernel_rfl) SV (fun v hv => by kernel_rfl) ?_
                      exact held_done (by kernel_rfl) ⟨rfl, .slice (some ⟨g0, 0, none⟩) 1 1, .slice (some ⟨g1, 0, none⟩) 1 1, .slice (some ⟨g2, 0, none⟩) 1 1, (.slice z3 (l0 ++ [nw]).length k3), (.slice z4 (l1 ++ [n]).length k4), (.slice z6 (l2 ++ [q.rate]).length k6), by kernel_rfl, R, pB, hO, hL⟩
                    · refine o2_lit (n := q.rate) (i := 11) 95 (.tmp 94) rfl (by kernel_rfl) (by kernel_rfl) rfl (by kernel_rfl) ?_
                      intro g2 x4 e2 hA lB2
                      have oB2 := out3_lt R (Nat.le_refl _)
                      rw [← e2] at oB2
                      clear e2
                      replace lB1 := lB1.below hA lB1.lt
                      replace R := R.below hA
                      replace pB := pB.below hA pB.lt
                      replace hL := Base.next hL hA
                      replace SV := SV.trans (T := fun _ => False) (Fr.of_below hA) fun _ _ h => h.elim
                      clear hA
                      refine ⟨SV, ?_⟩
                      refine held_wp (i := 7) rfl (by kernel_rfl) (by kernel_rfl) (wp_addR 91 (by kernel_rfl) (s := n) (v := (.slice zb l1.length kb)) (b := some ⟨g1, 0, none⟩) (.tmp 88) (.tmp 90) rfl (by kernel_rfl) R.o2 (by kernel_rfl) (.of (Row.lit_at lB1)) hlen1 ?_)
                      intro y5 x5 A
                      have A1 := A.fr
                      replace SV := SV.trans A1 fun i _ hi => Or.inr (Or.inl hi)
                      obtain ⟨R2, keep, hA⟩ := R.add2 hL.size A
                      have pK := keep _ pB.lt hO
                      replace pB := keep_blk pB pK.1
                      replace hO := pK.2
                      have kB2 := keep _ lB2.lt oB2
                      replace lB2 := keep_blk lB2 kB2.1
                      replace oB2 := kB2.2
                      replace R := R2
                      replace hL := hL.trans hA
                      obtain ⟨z5, k5, rfl, _, _, _⟩ := A.own.read
                      clear keep hA R2 A A1 lB1 oB1
                      refine ⟨SV, ?_⟩
                      refine held_wp (i := 12) rfl (by kernel_rfl) (by kernel_rfl) (wp_addR 96 (by kernel_rfl) (s := q.rate) (v := (.slice zc l2.length kc)) (b := some ⟨g2, 0, none⟩) (.tmp 92) (.tmp 95) rfl (by kernel_rfl) R.o3 (by kernel_rfl) (.of (Row.lit_at lB2)) hlen2 ?_)
                      intro y6 x6 A
                      have A1 := A.fr
                      replace SV := SV.trans A1 fun i _ hi => Or.inr (Or.inr hi)
                      obtain ⟨R2, keep, hA⟩ := R.add3 hL.size A
                      have pK := keep _ pB.lt hO
                      replace pB := keep_blk pB pK.1
                      replace hO := pK.2
                      replace R := R2
                      replace hL := hL.trans hA
                      obtain ⟨z6, k6, rfl, _, _, _⟩ := A.own.read
                      clear keep hA R2 A A1 lB2 oB2
                      refine ⟨SV, ?_⟩
                      refine h2_take (i := 13) (v := (.slice z3 (l0 ++ [nw]).length k3)) 9 rfl (by kernel_rfl) (by kernel_rfl) (by kernel_rfl) (by kernel_rfl) (fun _ _ _ h => nomatch h.1) (by kernel_rfl) SV (fun v hv => by kernel_rfl) ?_
                      refine h2_take (i := 14) (v := (.slice z5 (l1 ++ [n]).length k5)) 10 rfl (by kernel_rfl) (by kernel_rfl) (by kernel_rfl) (by kernel_rfl) (fun _ _ _ h => nomatch h.1) (by kernel_rfl) SV (fun v hv => by kernel_rfl) ?_
                      refine h2_take (i := 15) (v := (.slice z6 (l2 ++ [q.rate]).length k6)) 11 rfl (by kernel_rfl) (by kernel_rfl) (by kernel_rfl) (by kernel_rfl) (fun _ _ _ h => nomatch h.1) (by kernel_rfl) SV (fun v hv => by kernel_rfl) ?_
                      exact held_done (by kernel_rfl) ⟨rfl, .slice (some ⟨g0, 0, none⟩) 1 1, .slice (some ⟨g1, 0, none⟩) 1 1, .slice (some ⟨g2, 0, none⟩) 1 1, (.slice z3 (l0 ++ [nw]).length k3), (.slice z5 (l1 ++ [n]).length k5), (.slice z6 (l2 ++ [q.rate]).length k6), by kernel_rfl, R, pB, hO, hL⟩
                  · refine o2_lit (n := q.rate) (i := 11) 95 (.tmp 94) rfl (by kernel_rfl) (by kernel_rfl) rfl (by kernel_rfl) ?_
                    intro g2 x3 e2 hA lB2
                    have oB2 := out3_lt R (Nat.le_refl _)
                    rw [← e2] at oB2
                    clear e2
                    replace lB1 := lB1.below hA lB1.lt
                    replace lB0 := lB0.below hA lB0.lt
                    replace R := R.below hA
                    replace pB := pB.below hA pB.lt
                    replace hL := Base.next hL hA
                    replace SV := SV.trans (T := fun _ => False) (Fr.of_below hA) fun _ _ h => h.elim
                    clear hA
                    refine ⟨SV, ?_⟩
                    refine held_wp (i := 3) rfl (by kernel_rfl) (by kernel_rfl) (wp_addR 87 (by kernel_rfl) (s := nw) (v := (.slice za l0.length ka)) (b := some ⟨g0, 0, none⟩) (.tmp 84) (.tmp 86) rfl (by kernel_rfl) R.o1 (by kernel_rfl) (.of (Row.lit_at lB0)) hlen0 ?_)
                    intro y4 x4 A
                    have A1 := A.fr
                    replace SV := SV.trans A1 fun i _ hi => Or.inl hi
                    obtain ⟨R2, keep, hA⟩ := R.add1 hL.size A
                    have pK := keep _ pB.lt hO
                    replace pB := keep_blk pB pK.1
                    replace hO := pK.2
                    have kB1 := keep _ lB1.lt oB1
                    replace lB1 := keep_blk lB1 kB1.1
                    replace oB1 := kB1.2
                    have kB2 := keep _ lB2.lt oB2
                    replace lB2 := keep_blk lB2 kB2.1
                    replace oB2 := kB2.2
                    replace R := R2
                    replace hL := hL.trans hA
                    obtain ⟨z4, k4, rfl, _, _, _⟩ := A.own.read
                    clear keep hA R2 A A1 lB0 oB0
                    refine ⟨SV, ?_⟩
                    refine held_wp (i := 7) rfl (by kernel_rfl) (by kernel_rfl) (wp_addR 91 (by kernel_rfl) (s := n) (v := (.slice zb l1.length kb)) (b := some ⟨g1, 0, none⟩) (.tmp 88) (.tmp 90) rfl (by kernel_rfl) R.o2 (by kernel_rfl) (.of (Row.lit_at lB1)) hlen1 ?_)
                    intro y5 x5 A
                    have A1 := A.fr
                    replace SV := SV.trans A1 fun i _ hi => Or.inr (Or.inl hi)
                    obtain ⟨R2, keep, hA⟩ := R.add2 hL.size A
                    have pK := keep _ pB.lt hO
                    replace pB := keep_blk pB pK.1
                    replace hO := pK.2
                    have kB2 := keep _ lB2.lt oB2
                    replace lB2 := keep_blk lB2 kB2.1
                    replace oB2 := kB2.2
                    replace R := R2
                    replace hL := hL.trans hA
                    obtain ⟨z5, k5, rfl, _, _, _⟩ := A.own.read
                    clear keep hA R2 A A1 lB1 oB1
                    refine ⟨SV, ?_⟩
                    refine held_wp (i := 12) rfl (by kernel_rfl) (by kernel_rfl) (wp_addR 96 (by kernel_rfl) (s := q.rate) (v := (.slice zc l2.length kc)) (b := some ⟨g2, 0, none⟩) (.tmp 92) (.tmp 95) rfl (by kernel_rfl) R.o3 (by kernel_rfl) (.of (Row.lit_at lB2)) hlen2 ?_)
                    intro y6 x6 A
                    have A1 := A.fr
                    replace SV := SV.trans A1 fun i _ hi => Or.inr (Or.inr hi)
                    obtain ⟨R2, keep, hA⟩ := R.add3 hL.size A
                    have pK := keep _ pB.lt hO
                    replace pB := keep_blk pB pK.1
                    replace hO := pK.2
                    replace R := R2
                    replace hL := hL.trans hA
                    obtain ⟨z6, k6, rfl, _, _, _⟩ := A.own.read
                    clear keep hA R2 A A1 lB2 oB2
                    refine ⟨SV, ?_⟩
                    refine h2_take (i := 13) (v := (.slice z4 (l0 ++ [nw]).length k4)) 9 rfl (by kernel_rfl) (by kernel_rfl) (by kernel_rfl) (by kernel_rfl) (fun _ _ _ h => nomatch h.1) (by kernel_rfl) SV (fun v hv => by kernel_rfl) ?_
                    refine h2_take (i := 14) (v := (.slice z5 (l1 ++ [n]).length k5)) 10 rfl (by kernel_rfl) (by kernel_rfl) (by kernel_rfl) (by kernel_rfl) (fun _ _ _ h => nomatch h.1) (by kernel_rfl) SV (fun v hv => by kernel_rfl) ?_
                    refine h2_take (i := 15) (v := (.slice z6 (l2 ++ [q.rate]).length k6)) 11 rfl (by kernel_rfl) (by kernel_rfl) (by kernel_rfl) (by kernel_rfl) (fun _ _ _ h => nomatch h.1) (by kernel_rfl) SV (fun v hv => by kernel_rfl) ?_
                    exact held_done (by kernel_rfl) ⟨rfl, .slice (some ⟨g0, 0, none⟩) 1 1, .slice (some ⟨g1, 0, none⟩) 1 1, .slice (some ⟨g2, 0, none⟩) 1 1, (.slice z4 (l0 ++ [nw]).length k4), (.slice z5 (l1 ++ [n]).length k5), (.slice z6 (l2 ++ [q.rate]).length k6), by kernel_rfl, R, pB, hO, hL⟩
                · refine o2_lit (n := q.rate) (i := 11) 95 (.tmp 94) rfl (by kernel_rfl) (by kernel_rfl) rfl (by kernel_rfl) ?_
                  intro g2 x2 e2 hA lB2
                  have oB2 := out3_lt R (Nat.le_refl _)
                  rw [← e2] at oB2
                  clear e2
                  replace lB1 := lB1.below hA lB1.lt
                  replace R := R.below hA
                  replace pB := pB.below hA pB.lt
                  replace hL := Base.next hL hA
                  replace SV := SV.trans (T := fun _ => False) (Fr.of_below hA) fun _ _ h => h.elim
                  clear hA
                  refine ⟨SV, ?_⟩
                  refine h2_lit (n := nw) (i := 2) 86 (.tmp 85) rfl (by kernel_rfl) (by kernel_rfl) (by kernel_rfl) rfl (by kernel_rfl) ?_
                  intro g0 x3 e0 hA lB0
                  have oB0 := out3_lt R (Nat.le_refl _)
                  rw [← e0] at oB0
                  clear e0
                  replace lB1 := lB1.below hA lB1.lt
                  replace lB2 := lB2.below hA lB2.lt
                  replace R := R.below hA
                  replace pB := pB.below hA pB.lt
                  replace hL := Base.next hL hA
                  replace SV := SV.trans (T := fun _ => False) (Fr.of_below hA) fun _ _ h => h.elim
                  clear hA
                  refine ⟨SV, ?_⟩
                  refine held_wp (i := 3) rfl (by kernel_rfl) (by kernel_rfl) (wp_addR 87 (by kernel_rfl) (s := nw) (v := (.slice za l0.length ka)) (b := some ⟨g0, 0, none⟩) (.tmp 84) (.tmp 86) rfl (by kernel_rfl) R.o1 (by kernel_rfl) (.of (Row.lit_at lB0)) hlen0 ?_)
                  intro y4 x4 A
                  have A1 := A.fr
                  replace SV := SV.trans A1 fun i _ hi => Or.inl hi
                  obtain ⟨R2, keep, hA⟩ := R.add1 hL.size A
                  have pK := keep _ pB.lt hO
                  replace pB := keep_blk pB pK.1
                  replace hO := pK.2
                  have kB1 := keep _ lB1.lt oB1
                  replace lB1 := keep_blk lB1 kB1.1
                  replace oB1 := kB1.2
                  have kB2 := keep _ lB2.lt oB2
                  replace lB2 := keep_blk lB2 kB2.1
                  replace oB2 := kB2.2
                  replace R := R2
                  replace hL := hL.trans hA
                  obtain ⟨z4, k4, rfl, _, _, _⟩ := A.own.read
                  clear keep hA R2 A A1 lB0 oB0
                  refine ⟨SV, ?_⟩
                  refine held_wp (i := 7) rfl (by kernel_rfl) (by kernel_rfl) (wp_addR 91 (by kernel_rfl) (s := n) (v := (.slice zb l1.length kb)) (b := some ⟨g1, 0, none⟩) (.tmp 88) (.tmp 90) rfl (by kernel_rfl) R.o2 (by kernel_rfl) (.of (Row.lit_at lB1)) hlen1 ?_)
                  intro y5 x5 A
                  have A1 := A.fr
                  replace SV := SV.trans A1 fun i _ hi => Or.inr (Or.inl hi)
                  obtain ⟨R2, keep, hA⟩ := R.add2 hL.size A
                  have pK := keep _ pB.lt hO
                  replace pB := keep_blk pB pK.1
                  replace hO := pK.2
                  have kB2 := keep _ lB2.lt oB2
                  replace lB2 := keep_blk lB2 kB2.1
                  replace oB2 := kB2.2
                  replace R := R2
                  replace hL := hL.trans hA
                  obtain ⟨z5, k5, rfl, _, _, _⟩ := A.own.read
                  clear keep hA R2 A A1 lB1 oB1
                  refine ⟨SV, ?_⟩
                  refine held_wp (i := 12) rfl (by kernel_rfl) (by kernel_rfl) (wp_addR 96 (by kernel_rfl) (s := q.rate) (v := (.slice zc l2.length kc)) (b := some ⟨g2, 0, none⟩) (.tmp 92) (.tmp 95) rfl (by kernel_rfl) R.o3 (by kernel_rfl) (.of (Row.lit_at lB2)) hlen2 ?_)
                  intro y6 x6 A
                  have A1 := A.fr
                  replace SV := SV.trans A1 fun i _ hi => Or.inr (Or.inr hi)
                  obtain ⟨R2, keep, hA⟩ := R.add3 hL.size A
                  have pK := keep _ pB.lt hO
                  replace pB := keep_blk pB pK.1
                  replace hO := pK.2
                  replace R := R2
                  replace hL := hL.trans hA
                  obtain ⟨z6, k6, rfl, _, _, _⟩ := A.own.read
                  clear keep hA R2 A A1 lB2 oB2
                  refine ⟨SV, ?_⟩
                  refine h2_take (i := 13) (v := (.slice z4 (l0 ++ [nw]).length k4)) 9 rfl (by kernel_rfl) (by kernel_rfl) (by kernel_rfl) (by kernel_rfl) (fun _ _ _ h => nomatch h.1) (by kernel_rfl) SV (fun v hv => by kernel_rfl) ?_
                  refine h2_take (i := 14) (v := (.slice z5 (l1 ++ [n]).length k5)) 10 rfl (by kernel_rfl) (by kernel_rfl) (by kernel_rfl) (by kernel_rfl) (fun _ _ _ h => nomatch h.1) (by kernel_rfl) SV (fun v hv => by kernel_rfl) ?_
                  refine h2_take (i := 15) (v := (.slice z6 (l2 ++ [q.rate]).length k6)) 11 rfl (by kernel_rfl) (by kernel_rfl) (by kernel_rfl) (by kernel_rfl) (fun _ _ _ h => nomatch h.1) (by kernel_rfl) SV (fun v hv => by kernel_rfl) ?_
                  exact held_done (by kernel_rfl) ⟨rfl, .slice (some ⟨g0, 0, none⟩) 1 1, .slice (some ⟨g1, 0, none⟩) 1 1, .slice (some ⟨g2, 0, none⟩) 1 1, (.slice z4 (l0 ++ [nw]).length k4), (.slice z5 (l1 ++ [n]).length k5), (.slice z6 (l2 ++ [q.rate]).length k6), by kernel_rfl, R, pB, hO, hL⟩
              · refine o2_lit (n := q.rate) (i := 11) 95 (.tmp 94) rfl (by kernel_rfl) (by kernel_rfl) rfl (by kernel_rfl) ?_
                intro g2 x1 e2 hA lB2
                have oB2 := out3_lt R (Nat.le_refl _)
                rw [← e2] at oB2
                clear e2
                replace R := R.below hA
                replace pB := pB.below hA pB.lt
                replace hL := Base.next hL hA
                replace SV := SV.trans (T := fun _ => False) (Fr.of_below hA) fun _ _ h => h.elim
                clear hA
                refine ⟨SV, ?_⟩
                refine held_two (i := 2) (j := 6) (by kernel_rfl) ?_ ?_
                · refine o2_lit (n := nw) (i := 2) 86 (.tmp 85) rfl (by kernel_rfl) (by kernel_rfl) rfl (by kernel_rfl) ?_
                  intro g0 x2 e0 hA lB0
                  have oB0 := out3_lt R (Nat.le_refl _)
                  rw [← e0] at oB0
                  clear e0
                  replace lB2 := lB2.below hA lB2.lt
                  replace R := R.below hA
                  replace pB := pB.below hA pB.lt
                  replace hL := Base.next hL hA
                  replace SV := SV.trans (T := fun _ => False) (Fr.of_below hA) fun _ _ h => h.elim
                  clear hA
                  refine ⟨SV, ?_⟩
                  refine held_two (i := 3) (j := 6) (by kernel_rfl) ?_ ?_
                  · refine o2_wp (i := 3) rfl (by kernel_rfl) (wp_addR 87 (by kernel_rfl) (s := nw) (v := (.slice za l0.length ka)) (b := some ⟨g0, 0, none⟩) (.tmp 84) (.tmp 86) rfl (by kernel_rfl) R.o1 (by kernel_rfl) (.of (Row.lit_at lB0)) hlen0 ?_)
                    intro y3 x3 A
                    have A1 := A.fr
                    replace SV := SV.trans A1 fun i _ hi => Or.inl hi
                    obtain ⟨R2, keep, hA⟩ := R.add1 hL.size A
                    have pK := keep _ pB.lt hO
                    replace pB := keep_blk pB pK.1
                    replace hO := pK.2
                    have kB2 := keep _ lB2.lt oB2
                    replace lB2 := keep_blk lB2 kB2.1
                    replace oB2 := kB2.2
                    replace R := R2
                    replace hL := hL.trans hA
                    obtain ⟨z3, k3, rfl, _, _, _⟩ := A.own.read
                    clear keep hA R2 A A1 lB0 oB0
                    refine ⟨SV, ?_⟩
                    refine h2_lit (n := n) (i := 6) 90 (.tmp 89) rfl (by kernel_rfl) (by kernel_rfl) (by kernel_rfl) rfl (by kernel_rfl) ?_
                    intro g1 x4 e1 hA lB1
                    have oB1 := out3_lt R (Nat.le_refl _)
                    rw [← e1] at oB1
                    clear e1
                    replace lB2 := lB2.below hA lB2.lt
                    replace R := R.below hA
                    replace pB := pB.below hA pB.lt
                    replace hL := Base.next hL hA
                    replace SV := SV.trans (T := fun _ => False) (Fr.of_below hA) fun _ _ h => h.elim
                    clear hA
                    refine ⟨SV, ?_⟩
                    refine held_wp (i := 7) rfl (by kernel_rfl) (by kernel_rfl) (wp_addR 91 (by kernel_rfl) (s := n) (v := (.slice zb l1.length kb)) (b := some ⟨g1, 0, none⟩) (.tmp 88) (.tmp 90) rfl (by kernel_rfl) R.o2 (by kernel_rfl) (.of (Row.lit_at lB1)) hlen1 ?_)
                    intro y5 x5 A
                    have A1 := A.fr
                    replace SV := SV.trans A1 fun i _ hi => Or.inr (Or.inl hi)
                    obtain ⟨R2, keep, hA⟩ := R.add2 hL.size A
                    have pK := keep _ pB.lt hO
                    replace pB := keep_blk pB pK.1
                    replace hO := pK.2
                    have kB2 := keep _ lB2.lt oB2
                    replace lB2 := keep_blk lB2 kB2.1
                    replace oB2 := kB2.2
                    replace R := R2
                    replace hL := hL.trans hA
                    obtain ⟨z5, k5, rfl, _, _, _⟩ := A.own.read
                    clear keep hA R2 A A1 lB1 oB1
                    refine ⟨SV, ?_⟩
                    refine held_wp (i := 12) rfl (by kernel_rfl) (by kernel_rfl) (wp_addR 96 (by kernel_rfl) (s := q.rate) (v := (.slice zc l2.length kc)) (b := some ⟨g2, 0, none⟩) (.tmp 92) (.tmp 95) rfl (by kernel_rfl) R.o3 (by kernel_rfl) (.of (Row.lit_at lB2)) hlen2 ?_)
                    intro y6 x6 A
                    have A1 := A.fr
                    replace SV := SV.trans A1 fun i _ hi => Or.inr (Or.inr hi)
                    obtain ⟨R2, keep, hA⟩ := R.add3 hL.size A
                    have pK := keep _ pB.lt hO
                    replace pB := keep_blk pB pK.1
                    replace hO := pK.2
                    replace R := R2
                    replace hL := hL.trans hA
                    obtain ⟨z6, k6, rfl, _, _, _⟩ := A.own.read
                    clear keep hA R2 A A1 lB2 oB2
                    refine ⟨SV, ?_⟩
                    refine h2_take (i := 13) (v := (.slice z3 (l0 ++ [nw]).length k3)) 9 rfl (by kernel_rfl) (by kernel_rfl) (by kernel_rfl) (by kernel_rfl) (fun _ _ _ h => nomatch h.1) (by kernel_rfl) SV (fun v hv => by kernel_rfl) ?_
                    refine h2_take (i := 14) (v := (.slice z5 (l1 ++ [n]).length k5)) 10 rfl (by kernel_rfl) (by kernel_rfl) (by kernel_rfl) (by kernel_rfl) (fun _ _ _ h => nomatch h.1) (by kernel_rfl) SV (fun v hv => by kernel_rfl) ?_
                    refine h2_take (i := 15) (v := (.slice z6 (l2 ++ [q.rate]).length k6)) 11 rfl (by kernel_rfl) (by kernel_rfl) (by kernel_rfl) (by kernel_rfl) (fun _ _ _ h => nomatch h.1) (by kernel_rfl) SV (fun v hv => by kernel_rfl) ?_
                    exact held_done (by kernel_rfl) ⟨rfl, .slice (some ⟨g0, 0, none⟩) 1 1, .slice (some ⟨g1, 0, none⟩) 1 1, .slice (some ⟨g2, 0, none⟩) 1 1, (.slice z3 (l0 ++ [nw]).length k3), (.slice z5 (l1 ++ [n]).length k5), (.slice z6 (l2 ++ [q.rate]).length k6), by kernel_rfl, R, pB, hO, hL⟩
                  · refine o2_lit (n := n) (i := 6) 90 (.tmp 89) rfl (by kernel_rfl) (by kernel_rfl) rfl (by kernel_rfl) ?_
                    intro g1 x3 e1 hA lB1
                    have oB1 := out3_lt R (Nat.le_refl _)
                    rw [← e1] at oB1
                    clear e1
                    replace lB2 := lB2.below hA lB2.lt
                    replace lB0 := lB0.below hA lB0.lt
                    replace R := R.below hA
                    replace pB := pB.below hA pB.lt
                    replace hL := Base.next hL hA
                    replace SV := SV.trans (T := fun _ => False) (Fr.of_below hA) fun _ _ h => h.elim
                    clear hA
                    refine ⟨SV, ?_⟩
                    refine held_wp (i := 3) rfl (by kernel_rfl) (by kernel_rfl) (wp_addR 87 (by kernel_rfl) (s := nw) (v := (.slice za l0.length ka)) (b := some ⟨g0, 0, none⟩) (.tmp 84) (.tmp 86) rfl (by kernel_rfl) R.o1 (by kernel_rfl) (.of (Row.lit_at lB0)) hlen0 ?_)
                    intro y4 x4 A
                    have A1 := A.fr
                    replace SV := SV.trans A1 fun i _ hi => Or.inl hi
                    obtain ⟨R2, keep, hA⟩ := R.add1 hL.size A
                    have pK := keep _ pB.lt hO
                    replace pB := keep_blk pB pK.1
                    replace hO := pK.2
                    have kB2 := keep _ lB2.lt oB2
                    replace lB2 := keep_blk lB2 kB2.1
                    replace oB2 := kB2.2
                    have kB1 := keep _ lB1.lt oB1
                    replace lB1 := keep_blk lB1 kB1.1
                    replace oB1 := kB1.2
                    replace R := R2
                    replace hL := hL.trans hA
                    obtain ⟨z4, k4, rfl, _, _, _⟩ := A.own.read
                    clear keep hA R2 A A1 lB0 oB0
                    refine ⟨SV, ?_⟩
                    refine held_wp (i := 7) rfl (by kernel_rfl) (by kernel_rfl) (wp_addR 91 (by kernel_rfl) (s := n) (v := (.slice zb l1.length kb)) (b := some ⟨g1, 0, none⟩) (.tmp 88) (.tmp 90) rfl (by kernel_rfl) R.o2 (by kernel_rfl) (.of (Row.lit_at lB1)) hlen1 ?_)
                    intro y5 x5 A
                    have A1 := A.fr
                    replace SV := SV.trans A1 fun i _ hi => Or.inr (Or.inl hi)
                    obtain ⟨R2, keep, hA⟩ := R.add2 hL.size A
                    have pK := keep _ pB.lt hO
                    replace pB := keep_blk pB pK.1
                    replace hO := pK.2
                    have kB2 := keep _ lB2.lt oB2
                    replace lB2 := keep_blk lB2 kB2.1
                    replace oB2 := kB2.2
                    replace R := R2
                    replace hL := hL.trans hA
                    obtain ⟨z5, k5, rfl, _, _, _⟩ := A.own.read
                    clear keep hA R2 A A1 lB1 oB1
                    refine ⟨SV, ?_⟩
                    refine held_wp (i := 12) rfl (by kernel_rfl) (by kernel_rfl) (wp_addR 96 (by kernel_rfl) (s := q.rate) (v := (.slice zc l2.length kc)) (b := some ⟨g2, 0, none⟩) (.tmp 92) (.tmp 95) rfl (by kernel_rfl) R.o3 (by kernel_rfl) (.of (Row.lit_at lB2)) hlen2 ?_)
                    intro y6 x6 A
                    have A1 := A.fr
                    replace SV := SV.trans A1 fun i _ hi => Or.inr (Or.inr hi)
                    obtain ⟨R2, keep, hA⟩ := R.add3 hL.size A
                    have pK := keep _ pB.lt hO
                    replace pB := keep_blk pB pK.1
                    replace hO := pK.2
                    replace R := R2
                    replace hL := hL.trans hA
                    obtain ⟨z6, k6, rfl, _, _, _⟩ := A.own.read
                    clear keep hA R2 A A1 lB2 oB2
                    refine ⟨SV, ?_⟩
                    refine h2_take (i := 13) (v := (.slice z4 (l0 ++ [nw]).length k4)) 9 rfl (by kernel_rfl) (by kernel_rfl) (by kernel_rfl) (by kernel_rfl) (fun _ _ _ h => nomatch h.1) (by kernel_rfl) SV (fun v hv => by kernel_rfl) ?_
                    refine h2_take (i := 14) (v := (.slice z5 (l1 ++ [n]).length k5)) 10 rfl (by kernel_rfl) (by kernel_rfl) (by kernel_rfl) (by kernel_rfl) (fun _ _ _ h => nomatch h.1) (by kernel_rfl) SV (fun v hv => by kernel_rfl) ?_
                    refine h2_take (i := 15) (v := (.slice z6 (l2 ++ [q.rate]).length k6)) 11 rfl (by kernel_rfl) (by kernel_rfl) (by kernel_rfl) (by kernel_rfl) (fun _ _ _ h => nomatch h.1) (by kernel_rfl) SV (fun v hv => by kernel_rfl) ?_
                    exact held_done (by kernel_rfl) ⟨rfl, .slice (some ⟨g0, 0, none⟩) 1 1, .slice (some ⟨g1, 0, none⟩) 1 1, .slice (some ⟨g2, 0, none⟩) 1 1, (.slice z4 (l0 ++ [nw]).length k4), (.slice z5 (l1 ++ [n]).length k5), (.slice z6 (l2 ++ [q.rate]).length k6), by kernel_rfl, R, pB, hO, hL⟩
                · refine o2_lit (n := n) (i := 6) 90 (.tmp 89) rfl (by kernel_rfl) (by kernel_rfl) rfl (by kernel_rfl) ?_
                  intro g1 x2 e1 hA lB1
                  have oB1 := out3_lt R (Nat.le_refl _)
                  rw [← e1] at oB1
                  clear e1
                  replace lB2 := lB2.below hA lB2.lt
                  replace R := R.below hA
                  replace pB := pB.below hA pB.lt
                  replace hL := Base.next hL hA
                  replace SV := SV.trans (T := fun _ => False) (Fr.of_below hA) fun _ _ h => h.elim
                  clear hA
                  refine ⟨SV, ?_⟩
                  refine h2_lit (n := nw) (i := 2) 86 (.tmp 85) rfl (by kernel_rfl) (by kernel_rfl) (by kernel_rfl) rfl (by kernel_rfl) ?_
                  intro g0 x3 e0 hA lB0
                  have oB0 := out3_lt R (Nat.le_refl _)
                  rw [← e0] at oB0
                  clear e0
                  replace lB2 := lB2.below hA lB2.lt
                  replace lB1 := lB1.below hA lB1.lt
                  replace R := R.below hA
                  replace pB := pB.below hA pB.lt
                  replace hL := Base.next hL hA
                  replace SV := SV.trans (T := fun _ => False) (Fr.of_below hA) fun _ _ h => h.elim
                  clear hA
                  refine ⟨SV, ?_⟩
                  refine held_wp (i := 3) rfl (by kernel_rfl) (by kernel_rfl) (wp_addR 87 (by kernel_rfl) (s := nw) (v := (.slice za l0.length ka)) (b := some ⟨g0, 0, none⟩) (.tmp 84) (.tmp 86) rfl (by kernel_rfl) R.o1 (by kernel_rfl) (.of (Row.lit_at lB0)) hlen0 ?_)
                  intro y4 x4 A
                  have A1 := A.fr
                  replace SV := SV.trans A1 fun i _ hi => Or.inl hi
                  obtain ⟨R2, keep, hA⟩ := R.add1 hL.size A
                  have pK := keep _ pB.lt hO
                  replace pB := keep_blk pB pK.1
                  replace hO := pK.2
                  have kB2 := keep _ lB2.lt oB2
                  replace lB2 := keep_blk lB2 kB2.1
                  replace oB2 := kB2.2
                  have kB1 := keep _ lB1.lt oB1
                  replace lB1 := keep_blk lB1 kB1.1
                  replace oB1 := kB1.2
                  replace R := R2
                  replace hL := hL.trans hA
                  obtain ⟨z4, k4, rfl, _, _, _⟩ := A.own.read
                  clear keep hA R2 A A1 lB0 oB0
                  refine ⟨SV, ?_⟩
                  refine held_wp (i := 7) rfl (by kernel_rfl) (by kernel_rfl) (wp_addR 91 (by kernel_rfl) (s := n) (v := (.slice zb l1.length kb)) (b := some ⟨g1, 0, none⟩) (.tmp 88) (.tmp 90) rfl (by kernel_rfl) R.o2 (by kernel_rfl) (.of (Row.lit_at lB1)) hlen1 ?_)
                  intro y5 x5 A
                  have A1 := A.fr
                  replace SV := SV.trans A1 fun i _ hi => Or.inr (Or.inl hi)
                  obtain ⟨R2, keep, hA⟩ := R.add2 hL.size A
                  have pK := keep _ pB.lt hO
                  replace pB := keep_blk pB pK.1
                  replace hO := pK.2
                  have kB2 := keep _ lB2.lt oB2
                  replace lB2 := keep_blk lB2 kB2.1
                  replace oB2 := kB2.2
                  replace R := R2
                  replace hL := hL.trans hA
                  obtain ⟨z5, k5, rfl, _, _, _⟩ := A.own.read
                  clear keep hA R2 A A1 lB1 oB1
                  refine ⟨SV, ?_⟩
                  refine held_wp (i := 12) rfl (by kernel_rfl) (by kernel_rfl) (wp_addR 96 (by kernel_rfl) (s := q.rate) (v := (.slice zc l2.length kc)) (b := some ⟨g2, 0, none⟩) (.tmp 92) (.tmp 95) rfl (by kernel_rfl) R.o3 (by kernel_rfl) (.of (Row.lit_at lB2)) hlen2 ?_)
                  intro y6 x6 A
                  have A1 := A.fr
                  replace SV := SV.trans A1 fun i _ hi => Or.inr (Or.inr hi)
                  obtain ⟨R2, keep, hA⟩ := R.add3 hL.size A
                  have pK := keep _ pB.lt hO
                  replace pB := keep_blk pB pK.1
                  replace hO := pK.2
                  replace R := R2
                  replace hL := hL.trans hA
                  obtain ⟨z6, k6, rfl, _, _, _⟩ := A.own.read
                  clear keep hA R2 A A1 lB2 oB2
                  refine ⟨SV, ?_⟩
                  refine h2_take (i := 13) (v := (.slice z4 (l0 ++ [nw]).length k4)) 9 rfl (by kernel_rfl) (by kernel_rfl) (by kernel_rfl) (by kernel_rfl) (fun _ _ _ h => nomatch h.1) (by kernel_rfl) SV (fun v hv => by kernel_rfl) ?_
                  refine h2_take (i := 14) (v := (.slice z5 (l1 ++ [n]).length k5)) 10 rfl (by kernel_rfl) (by kernel_rfl) (by kernel_rfl) (by kernel_rfl) (fun _ _ _ h => nomatch h.1) (by kernel_rfl) SV (fun v hv => by kernel_rfl) ?_
                  refine h2_take (i := 15) (v := (.slice z6 (l2 ++ [q.rate]).length k6)) 11 rfl (by kernel_rfl) (by kernel_rfl) (by kernel_rfl) (by kernel_rfl) (fun _ _ _ h => nomatch h.1) (by kernel_rfl) SV (fun v hv => by kernel_rfl) ?_
                  exact held_done (by kernel_rfl) ⟨rfl, .slice (some ⟨g0, 0, none⟩) 1 1, .slice (some ⟨g1, 0, none⟩) 1 1, .slice (some ⟨g2, 0, none⟩) 1 1, (.slice z4 (l0 ++ [nw]).length k4), (.slice z5 (l1 ++ [n]).length k5), (.slice z6 (l2 ++ [q.rate]).length k6), by kernel_rfl, R, pB, hO, hL⟩
      · have hk : k = z2.length := by omega
        obtain ⟨W1, rfl⟩ : ∃ W, W = wr := ⟨_, rfl⟩
        clear hlt hl t0 t1 s0 s1 q0 q1
        obtain ⟨za, ca, rfl, h1, h1m, hz1⟩ := R.o1.read
        obtain ⟨zb, cb, rfl, h2, h2m, hz2⟩ := R.o2.read
        obtain ⟨zc, cc, rfl, h3, h3m, hz3⟩ := R.o3.read
        rw [show (T.map Tk.at_).length = k by rw [List.length_map, hT]] at *
        rw [show (T.map Tk.went).length = k by rw [List.length_map, hT]] at *
        rw [show (T.map Tk.rate).length = k by rw [List.length_map, hT]] at *
        clear R hO pB
        have hk60 : k ≤ 60 := by omega
        have hkn : ¬ ((k : Int) < (z2.length : Int)) := by omega
        clear hk
        have HM1 := Lib.hid h1m
        have HM2 := Lib.hid h2m
        have HM3 := Lib.hid h3m
        unfold maxLen at h1m h2m h3m
        go_wp2
        clear hkn
        go_loopw [100] (fun i wx => ∃ j : Nat, j ≤ k ∧ i = .int .i64 j ∧ Below W1.heap.size W1 wx) (fun i _ => k - (intOf i).toNat)
        case atStart => exact ⟨0, Nat.zero_le _, rfl, Below.refl _ _⟩
        case round =>
          obtain ⟨j, hj, rfl, hLx⟩ := hrel
          obtain ⟨W2, rfl⟩ : ∃ W, W = wr := ⟨_, rfl⟩
          by_cases hjk : j < k
          · have hjI : (j : Int) < (k : Int) := by omega
            go_wp2
            go_loopw [18, 19, 20] (fun n r t wy => ∃ (m : Nat) (N M : Int), j ≤ m ∧ m ≤ k ∧ t = .int .i64 m ∧ n = .int .u64 N ∧ r = .int .u64 M ∧ Span (a0 * 1000000) T j m N M ∧ Below W1.heap.size W1 wy) (fun _ _ t _ => k - (intOf t).toNat)
            case atStart => exact ⟨j, 0, 0, Nat.le_refl _, hj, rfl, rfl, rfl, span_start _ _ _, hLx⟩
            case round =>
              obtain ⟨m, N, M, hjm, hm, rfl, rfl, rfl, hs, hLy⟩ := hrel
              clear hLx
              obtain ⟨wy, rfl⟩ : ∃ W, W = wr := ⟨_, rfl⟩
              by_cases hmk : m < k
              · have hmI : (m : Int) < (k : Int) := by omega
                obtain ⟨hs2, hat, hbd⟩ := span_step hCh hjm (show m < T.length by omega) hs
                have hokm := hCh.ok m (show m < T.length by omega)
                have hokj := hCh.ok j (show j < T.length by omega)
                have mw0 := hokm.w0
                have mw1 := hokm.w1
                have mr0 := hokm.r0
                have mr1 := hokm.r1
                have ma0 := hokm.a0
                have ma1 := hokm.a1
                have ja0 := hokj.a0
                obtain ⟨s0, s1, s2, s3, _⟩ := hs
                clear hokm hokj
                obtain ⟨g1, f1, rfl, hg1, c1⟩ := (hz1.below hLy).at_ (show m < (T.map Tk.at_).length by rw [List.length_map]; omega)
                obtain ⟨g1', f1', e1', hg1', c1'⟩ := (hz1.below hLy).at_ (show j < (T.map Tk.at_).length by rw [List.length_map]; omega)
                cases e1'
                obtain ⟨g2, f2, rfl, hg2, c2⟩ := (hz2.below hLy).at_ (show m < (T.map Tk.went).length by rw [List.length_map]; omega)
                obtain ⟨g3, f3, rfl, hg3, c3⟩ := (hz3.below hLy).at_ (show m < (T.map Tk.rate).length by rw [List.length_map]; omega)
                rw [map_getD Tk.at_ rfl] at c1 c1'
                rw [map_getD Tk.went rfl] at c2
                rw [map_getD Tk.rate rfl] at c3
                generalize hA1 : (T.getD m tk0).at_ = A1 at *
                generalize hA2 : (T.getD j tk0).at_ = A2 at *
                generalize hA3 : (T.getD m tk0).went = A3 at *
                generalize hA4 : (T.getD m tk0).rate = A4 at *
                have HS := Lib.hid hs2
                clear hA1 hA2 hA3 hA4 hs2
                have emax : (if M < A4 then A4 else M) = max M A4 := by omega
                have emax' : (if A4 ≤ M then M else A4) = max M A4 := by omega
                have hx0 : 0 ≤ max M A4 := by omega
                have hx1 : max M A4 ≤ 4294967296 := by omega
                generalize hXe : max M A4 = X at *
                have hXe2 : max A4 M = X := by omega
                have d1 := fun p : In (Lt wy) => inCell p c1
                have d1' := fun p : In (Lt wy) => inCell p c1'
                have d2 := fun p : In (Lt wy) => inCell p c2
                have d3 := fun p : In (Lt wy) => inCell p c3
                go_wp2
                refine wp_region_in (Lt wy) (Lt.drew wy) (by kernel_rfl) (by kernel_rfl) ?_
                repeat (go_big_quiet_step (fail))
                refine wpQuiet_nil ?_
                rintro y1 ⟨⟨_, hy1⟩, rfl⟩
                have hy1 : Below wy.heap.size wy y1 := hy1
                have c1y := keepCell hy1 c1
                have c1y' := keepCell hy1 c1'
                have hD0 : 0 ≤ A1 - A2 := by omega
                have hD1 : A1 - A2 ≤ 4000000 := by omega
                have hP0 := Int.mul_nonneg hx0 hD0
                have hP1 : X * (A1 - A2) ≤ 4294967296 * 4000000 := Int.mul_le_mul hx1 hD1 hD0 (by decide)
                have CM := fun V => Sat.ref_mul X (A1 - A2) hx0 (by omega) hD0 (by omega) V
                rw [Sat.mul_fits (show X * (A1 - A2) ≤ 18446744073709551615 by omega)] at CM
                generalize X * (A1 - A2) = PX at *
                have tb : decide (a0 * 1000000 + PX < (N + A3) * 1000000) = false := decide_eq_false (by omega)
                clear d1 d1' d2 d3 c1 c1' c2 c3 hz1 hz2 hz3 hbd
                have e1 := fun p : In (Lt y1) => inCell p c1y
                have e1' := fun p : In (Lt y1) => inCell p c1y'
                go_wp2
                refine wp_region_in (Lt y1) (Lt.drew y1) (by kernel_rfl) (by kernel_rfl) ?_
                repeat (go_big_quiet_step ((go_at_call 15; refine in_same (v := .int .u64 PX) ?_; exact (CM _))))
                refine wpQuiet_nil ?_
                rintro y2 ⟨⟨_, hy2⟩, rfl⟩
                have hy2 : Below y1.heap.size y1 y2 := hy2
                go_wp2
                all_goals go_roundw
                case rel => exact ⟨m + 1, N + A3, X, by omega, by omega, by go_num, rfl, rfl, HS.out, Base.next (Base.next hLy hy1) hy2⟩
                case measure => simp [intOf]; omega
              · go_wp2
                all_goals go_roundw
                case rel => exact ⟨j + 1, by omega, by go_num, hLy⟩
                case measure => simp [intOf]; omega
          · go_wp2
            go_ret
            exact ⟨rfl, Base.next hL hLx⟩

set_option maxRecDepth 100000 in
theorem lifted (os : Os) (started : os.Started) (H : Type) (enc : TypeId × Value → H) :
    ReturnsInHanded {} Try.checked os 6 .any (Rows.pacerBoundsSpec.pre6 enc Try.prog Try.f6 Rows.pacerBoundsRow.domain false) (Rows.pacerBoundsSpec.post enc Try.prog Try.f6 false true false false) := by
  refine returnsInHanded_of_change (C := Try.checked) own started (by kernel_rfl) Try.func6
    (ChangeSpec.witness6 (enc := enc) (C := Try.checked) false ⟨#[], #[.int .u16 0, .int .u32 0, .slice none 0 0], []⟩ 8 (by kernel_rfl) (by kernel_rfl) (by kernel_rfl) (by kernel_rfl)) ?_
  intro W base args ds gs before hval0 hW hcnd _
  have hval : ∀ (j : Nat) t v, Try.f6.params[j]? = some t → args[j]? = some v → Value.okWide Try.prog W .any base t v := hval0
  have hW' := hW
  obtain ⟨p, q, hA0, hV, rfl, hfz, hnd⟩ := hW
  have hA : DataW.TrodAll enc Try.prog W 0 (fun _ => true) true Try.f6.params.toList args.toList ds p := hA0
  rw [Try.params6] at hA hval
  obtain ⟨v0, vs0, d0, ds0, p0, q0, hargs, rfl, rfl, h0, r0⟩ := trodAll_cons hA
  obtain ⟨v1, vs1, d1, ds1, p1, q1, rfl, rfl, rfl, h1, r1⟩ := trodAll_cons r0
  obtain ⟨v2, vs2, d2, ds2, p2, q2, rfl, rfl, rfl, h2, r2⟩ := trodAll_cons r1
  obtain ⟨rfl, rfl, rfl⟩ := trodAll_nil r2
  obtain rfl : args = #[v0, v1, v2] := by cases args; simp_all
  obtain ⟨rfl, rfl⟩ := trodVars_none hV
  obtain ⟨a0, rfl, rfl, rfl, w0⟩ := open_int Try.underlying32 (hval 0 32 v0 rfl rfl) h0
  obtain ⟨a1, rfl, rfl, rfl, w1⟩ := open_int Try.underlying31 (hval 1 31 v1 rfl rfl) h1
  obtain ⟨a2, len2, cap2, rfl⟩ := okWide_slice Try.underlying34 (hval 2 34 v2 rfl rfl)
  have k2 := h2
  have lt2 : ∀ x ∈ p2, x.block < W.heap.size := by obtain ⟨m, hm⟩ := k2; exact DataW.trod_lt m _ _ _ hm
  obtain ⟨z2, w2, n2, m2, o2⟩ : ∃ zs, Recs W a2 [.int .u16, .int .u16, .bool, .int .u32] zs ∧ zs.length = len2 ∧ len2 ≤ cap2 ∧ cap2 ≤ maxLen := by
    obtain ⟨fuel, hf⟩ := h2
    rcases open_recs Try.underlying34 (show leaf Try.prog 6 38 = some [.int .u16, .int .u16, .bool, .int .u32] by kernel_rfl) (by kernel_rfl) (by decide) hf with ⟨hcs, hx⟩ | ⟨x, l, c, zs, hcs, hl, hm, hz, hsp⟩
    · simp [Value.cells] at hcs
      obtain ⟨rfl, rfl, rfl⟩ := hcs
      exact ⟨[], Recs.nil _ _ _, rfl, Nat.le_refl _, Nat.zero_le _⟩
    · simp [Value.cells] at hcs
      obtain ⟨rfl, rfl, rfl⟩ := hcs
      exact ⟨zs, hsp, hz, hl, hm⟩
  clear hA0 hval0
  refine (walk a0 a1 a2 len2 cap2 z2 W w0 w1 w2 n2 m2 o2).mono fun e W' ⟨he, bel⟩ => ?_
  subst he
  exact ⟨_, rfl, _, _, _, [], _, [], hW', trodAll_mk1 (shut_bool Try.underlying4 _), (trodAll_cons_mk (shut_int Try.underlying32 w0) (trodAll_cons_mk (shut_int Try.underlying31 w1) (trodAll_cons_mk (Below.trod laidOut (by kernel_rfl) (of_decide_eq_true (by kernel_rfl)) k2 bel lt2) trodAll_mk0))), rfl, bel.frame _, fun h => by cases h⟩

theorem over : Rows.pacerBoundsRow.holds Try.pinned (OpenSpec.ofChange Rows.pacerBoundsSpec) :=
  OpenClaim.holds_of_wide 6 Try.f6 rfl rfl rfl rfl rfl rfl rfl ⟨rfl, rfl, rfl, rfl, rfl⟩ rfl rfl rfl rfl rfl (by kernel_rfl) Try.func6 (by kernel_rfl)
    (of_decide_eq_true (by kernel_rfl)) (by unfold Func.isWrapper; first | (rw [if_pos (by decide +kernel)]; kernel_rfl) | (rw [if_neg (by decide +kernel)]; exact ⟨rfl, rfl⟩))
    (fun os started H enc _ => lifted os started H enc)

/-- The given statement. -/
theorem proved : Rows.PacerBoundsSaid :=
  over
#print axioms proved
end Go.Proofs.Ytbamdilihpnhjaa.pacerBounds
