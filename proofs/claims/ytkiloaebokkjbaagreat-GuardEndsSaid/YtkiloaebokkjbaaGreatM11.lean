/-
  Several texts in one: BudRef, LedTell, LedTurn, LedGive, Led, Bud, LedTwo.
-/
import Derived.Test.YtkiloaebokkjbaaGreatM7
import Derived.Test.YtkiloaebokkjbaaGreatM4
import Derived.Test.YtkiloaebokkjbaaGreatM9
import Derived.Test.YtkiloaebokkjbaaGreatM10
import Derived.WalkSpells
import Derived.LoopTactic
import Derived.Lib.Hide
import Derived.BigQuiet
import Derived.Deep.QuietTactic
import Derived.Deep.RegionLaw
import Derived.Deep.RegionHeld3
import Derived.Deep.RegionWith
import Derived.Deep.DeepCutAuto
import Derived.Outline
import Derived.Test.YtkiloaebokkjbaaGreatM16
import Derived.Test.YtkiloaebokkjbaaGreatIn
import Derived.Test.YtkiloaebokkjbaaGreatM8
import Derived.Test.YtkiloaebokkjbaaGreatM15
import Derived.Test.YtkiloaebokkjbaaGreatClock
/-
  Contracts of the reference's budget.
-/
set_option linter.unusedSimpArgs false
set_option linter.unusedVariables false
namespace Go.Proofs.YtkiloaebokkjbaaGreat.Bud
set_option linter.unusedVariables false
set_option maxRecDepth 20000
open Go.ChangeShapes Go.WideShapes Go.ChangeAt Go.RowKit
open Go.Proofs.YtkiloaebokkjbaaGreat.Base Go.Proofs.YtkiloaebokkjbaaGreat.BudPlain

/-- The reference's budget g: its block b and the row of its grants lie in S. -/
structure Bf (S : Nat → Prop) (w : World) (b : Nat) (g : Bg) : Prop where
  ok : BOk g
  inB : S b
  ex : ∃ v, Blk w b #[.int .i64 g.most, .int .u64 g.every, .int .u64 g.last, v] 157 ∧ OwnU w v g.l ∧ ∀ k, v.ownBlock = some k → S k ∧ k ≠ b
theorem Bf.kept {S T : Nat → Prop} {w w' : World} {b : Nat} {g : Bg} (h : Bf S w b g) (hf : Fr T w w') (hn : ∀ k, S k → ¬ T k) : Bf S w' b g := by
  obtain ⟨v, hB, hO, hv⟩ := h.ex
  exact ⟨h.ok, h.inB, v, hB.kept hf (hn b h.inB), hO.kept hf fun k hk => hn k (hv k hk).1, hv⟩
theorem Bf.below {S : Nat → Prop} {w w' : World} {b : Nat} {g : Bg} (h : Bf S w b g) (hb : Below w.heap.size w w') : Bf S w' b g := h.kept (T := fun _ => False) (Fr.of_below hb) fun _ _ h => h
theorem Bf.mono {S T : Nat → Prop} {w : World} {b : Nat} {g : Bg} (h : Bf S w b g) (hn : ∀ k, S k → T k) : Bf T w b g := by
  obtain ⟨v, hB, hO, hv⟩ := h.ex
  exact ⟨h.ok, hn b h.inB, v, hB, hO, fun k hk => ⟨hn k (hv k hk).1, (hv k hk).2⟩⟩
theorem Bf.drew {S : Nat → Prop} {w : World} {b : Nat} {g : Bg} (h : Bf S w b g) : Bf S w.drew b g := ⟨h.ok, h.inB, h.ex⟩
theorem Bf.lt {S : Nat → Prop} {w : World} {b : Nat} {g : Bg} (h : Bf S w b g) : b < w.heap.size := by
  obtain ⟨v, hB, _⟩ := h.ex
  exact hB.lt
theorem bf_new {most every : Int} (hOk : BOk (newB most every)) (w : World) {m : Int} (hm : (newB most every).most = m) : Bf (fun k => w.heap.size ≤ k ∧ k < (w.alloc (.cells #[.int .i64 m, .int .u64 every, .int .u64 0, .slice none 0 0] 157)).heap.size) (w.alloc (.cells #[.int .i64 m, .int .u64 every, .int .u64 0, .slice none 0 0] 157)) w.heap.size (newB most every) := by
  refine ⟨hOk, ⟨Nat.le_refl _, by simp⟩, .slice none 0 0, ?_, OwnU.nil _, fun k hk => by simp [Value.ownBlock] at hk⟩
  rw [hm]
  exact Blk.new _ _ _
theorem ref_new (most every : Int) (e0 : 0 ≤ every) (e1 : every ≤ 18446744073709551615) (w : World) :
    Calls Tryz.prog 38 #[.int .i64 most, .int .u64 every] w fun e w' => ∃ b, e = .returned (.pointer (some ⟨b, 0, none⟩)) ∧ Bf (fun k => w.heap.size ≤ k ∧ k < w'.heap.size) w' b (newB most every) ∧ Below w.heap.size w w' := by
  have hOk := ok_newB most e0 e1
  have hm : (newB most every).most = max 0 (min most 64) := rfl
  go_enter Tryz.func38, Tryz.ntmps38
  go_wp2
  all_goals go_ret
  all_goals exact ⟨_, rfl, bf_new hOk w (by rw [hm]; omega), (Below.refl _ _).alloc (Nat.le_refl _) _⟩
theorem bf_asked {S : Nat → Prop} {w w3 w4 : World} {b : Nat} {g : Bg} {v v4 : Value} {N : Int} (ho : BOk { g with last := N, l := g.l ++ [N] }) (hb : S b) (hbw : b < w.heap.size) (hv : ∀ k, v.ownBlock = some k → S k ∧ k ≠ b) (hsz : w.heap.size ≤ w3.heap.size)
    (F3 : Fr S w w3) (B4 : Blk w4 b #[.int .i64 g.most, .int .u64 g.every, .int .u64 N, v] 157) (A : AddedU w3 v (g.l ++ [N]) v4 w4) :
    Bf (Plus S w (w4.setCell ⟨b, 3, none⟩ v4)) (w4.setCell ⟨b, 3, none⟩ v4) b { g with last := N, l := g.l ++ [N] } ∧ Fr S w (w4.setCell ⟨b, 3, none⟩ v4) := by
  have hnb : ∀ k, v4.ownBlock = some k → k ≠ b ∧ (S k ∨ (w.heap.size ≤ k ∧ k < w4.heap.size)) := fun k hk => by
    rcases A.at_ k hk with h1 | h1
    · exact ⟨(hv k h1).2, .inl (hv k h1).1⟩
    · exact ⟨by omega, .inr ⟨by omega, h1.2⟩⟩
  have es : (w4.setCell ⟨b, 3, none⟩ v4).heap.size = w4.heap.size := by simp [World.setCell]
  refine ⟨⟨ho, .inl hb, v4, B4.set 3 v4, ?_, fun k hk => ⟨?_, (hnb k hk).1⟩⟩, ?_⟩
  · exact A.own.kept (T := fun k => k = b) ((Fr.of_below (S := fun k => k = b) (Below.refl w4.heap.size w4)).setCell (p := ⟨b, 3, none⟩) (fun _ => rfl) v4) fun k hk e => (hnb k hk).1 e
  · unfold Plus
    rw [es]
    exact (hnb k hk).2
  · exact (F3.trans A.fr fun i _ hi => (hv i hi).1).setCell (fun _ => hb) v4
set_option maxHeartbeats 2000000 in
theorem ref_ask {S : Nat → Prop} {w : World} {b : Nat} {g : Bg} (h : Bf S w b g) (hn : g.l.length ≤ 1000000) (now : Int) (n0 : 0 ≤ now) (n1 : now ≤ 18446744073709551615) :
    Calls Tryz.prog 83 #[.pointer (some ⟨b, 0, none⟩), .int .u64 now] w fun e w' => e = .returned (.bool (grants g now)) ∧ Bf (Plus S w w') w' b (askG g now) ∧ Fr S w w' := by
  have hOk := ok_ask h.ok n0 n1
  have hbw := h.lt
  have hbS := h.inB
  have ok := h.ok
  have t0 := ok.t0
  have t1 := ok.t1
  obtain ⟨v, B0, O0, hv⟩ := h.ex
  have hG : grants g now = decide (near g.every (nowB g now) g.l < g.most) := rfl
  have hA : askG g now = { g with last := nowB g now, l := if grants g now = true then g.l ++ [nowB g now] else g.l } := rfl
  have hN : (if g.last < now then now else g.last) = nowB g now := by unfold nowB; omega
  have hNb : 0 ≤ nowB g now ∧ nowB g now ≤ 18446744073709551615 := by unfold nowB; omega
  have hall : ∀ k, 0 ≤ g.l.getD k 0 ∧ g.l.getD k 0 ≤ 18446744073709551615 := fun k => by
    rw [List.getD_eq_getElem?_getD]
    cases e : g.l[k]? with
    | none => simp
    | some t => have := ok.all t (List.mem_of_getElem? e); simp only [Option.getD_some]; omega
  generalize nowB g now = N at *
  generalize grants g now = gr at *
  replace hA := Lib.hid hA
  replace hG := Lib.hid hG
  replace hOk := Lib.hid hOk
  have c0 : w.cell? ⟨b, 0, none⟩ = some (.int .i64 g.most) := B0.cell 0
  have c1 : w.cell? ⟨b, 1, none⟩ = some (.int .u64 g.every) := B0.cell 1
  have c2 : w.cell? ⟨b, 2, none⟩ = some (.int .u64 g.last) := B0.cell 2
  have f2 := B0.free 2
  go_enter Tryz.func83, Tryz.ntmps83
  go_upto_region 2 with fail
  refine at_any ?_
  intro W hW
  obtain ⟨B1, F1, z1⟩ : Blk W b #[.int .i64 g.most, .int .u64 g.every, .int .u64 N, v] 157 ∧ Fr S w W ∧ W.heap.size = w.heap.size := by
    subst hW
    refine ⟨?_, ?_, ?_⟩
    · exact B0.set 2 _
    · exact (Fr.refl S w).setCell (fun _ => hbS) _
    · simp [World.setCell]
  have O1 : OwnU W v g.l := by
    subst hW
    exact O0.kept (T := fun k => k = b) ((Fr.refl (fun k => k = b) w).setCell (p := ⟨b, 2, none⟩) (fun _ => rfl) _) fun k hk e => (hv k hk).2 e
  clear hW c0 c1 c2 f2 B0 hN
  obtain ⟨a, cap, rfl, h1, h2, hz⟩ := O1.read
  unfold maxLen at h2
  go_wp2
  go_loopw [5, 6] (fun n i wr => ∃ k : Nat, k ≤ g.l.length ∧ n = .int .i64 (near g.every N (g.l.take k)) ∧ i = .int .i64 k ∧ Below W.heap.size W wr) (fun _ i _ => g.l.length - (intOf i).toNat)
  case atStart => exact ⟨0, Nat.zero_le _, rfl, rfl, Below.refl _ _⟩
  case round =>
    obtain ⟨k, hk, rfl, rfl, hL⟩ := hrel
    have Br := B1.below hL B1.lt
    have c0 : wr.cell? ⟨b, 0, none⟩ = some (.int .i64 g.most) := Br.cell 0
    have c1 : wr.cell? ⟨b, 1, none⟩ = some (.int .u64 g.every) := Br.cell 1
    have c2 : wr.cell? ⟨b, 2, none⟩ = some (.int .u64 N) := Br.cell 2
    have c3 : wr.cell? ⟨b, 3, none⟩ = some (.slice a g.l.length cap) := Br.cell 3
    have hbr := Br.lt
    have hnn := near_nonneg g.every N (g.l.take k)
    rw [List.length_take, Nat.min_eq_left hk] at hnn
    by_cases hlt : k < g.l.length
    · have hF := near_take (e := g.every) (now := N) hlt
      have hlI : (k : Int) < (g.l.length : Int) := by omega
      obtain ⟨b', off', rfl, hb', e0⟩ := (hz.below hL).at_ hlt
      obtain ⟨x0, x1⟩ := hall k
      generalize g.l.getD k 0 = x at *
      have CS := fun p : In (Lt wr) => Sat.ref_sub N x hNb.1 hNb.2 x0 x1 p.w
      have d1 := fun p : In (Lt wr) => inCell p c1
      have d2 := fun p : In (Lt wr) => inCell p c2
      have d3 := fun p : In (Lt wr) => inCell p c3
      have dx := fun p : In (Lt wr) => inCell p e0
      generalize Sat.sub N x = df at *
      generalize near g.every N (g.l.take k) = nr at *
      go_upto_region 6 with fail
      refine wp_region_in (Lt wr) (Lt.drew wr) (by kernel_rfl) (by kernel_rfl) ?_
      repeat (go_big_quiet_step ((go_at_call 109; refine in_same (v := .int .u64 df) ?_; exact (CS _))))
      refine wpQuiet_nil ?_
      rintro w2 ⟨⟨_, hw2⟩, rfl⟩
      have hw2 : Below wr.heap.size wr w2 := hw2
      by_cases t1 : df < g.every
      · rw [if_pos t1] at hF
        go_wp2
        all_goals go_roundw
        case rel => exact ⟨k + 1, by omega, by rw [hF], by go_num, Base.next hL hw2⟩
        case measure => simp [intOf]; omega
      · rw [if_neg t1] at hF
        go_wp2
        all_goals go_roundw
        case rel => exact ⟨k + 1, by omega, by rw [hF, Int.add_zero], by go_num, Base.next hL hw2⟩
        case measure => simp [intOf]; omega
    · obtain rfl : k = g.l.length := by omega
      rw [List.take_length] at *
      have F2 : Fr S w wr := F1.trans (T := fun _ => False) (Fr.of_below hL) (fun _ _ h => h.elim)
      have Or := O1.kept (Fr.of_below (S := fun _ => False) hL) (fun _ _ h => h)
      by_cases t1 : near g.every N g.l < g.most
      · have hgr : gr = true := by rw [hG.out]; exact decide_eq_true t1
        have hAs : askG g now = { g with last := N, l := g.l ++ [N] } := by rw [hA.out, hgr]; rfl
        subst hgr
        have hOk' := hOk.out
        rw [hAs] at hOk'
        replace hAs := Lib.hid hAs
        replace hOk' := Lib.hid hOk'
        clear hA hOk hall hG
        generalize near g.every N g.l = nr at *
        go_upto_region 10 with fail
        have HV := Lib.hid hv
        have HF := Lib.hid F2
        clear hv F1 F2 hL O1 hz B1
        go_region_law (refine step_addU (W := wr.drew) (s := N) (by rfl) (by rfl) (.tmp 54) (.tmp 59) (by rfl) (by rfl) Or.drew (by rfl) (by simp) (by omega) ?_; intro v4 w4 A4; replace A4 := A4.undrew; obtain ⟨a4, cap4, rfl, _, _, _⟩ := A4.own.read; have B4 := Br.kept (w := wr) (S := fun k => (Value.slice a g.l.length cap).ownBlock = some k) A4.fr (fun e => (HV.out _ e).2 rfl); have A4h := Lib.hid A4; have p2 : w4.cell? ⟨b, 3, none⟩ = some (.slice a g.l.length cap) := B4.cell 3; have p3 := B4.free 3; have p4 : w4.cell? ⟨b, 2, none⟩ = some (.int .u64 N) := B4.cell 2)
        all_goals go_wp2
        all_goals go_ret
        all_goals exact ⟨rfl, by rw [hAs.out]; exact bf_asked hOk'.out hbS hbw HV.out (HF.out.size) HF.out B4 (by simpa using A4h.out)⟩
      · have hgr : gr = false := by rw [hG.out]; exact decide_eq_false t1
        have hAs : askG g now = { g with last := N } := by rw [hA.out, hgr]; rfl
        subst hgr
        have hOk' := hOk.out
        rw [hAs] at hOk'
        replace hAs := Lib.hid hAs
        generalize near g.every N g.l = nr at *
        go_wp2
        all_goals go_ret
        all_goals exact ⟨rfl, by rw [hAs.out]; exact ⟨hOk', .inl hbS, _, Br, Or, fun k hk => ⟨.inl (hv k hk).1, (hv k hk).2⟩⟩, F2⟩
section
variable {o : Oper} {ρ : Operand → Value} {u : World}
theorem lb_i64 (x : Operand) (ho : o.op = .load 3 x) {g i : Nat} {n : Int} (hx : ρ x = .pointer (some ⟨g, i, none⟩)) (hc : u.cell? ⟨g, i, none⟩ = some (.int .i64 n)) : (execOp ρ o).run Tryz.prog u = .ok (.value (.int .i64 n)) u := by unfold execOp; rw [ho]; simp [hx, hc, go_sem]
theorem lb_u64 (x : Operand) (ho : o.op = .load 23 x) {g i : Nat} {n : Int} (hx : ρ x = .pointer (some ⟨g, i, none⟩)) (hc : u.cell? ⟨g, i, none⟩ = some (.int .u64 n)) : (execOp ρ o).run Tryz.prog u = .ok (.value (.int .u64 n)) u := by unfold execOp; rw [ho]; simp [hx, hc, go_sem]
theorem lb_sl (x : Operand) (ho : o.op = .load 153 x) {g i : Nat} {a : Option Addr} {n c : Nat} (hx : ρ x = .pointer (some ⟨g, i, none⟩)) (hc : u.cell? ⟨g, i, none⟩ = some (.slice a n c)) : (execOp ρ o).run Tryz.prog u = .ok (.value (.slice a n c)) u := by unfold execOp; rw [ho]; simp [hx, hc, go_sem]
theorem box_b (x : Operand) (ho : o.op = .box 157 x) {r m t : Int} {v : Value} (hx : ρ x = .agg #[.int .i64 r, .int .u64 m, .int .u64 t, v]) : (execOp ρ o).run Tryz.prog u = .ok (.value (.pointer (some ⟨u.heap.size, 0, none⟩))) (u.alloc (.cells #[.int .i64 r, .int .u64 m, .int .u64 t, v] 157)) := by unfold execOp; rw [ho]; simp [hx, go_sem]
end
set_option maxHeartbeats 1000000 in
theorem ref_fork {S : Nat → Prop} {w : World} {b : Nat} {g : Bg} (h : Bf S w b g) (hn : g.l.length ≤ 1000000) :
    Calls Tryz.prog 67 #[.pointer (some ⟨b, 0, none⟩)] w fun e w' => ∃ b', e = .returned (.pointer (some ⟨b', 0, none⟩)) ∧ Bf (fun k => w.heap.size ≤ k ∧ k < w'.heap.size) w' b' g ∧ Below w.heap.size w w' := by
  obtain ⟨v, hB, hO, _⟩ := h.ex
  obtain ⟨a, cap, rfl, h1, h2, hz⟩ := hO.read
  have c0 : w.cell? ⟨b, 0, none⟩ = some (.int .i64 g.most) := hB.cell 0
  have c1 : w.cell? ⟨b, 1, none⟩ = some (.int .u64 g.every) := hB.cell 1
  have c2 : w.cell? ⟨b, 2, none⟩ = some (.int .u64 g.last) := hB.cell 2
  have c3 : w.cell? ⟨b, 3, none⟩ = some (.slice a g.l.length cap) := hB.cell 3
  have hb := h.lt
  have HOK := Lib.hid h.ok
  unfold maxLen at h2
  clear hB hO h
  obtain ⟨r, m, t, l⟩ := g
  simp only at *
  go_enter Tryz.func67, Tryz.ntmps67
  go_upto_region 1 with fail
  have hS : Below w.heap.size w w.drew := Base.drew1 (Below.refl _ _)
  refine held_start (fun u => Below w.heap.size w u) (by kernel_rfl) ?_
  refine held_take (i := 0) (v := .pointer (some ⟨b, 0, none⟩)) rfl (by kernel_rfl) (by kernel_rfl) (by kernel_rfl) (fun _ _ _ h => h) (by kernel_rfl) hS (fun _ _ => by kernel_rfl) ?_
  refine held_take (i := 1) (v := .pointer (some ⟨b, 0, none⟩)) rfl (by kernel_rfl) (by kernel_rfl) (by kernel_rfl) (fun _ _ _ h => h) (by kernel_rfl) hS (fun _ _ => by kernel_rfl) ?_
  refine held_take (i := 2) (v := .pointer (some ⟨b, 0, none⟩)) rfl (by kernel_rfl) (by kernel_rfl) (by kernel_rfl) (fun _ _ _ h => h) (by kernel_rfl) hS (fun _ _ => by kernel_rfl) ?_
  refine held_take (i := 3) (v := .int .i64 r) rfl (by kernel_rfl) (by kernel_rfl) (by kernel_rfl) (fun _ _ _ h => h) (by kernel_rfl) hS (fun _ hu => lb_i64 (.tmp 5) rfl (by kernel_rfl) (keepCell hu c0)) ?_
  refine held_take (i := 4) (v := .pointer (some ⟨b, 0, none⟩)) rfl (by kernel_rfl) (by kernel_rfl) (by kernel_rfl) (fun _ _ _ h => h) (by kernel_rfl) hS (fun _ _ => by kernel_rfl) ?_
  refine held_take (i := 5) (v := .pointer (some ⟨b, 0, none⟩)) rfl (by kernel_rfl) (by kernel_rfl) (by kernel_rfl) (fun _ _ _ h => h) (by kernel_rfl) hS (fun _ _ => by kernel_rfl) ?_
  refine held_take (i := 6) (v := .pointer (some ⟨b, 1, none⟩)) rfl (by kernel_rfl) (by kernel_rfl) (by kernel_rfl) (fun _ _ _ h => h) (by kernel_rfl) hS (fun _ _ => by kernel_rfl) ?_
  refine held_take (i := 7) (v := .int .u64 m) rfl (by kernel_rfl) (by kernel_rfl) (by kernel_rfl) (fun _ _ _ h => h) (by kernel_rfl) hS (fun _ hu => lb_u64 (.tmp 9) rfl (by kernel_rfl) (keepCell hu c1)) ?_
  refine held_take (i := 8) (v := .pointer (some ⟨b, 0, none⟩)) rfl (by kernel_rfl) (by kernel_rfl) (by kernel_rfl) (fun _ _ _ h => h) (by kernel_rfl) hS (fun _ _ => by kernel_rfl) ?_
  refine held_take (i := 9) (v := .pointer (some ⟨b, 0, none⟩)) rfl (by kernel_rfl) (by kernel_rfl) (by kernel_rfl) (fun _ _ _ h => h) (by kernel_rfl) hS (fun _ _ => by kernel_rfl) ?_
  refine held_take (i := 10) (v := .pointer (some ⟨b, 2, none⟩)) rfl (by kernel_rfl) (by kernel_rfl) (by kernel_rfl) (fun _ _ _ h => h) (by kernel_rfl) hS (fun _ _ => by kernel_rfl) ?_
  refine held_take (i := 11) (v := .int .u64 t) rfl (by kernel_rfl) (by kernel_rfl) (by kernel_rfl) (fun _ _ _ h => h) (by kernel_rfl) hS (fun _ hu => lb_u64 (.tmp 13) rfl (by kernel_rfl) (keepCell hu c2)) ?_
  refine held_take (i := 12) (v := .pointer (some ⟨b, 0, none⟩)) rfl (by kernel_rfl) (by kernel_rfl) (by kernel_rfl) (fun _ _ _ h => h) (by kernel_rfl) hS (fun _ _ => by kernel_rfl) ?_
  refine held_take (i := 13) (v := .pointer (some ⟨b, 0, none⟩)) rfl (by kernel_rfl) (by kernel_rfl) (by kernel_rfl) (fun _ _ _ h => h) (by kernel_rfl) hS (fun _ _ => by kernel_rfl) ?_
  refine held_take (i := 14) (v := .pointer (some ⟨b, 3, none⟩)) rfl (by kernel_rfl) (by kernel_rfl) (by kernel_rfl) (fun _ _ _ h => h) (by kernel_rfl) hS (fun _ _ => by kernel_rfl) ?_
  refine held_take (i := 15) (v := .slice a l.length cap) rfl (by kernel_rfl) (by kernel_rfl) (by kernel_rfl) (fun _ _ _ h => h) (by kernel_rfl) hS (fun _ hu => lb_sl (.tmp 17) rfl (by kernel_rfl) (keepCell hu c3)) ?_
  refine held_wp (i := 16) rfl (by kernel_rfl) (by kernel_rfl) ?_
  refine wp_copyU (b := a) (m := l.length) (c := cap) (l := l) (.const (.slice none 0 0)) (.tmp 18) rfl (by kernel_rfl) (by kernel_rfl) rfl hz.drew (by omega) ?_
  intro v4 w4 O4 L4 N4
  replace L4 := Base.undrew L4
  obtain ⟨a4, cap4, rfl, q1, q2, _⟩ := O4.read
  refine ⟨L4, ?_⟩
  refine held_take (i := 17) (v := .agg #[.int .i64 r, .int .u64 m, .int .u64 t, .slice a4 l.length cap4]) rfl (by kernel_rfl) (by kernel_rfl) (by kernel_rfl) (fun _ _ _ h => h) (by kernel_rfl) L4 (fun _ _ => by kernel_rfl) ?_
  refine held_one (i := 18) (v := .pointer (some ⟨w4.heap.size, 0, none⟩)) (w' := w4.alloc (.cells #[.int .i64 r, .int .u64 m, .int .u64 t, .slice a4 l.length cap4] 157)) rfl (by kernel_rfl) (by kernel_rfl) (box_b (.tmp 20) rfl (by kernel_rfl)) (L4.alloc L4.size _) ?_
  refine held_one (i := 19) (v := .pointer (some ⟨w4.heap.size, 0, none⟩)) (w' := w4.alloc (.cells #[.int .i64 r, .int .u64 m, .int .u64 t, .slice a4 l.length cap4] 157)) rfl (by kernel_rfl) (by kernel_rfl) (by kernel_rfl) (L4.alloc L4.size _) ?_
  refine held_end 2 (.pointer (some ⟨w4.heap.size, 0, none⟩)) (by kernel_rfl) (by kernel_rfl) (by kernel_rfl) fun a' hd hv => ?_
  go_wp2
  refine bodyPost_ret (results_tmp rfl _ _ _) hd ?_
  rw [hv]
  exact ⟨_, rfl, ⟨HOK.out, by have := L4.size; simp; omega, _, Blk.new _ _ _, O4.alloc _, fun k hk => ⟨⟨N4 k hk, by have := O4.lt hk; simp; omega⟩, by have := O4.lt hk; omega⟩⟩, L4.alloc L4.size _⟩
end Go.Proofs.YtkiloaebokkjbaaGreat.Bud

/-
  Contracts of the program's ledger: what it tells.
-/
set_option linter.unusedSimpArgs false
set_option linter.unusedVariables false
namespace Go.Proofs.YtkiloaebokkjbaaGreat.Led
set_option linter.unusedVariables false
set_option maxRecDepth 20000
open Go.ChangeShapes Go.WideShapes Go.ChangeAt Go.RowKit
open Go.Proofs.YtkiloaebokkjbaaGreat.Base Go.Proofs.YtkiloaebokkjbaaGreat.LedPlain

/-- A ledger's own block: the ring's length R, the greatest number m, the next number n. -/
structure Kb (w : World) (b c cap R : Nat) (m : Int) (n : Nat) : Prop where
  blk : Blk w b #[.slice (some ⟨c, 0, none⟩) R cap, .int .u64 m, .int .u64 n] 142
  r0 : 4 ≤ R
  r1 : R ≤ 256
  q0 : R ≤ cap
  q1 : cap ≤ 9223372036854775807
  nl : (n : Int) ≤ 4611686018427387904
  ltc : c < w.heap.size
theorem Kb.below {w w' : World} {b c cap R : Nat} {m : Int} {n : Nat} (h : Kb w b c cap R m n) (hb : Below w.heap.size w w') : Kb w' b c cap R m n :=
  ⟨h.blk.below hb h.blk.lt, h.r0, h.r1, h.q0, h.q1, h.nl, Nat.lt_of_lt_of_le h.ltc hb.size⟩
theorem Kp.kb {S : Nat → Prop} {w : World} {b c cap : Nat} {kc : List Sn} {g : Lg} (h : Kp S w b c cap kc g) : Kb w b c cap kc.length g.limit g.l.length :=
  ⟨h.blk, h.r0.1, h.r0.2, h.caps.1, h.caps.2, h.nl, h.ltc⟩
theorem next_b {w : World} {b c cap R : Nat} {m : Int} {n : Nat} (h : Kb w b c cap R m n) :
    Calls Tryz.prog 42 #[.pointer (some ⟨b, 0, none⟩)] w fun e w' => e = .returned (.int .u64 n) ∧ w = w' := by
  have c2 : w.cell? ⟨b, 2, none⟩ = some (.int .u64 n) := h.blk.cell 2
  have hb := h.blk.lt
  have hn := h.nl
  go_enter Tryz.func42, Tryz.ntmps42
  go_wp2
  go_ret
  exact ⟨rfl, rfl⟩
theorem low_b {w : World} {b c cap R : Nat} {m : Int} {n : Nat} (h : Kb w b c cap R m n) :
    Calls Tryz.prog 41 #[.pointer (some ⟨b, 0, none⟩)] w fun e w' => e = .returned (.int .u64 ((n - R : Nat) : Int)) ∧ Below w.heap.size w w' := by
  obtain ⟨hB, r0, r1, q0, q1, hn, _⟩ := h
  have hb := hB.lt
  have e0 := fun p : In (Lt w) => inCell p (o := 0) (v := .slice (some ⟨c, 0, none⟩) R cap) (hB.cell 0)
  have e2 := fun p : In (Lt w) => inCell p (o := 2) (v := .int .u64 n) (hB.cell 2)
  have CS := fun p : In (Lt w) => Sat.sub_any n R (by omega) (by omega) (by omega) (by omega) p.w
  have hsub : Sat.sub n R = ((n - R : Nat) : Int) := by unfold Sat.sub; split <;> omega
  rw [hsub] at CS
  clear hsub
  generalize ((n - R : Nat) : Int) = L at *
  go_enter Tryz.func41, Tryz.ntmps41
  go_wp2
  refine wp_region_in (Lt w) (Lt.drew w) (by kernel_rfl) (by kernel_rfl) ?_
  repeat (go_big_quiet_step ((go_at_call 85; refine in_same (v := .int .u64 L) ?_; exact CS _)))
  refine wpQuiet_nil ?_
  rintro _ ⟨⟨w1, hw1⟩, rfl⟩
  go_wp2
  go_ret
  exact ⟨rfl, hw1⟩
theorem entry_b {w : World} {b c cap R : Nat} {m : Int} {n : Nat} (h : Kb w b c cap R m n) (k : Nat) (k0 : n - R ≤ k) (k1 : k < n) :
    Calls Tryz.prog 43 #[.pointer (some ⟨b, 0, none⟩), .int .u64 k] w fun e w' => e = .returned (.pointer (some ⟨c, k % R * 8, none⟩)) ∧ Below w.heap.size w w' := by
  have C0 := low_b h
  have hn := h.nl
  have k0' : ((n - R : Nat) : Int) ≤ k := by omega
  have k1' : (k : Int) < (n : Int) := by omega
  obtain ⟨_, r0, r1, q0, q1, _, _⟩ := id h
  have hm : (k : Int).tmod R = ((k % R : Nat) : Int) := rfl
  have hm1 : k % R < R := Nat.mod_lt _ (by omega)
  have hmi : ((k % R : Nat) : Int) < (R : Int) := by omega
  generalize ((n - R : Nat) : Int) = L at *
  go_enter Tryz.func43, Tryz.ntmps43
  go_wp2_with (first
    | (go_at_call 41; refine C0.mono ?_; rintro e w1 ⟨rfl, L1⟩; clear C0; have hR := h.below L1; have C1 := next_b hR; have c0 : w1.cell? ⟨b, 0, none⟩ = some (.slice (some ⟨c, 0, none⟩) R cap) := hR.blk.cell 0; have hb := hR.blk.lt; have hc := hR.ltc)
    | (go_at_call 42; refine C1.mono ?_; rintro e w2 ⟨rfl, rfl⟩))
  go_quiet (fail)
  all_goals go_wp2
  all_goals go_ret
  all_goals exact ⟨rfl, Base.drawn L1 _⟩
theorem next_in {S : Nat → Prop} {w : World} {b c cap : Nat} {kc : List Sn} {g : Lg} (h : Kp S w b c cap kc g) :
    Calls Tryz.prog 42 #[.pointer (some ⟨b, 0, none⟩)] w fun e w' => e = .returned (.int .u64 g.l.length) ∧ w = w' := next_b h.kb
theorem low_in {S : Nat → Prop} {w : World} {b c cap : Nat} {kc : List Sn} {g : Lg} (h : Kp S w b c cap kc g) :
    Calls Tryz.prog 41 #[.pointer (some ⟨b, 0, none⟩)] w fun e w' => e = .returned (.int .u64 (lowN g)) ∧ Below w.heap.size w w' := by
  rw [h.low]
  exact low_b h.kb
theorem entry_none {S : Nat → Prop} {w : World} {b c cap : Nat} {kc : List Sn} {g : Lg} (h : Kp S w b c cap kc g) (pn : Int) (p0 : 0 ≤ pn) (p1 : pn ≤ 18446744073709551615) (hk : ¬ keptN g pn) :
    Calls Tryz.prog 43 #[.pointer (some ⟨b, 0, none⟩), .int .u64 pn] w fun e w' => e = .returned (.pointer none) ∧ Below w.heap.size w w' := by
  have C0 := low_in h
  unfold keptN at hk
  have hn := h.nl
  by_cases h1 : pn < (lowN g : Int)
  · generalize (lowN g : Int) = L at *
    go_enter Tryz.func43, Tryz.ntmps43
    go_wp2_with (go_at_call 41; refine C0.mono ?_; rintro e w1 ⟨rfl, L1⟩; clear C0)
    go_ret
    exact ⟨rfl, L1⟩
  · have h2 : (g.l.length : Int) ≤ pn := by omega
    generalize (lowN g : Int) = L at *
    go_enter Tryz.func43, Tryz.ntmps43
    go_wp2_with (first
      | (go_at_call 41; refine C0.mono ?_; rintro e w1 ⟨rfl, L1⟩; clear C0; have C1 := next_in (h.below L1))
      | (go_at_call 42; refine C1.mono ?_; rintro e w2 ⟨rfl, rfl⟩))
    go_ret
    exact ⟨rfl, L1⟩
theorem entry_some {S : Nat → Prop} {w : World} {b c cap : Nat} {kc : List Sn} {g : Lg} (h : Kp S w b c cap kc g) (k : Nat) (k0 : lowN g ≤ k) (k1 : k < g.l.length) :
    Calls Tryz.prog 43 #[.pointer (some ⟨b, 0, none⟩), .int .u64 k] w fun e w' => e = .returned (.pointer (some ⟨c, k % kc.length * 8, none⟩)) ∧ Below w.heap.size w w' :=
  entry_b h.kb k (by rw [← h.low]; exact k0) k1
theorem least_in {S : Nat → Prop} {w : World} {b c cap : Nat} {kc : List Sn} {g : Lg} (h : Kp S w b c cap kc g) :
    Calls Tryz.prog 68 #[.pointer (some ⟨b, 0, none⟩)] w fun e w' => e = .returned (.int .u64 (leastN g)) ∧ Below w.heap.size w w' := by
  have hlow := low_le g
  have hN : firstF (lowN g) (g.l.drop (lowN g)) = leastN g := rfl
  have C0 := low_in h
  generalize hk0 : lowN g = k0 at *
  generalize leastN g = K at *
  have hnl := h.nl
  go_enter Tryz.func68, Tryz.ntmps68
  go_wp2_with (go_at_call 41; refine C0.mono ?_; rintro e w1 ⟨rfl, L1⟩; clear C0)
  go_loopw [3] (fun i wr => ∃ k : Nat, k0 ≤ k ∧ k ≤ g.l.length ∧ i = .int .u64 k ∧ firstF k (g.l.drop k) = K ∧ Below w.heap.size w wr) (fun i _ => g.l.length - (intOf i).toNat)
  case atStart => exact ⟨k0, Nat.le_refl _, hlow, rfl, hN, L1⟩
  case round =>
    obtain ⟨k, hk0', hk, rfl, hF, hL⟩ := hrel
    have hR := h.below hL
    have C1 := next_in hR
    have hkI : (k : Int) ≤ (g.l.length : Int) := by omega
    by_cases hlt : k < g.l.length
    · rw [first_step hlt] at hF
      have hltI : (k : Int) < (g.l.length : Int) := by omega
      have C2 := entry_some hR k (by omega) hlt
      by_cases hs : (g.l.getD k Z8).state = 1
      · rw [if_pos hs] at hF
        subst hF
        go_wp2_with (first
          | (go_at_call 42; refine C1.mono ?_; rintro e w2 ⟨rfl, rfl⟩)
          | (go_at_call 43; refine C2.mono ?_; rintro e w3 ⟨rfl, L3⟩; obtain ⟨_, _, _, _, _, _, _, e7⟩ := (hR.below L3).cells (by omega) hlt; rw [show (atN g k).state = 1 from hs] at e7; have hc := (hR.below L3).ltc; have hL3 := Base.next hL L3))
        go_ret
        exact ⟨rfl, hL3⟩
      · rw [if_neg hs] at hF
        go_wp2_with (first
          | (go_at_call 42; refine C1.mono ?_; rintro e w2 ⟨rfl, rfl⟩)
          | (go_at_call 43; refine C2.mono ?_; rintro e w3 ⟨rfl, L3⟩; obtain ⟨_, _, _, _, _, _, _, e7⟩ := (hR.below L3).cells (by omega) hlt; have hs' : (atN g k).state ≠ 1 := hs; generalize (atN g k).state = y at *; have hc := (hR.below L3).ltc; have hL3 := Base.next hL L3))
        all_goals go_roundw
        case rel => exact ⟨k + 1, by omega, by omega, by go_num, hF, hL3⟩
        case measure => simp [intOf]; omega
    · obtain rfl : k = g.l.length := by omega
      rw [List.drop_eq_nil_of_le (Nat.le_refl _)] at hF
      obtain rfl : g.l.length = K := hF
      go_wp2_with (go_at_call 42; refine C1.mono ?_; rintro e w2 ⟨rfl, rfl⟩)
      go_ret
      exact ⟨rfl, hL⟩
theorem room_in {S : Nat → Prop} {w : World} {b c cap : Nat} {kc : List Sn} {g : Lg} (h : Kp S w b c cap kc g) :
    Calls Tryz.prog 70 #[.pointer (some ⟨b, 0, none⟩)] w fun e w' => e = .returned (.int .i64 (roomI g)) ∧ Below w.heap.size w w' := by
  have e0 := fun p : In (Lt w) => inCell p h.c0
  have e2 := fun p : In (Lt w) => inCell p h.c2
  have CL := fun p : In (Lt w) => least_in (h.below p.h)
  have hge := least_le g
  have hge2 : (leastN g : Int) ≤ g.l.length := by omega
  have hrm : roomI g = g.ring - ((g.l.length : Int) - leastN g) := rfl
  have hR := room_ge h.ok
  have hR2 := room_le h.ok
  have hl := h.len
  rw [← hl] at hrm hR2
  have hnl := h.nl
  have hb := h.lt
  obtain ⟨r0, r1⟩ := h.r0
  obtain ⟨q0, q1⟩ := h.caps
  clear h hl hge
  generalize (leastN g : Int) = K at *
  generalize roomI g = R at *
  generalize (g.l.length : Int) = n at *
  generalize kc.length = r at *
  go_enter Tryz.func70, Tryz.ntmps70
  go_wp2
  refine wp_region_in (Lt w) (Lt.drew w) (by kernel_rfl) (by kernel_rfl) ?_
  repeat (go_big_quiet_step ((go_at_call 68; refine in_below (v := .int .u64 K) ?_; exact CL _)))
  refine wpQuiet_nil ?_
  rintro _ ⟨⟨w1, hw1⟩, rfl⟩
  go_wp2
  go_ret
  exact ⟨Base.ret_i64 (by omega), hw1⟩
theorem flight_in {S : Nat → Prop} {w : World} {b c cap : Nat} {kc : List Sn} {g : Lg} (h : Kp S w b c cap kc g) :
    Calls Tryz.prog 72 #[.pointer (some ⟨b, 0, none⟩)] w fun e w' => e = .returned (.int .u64 (flight g)) ∧ Below w.heap.size w w' := by
  have hlow := low_le g
  have hN : (0 : Int) + fly (g.l.drop (lowN g)) = flight g := Int.zero_add _
  obtain ⟨_, hF1⟩ := flight_bd h.ok
  have C0 := low_in h
  generalize hk0 : lowN g = k0 at *
  generalize flight g = F at *
  have hnl := h.nl
  go_enter Tryz.func72, Tryz.ntmps72
  go_wp2_with (go_at_call 41; refine C0.mono ?_; rintro e w1 ⟨rfl, L1⟩; clear C0)
  go_loopw [3, 4] (fun o i wr => ∃ (k : Nat) (n : Int), k0 ≤ k ∧ k ≤ g.l.length ∧ i = .int .u64 k ∧ o = .int .u64 n ∧ 0 ≤ n ∧ n + fly (g.l.drop k) = F ∧ Below w.heap.size w wr) (fun _ i _ => g.l.length - (intOf i).toNat)
  case atStart => exact ⟨k0, 0, Nat.le_refl _, hlow, rfl, rfl, Int.le_refl _, hN, L1⟩
  case round =>
    obtain ⟨k, n, hk0', hk, rfl, rfl, hn0, hF, hL⟩ := hrel
    have hR := h.below hL
    have C1 := next_in hR
    have hkI : (k : Int) ≤ (g.l.length : Int) := by omega
    have hbd := fly_bd h.ok k
    have hbd1 := fly_bd h.ok (k + 1)
    by_cases hlt : k < g.l.length
    · rw [fly_step hlt] at hF
      have hltI : (k : Int) < (g.l.length : Int) := by omega
      have C2 := entry_some hR k (by omega) hlt
      have hE := h.ok.each k hlt
      have hX := fun (W : World) (hW : Below w.heap.size w W) => (h.below hW).cells (k := k) (by omega) hlt
      have hc0 := fun (W : World) (hW : Below w.heap.size w W) => (h.below hW).ltc
      rw [show g.l.getD k Z8 = atN g k from rfl] at hF
      generalize atN g k = s at *
      generalize hfe : fly (g.l.drop (k + 1)) = f at *
      have HF := Lib.hid hfe
      clear hfe hN hbd
      obtain ⟨f0, _⟩ := hbd1
      obtain ⟨_, _, _, _, hE, _, _⟩ := hE
      by_cases hs : s.state = 1
      · rw [if_pos hs] at hF
        obtain ⟨l0, l1, _⟩ := hE (by omega)
        clear hE
        generalize hx : s.len = x at *
        have hF' := Lib.hid hF
        have hx1 : n + x ≤ 384000 := by omega
        clear hF
        have HX := Lib.hid hx
        clear hx
        have C3 := Sat.add_any n x (by omega) (by omega) (by omega) (by omega)
        rw [show Sat.add n x = n + x by unfold Sat.add; rw [if_pos (by omega)]] at C3
        have HS := Lib.hid hs
        clear hs
        go_wp2_with (first
          | (go_at_call 42; refine C1.mono ?_; rintro e w2 ⟨rfl, rfl⟩)
          | (go_at_call 43; refine C2.mono ?_; rintro e w3 ⟨rfl, L3⟩; have hL3 := Base.next hL L3; obtain ⟨_, _, e2, _, _, _, _, e7⟩ := hX _ hL3; have hc := hc0 _ hL3; rw [HS.out] at e7; rw [HX.out] at e2; clear HS HX)
          | (go_at_call 104; refine (C3 _).mono ?_; rintro e w4 ⟨rfl, rfl⟩))
        all_goals go_roundw
        case rel => exact ⟨k + 1, n + x, by omega, by omega, by go_num, rfl, by omega, by rw [HF.out]; have := hF'.out; omega, hL3⟩
        case measure => simp [intOf]; omega
      · rw [if_neg hs] at hF
        clear hE
        generalize hy : s.state = y at *
        have HY := Lib.hid hy
        clear hy
        go_wp2_with (first
          | (go_at_call 42; refine C1.mono ?_; rintro e w2 ⟨rfl, rfl⟩)
          | (go_at_call 43; refine C2.mono ?_; rintro e w3 ⟨rfl, L3⟩; have hL3 := Base.next hL L3; obtain ⟨_, _, _, _, _, _, _, e7⟩ := hX _ hL3; have hc := hc0 _ hL3; rw [HY.out] at e7; clear HY))
        all_goals go_roundw
        case rel => exact ⟨k + 1, n, by omega, by omega, by go_num, rfl, hn0, by rw [HF.out]; omega, hL3⟩
        case measure => simp [intOf]; omega
    · obtain rfl : k = g.l.length := by omega
      rw [List.drop_eq_nil_of_le (Nat.le_refl _)] at hF
      obtain rfl : n = F := by have : fly [] = 0 := rfl; omega
      go_wp2_with (go_at_call 42; refine C1.mono ?_; rintro e w2 ⟨rfl, rfl⟩)
      go_ret
      exact ⟨rfl, hL⟩
end Go.Proofs.YtkiloaebokkjbaaGreat.Led

/-
  Contracts of the program's ledger: what reads one number, what turns it.
-/
set_option linter.unusedSimpArgs false
set_option linter.unusedVariables false
namespace Go.Proofs.YtkiloaebokkjbaaGreat.Led
set_option linter.unusedVariables false
set_option maxRecDepth 20000
open Go.ChangeShapes Go.WideShapes Go.ChangeAt Go.RowKit
open Go.Proofs.YtkiloaebokkjbaaGreat.Base Go.Proofs.YtkiloaebokkjbaaGreat.LedPlain

theorem valid_in (s : Sn) (hs : Words s) (w : World) :
    Calls Tryz.prog 80 #[.agg #[.int .u64 s.pn, .int .u64 s.off, .int .u64 s.len, .int .u64 s.nonce, .int .u64 s.time, .bool s.coin, .bool s.used, .int .i64 s.state]] w fun e w' => e = .returned (.bool (decide (¬ badS s))) ∧ Below w.heap.size w w' := by
  have hb : (decide (¬ badS s)) = (decide (1 ≤ s.len) && decide (s.len ≤ 1500) && decide (s.off ≤ 4611686018427387903)) := by
    unfold badS
    rw [Bool.eq_iff_iff]
    simp only [Bool.and_eq_true, decide_eq_true_eq]
    omega
  rw [hb]
  clear hb
  unfold Words at hs
  by_cases h1 : 1 ≤ s.len
  · by_cases h2 : s.len ≤ 1500
    · by_cases h3 : s.off ≤ 4611686018427387903
      all_goals
        go_enter Tryz.func80, Tryz.ntmps80
        go_wp2
        go_ret
        exact ⟨Base.ret_bool (by simp [h1, h2, h3]), (Below.refl _ _).alloc (Nat.le_refl _) _⟩
    · go_enter Tryz.func80, Tryz.ntmps80
      go_wp2
      go_ret
      exact ⟨Base.ret_bool (by simp [h1]; omega), (Below.refl _ _).alloc (Nat.le_refl _) _⟩
  · go_enter Tryz.func80, Tryz.ntmps80
    go_wp2
    go_ret
    exact ⟨Base.ret_bool (by simp; omega), (Below.refl _ _).alloc (Nat.le_refl _) _⟩
def follows (a b : Int) : Bool := decide ((b = 2 ∧ (a = 1 ∨ a = 3)) ∨ (b = 3 ∧ a = 1))
theorem follows_in (x y : Int) (x0 : -9223372036854775808 ≤ x) (x1 : x ≤ 9223372036854775807) (y0 : -9223372036854775808 ≤ y) (y1 : y ≤ 9223372036854775807) (w : World) :
    Calls Tryz.prog 106 #[.int .i64 x, .int .i64 y] w fun e w' => e = .returned (.bool (follows x y)) ∧ w = w' := by
  by_cases h1 : y = 2
  · subst h1
    by_cases h2 : x = 1
    · subst h2
      go_enter Tryz.func106, Tryz.ntmps106
      go_wp2
      go_ret
      exact ⟨rfl, rfl⟩
    · by_cases h3 : x = 3
      · subst h3
        go_enter Tryz.func106, Tryz.ntmps106
        go_wp2
        go_ret
        exact ⟨rfl, rfl⟩
      · go_enter Tryz.func106, Tryz.ntmps106
        go_wp2
        go_ret
        exact ⟨Base.ret_bool (by unfold follows; simp [h2, h3]), rfl⟩
  · by_cases h2 : y = 3
    · subst h2
      by_cases h3 : x = 1
      all_goals
        go_enter Tryz.func106, Tryz.ntmps106
        go_wp2
        go_ret
        exact ⟨Base.ret_bool (by unfold follows; simp [h3]), rfl⟩
    · go_enter Tryz.func106, Tryz.ntmps106
      go_wp2
      go_ret
      exact ⟨Base.ret_bool (by unfold follows; simp [h1, h2]), rfl⟩
theorem get_in {S : Nat → Prop} {w : World} {b c cap : Nat} {kc : List Sn} {g : Lg} (h : Kp S w b c cap kc g) (pn : Int) (p0 : 0 ≤ pn) (p1 : pn ≤ 18446744073709551615) :
    Calls Tryz.prog 28 #[.pointer (some ⟨b, 0, none⟩), .int .u64 pn] w fun e w' => e = .returned (.tuple #[.agg #[.int .u64 (getS g pn).pn, .int .u64 (getS g pn).off, .int .u64 (getS g pn).len, .int .u64 (getS g pn).nonce, .int .u64 (getS g pn).time, .bool (getS g pn).coin, .bool (getS g pn).used, .int .i64 (getS g pn).state], .bool (hasN g pn)]) ∧ Below w.heap.size w w' := by
  obtain ⟨k, rfl⟩ := Int.eq_ofNat_of_zero_le p0
  by_cases hk : keptN g k
  · rw [show getS g k = g.l.getD k Z8 by unfold getS; rw [if_pos hk]; rfl, show hasN g k = true by unfold hasN; exact decide_eq_true hk]
    have hk1 : lowN g ≤ k := by have := hk.1; omega
    have hk2 : k < g.l.length := by have := hk.2; omega
    clear hk
    have hs : atN g k = g.l.getD k Z8 := rfl
    generalize g.l.getD k Z8 = s at *
    go_enter Tryz.func28, Tryz.ntmps28
    go_upto_region 1 with fail
    have hB := Blk.new w #[.int .u64 0, .int .u64 0, .int .u64 0, .int .u64 0, .int .u64 0, .bool false, .bool false, .int .i64 0] 76
    have hL : Below w.heap.size w (w.alloc (.cells #[.int .u64 0, .int .u64 0, .int .u64 0, .int .u64 0, .int .u64 0, .bool false, .bool false, .int .i64 0] 76)) := (Below.refl _ _).alloc (Nat.le_refl _) _
    have hR := h.below hL
    generalize w.alloc (.cells #[.int .u64 0, .int .u64 0, .int .u64 0, .int .u64 0, .int .u64 0, .bool false, .bool false, .int .i64 0] 76) = W at hB hL hR ⊢
    have C0 := entry_some hR k hk1 hk2
    go_wp2_with (first
      | (go_at_call 43; refine C0.mono ?_; rintro e w1 ⟨rfl, L1⟩; have hB1 := hB.below L1 hB.lt; have hL1 := Base.next hL L1; have hR1 := hR.below L1; have hc := hR1.ltc; obtain ⟨e0, e1, e2, e3, e4, e5, e6, e7⟩ := hR1.cells hk1 hk2; rw [hs] at e0 e1 e2 e3 e4 e5 e6 e7)
      | (refine wpl_store_row rfl 76 (.tmp 4) (.tmp 15) rfl hB1 #[.int .u64 s.pn, .int .u64 s.off, .int .u64 s.len, .int .u64 s.nonce, .int .u64 s.time, .bool s.coin, .bool s.used, .int .i64 s.state] rfl rfl (by kernel_rfl) rfl (by simp [Value.oneCell']) ?_))
    (refine bodyPost_ret (results_rowT rfl _ _ w.heap.size 76 #[.int .u64 s.pn, .int .u64 s.off, .int .u64 s.len, .int .u64 s.nonce, .int .u64 s.time, .bool s.coin, .bool s.used, .int .i64 s.state] _ rfl (hB1.setRow _) Tryz.underlying76 rfl (by kernel_rfl)) rfl ?_)
    exact ⟨rfl, below_setRow' hL1 (Nat.le_refl _)⟩
  · rw [show getS g k = Z8 by unfold getS; rw [if_neg hk], show hasN g k = false by unfold hasN; exact decide_eq_false hk]
    go_enter Tryz.func28, Tryz.ntmps28
    go_upto_region 1 with fail
    have hB := Blk.new w #[.int .u64 0, .int .u64 0, .int .u64 0, .int .u64 0, .int .u64 0, .bool false, .bool false, .int .i64 0] 76
    have hL : Below w.heap.size w (w.alloc (.cells #[.int .u64 0, .int .u64 0, .int .u64 0, .int .u64 0, .int .u64 0, .bool false, .bool false, .int .i64 0] 76)) := (Below.refl _ _).alloc (Nat.le_refl _) _
    have hR := h.below hL
    generalize w.alloc (.cells #[.int .u64 0, .int .u64 0, .int .u64 0, .int .u64 0, .int .u64 0, .bool false, .bool false, .int .i64 0] 76) = W at hB hL hR ⊢
    have C0 := entry_none hR k p0 p1 hk
    clear hk
    go_wp2_with (first
      | (go_at_call 43; refine C0.mono ?_; rintro e w1 ⟨rfl, L1⟩; have hB1 := hB.below L1 hB.lt; have hL1 := Base.next hL L1)
      | (refine wpl_store_row rfl 76 (.tmp 4) (.tmp 12) rfl hB1 #[.int .u64 0, .int .u64 0, .int .u64 0, .int .u64 0, .int .u64 0, .bool false, .bool false, .int .i64 0] rfl rfl (by kernel_rfl) rfl (by simp [Value.oneCell']) ?_))
    (refine bodyPost_ret (results_rowT rfl _ _ w.heap.size 76 #[.int .u64 0, .int .u64 0, .int .u64 0, .int .u64 0, .int .u64 0, .bool false, .bool false, .int .i64 0] _ rfl (hB1.setRow _) Tryz.underlying76 rfl (by kernel_rfl)) rfl ?_)
    exact ⟨rfl, below_setRow' hL1 (Nat.le_refl _)⟩
/-- One number's place turned. -/
theorem Kp.turned {S : Nat → Prop} {w w' : World} {b c cap : Nat} {kc : List Sn} {g : Lg} (h : Kp S w b c cap kc g) {k : Nat} (k0 : lowN g ≤ k) (k1 : k < g.l.length) {s : Sn} (ho : Ok { g with l := g.l.set k s })
    (hO : Owns w' (.slice (some ⟨c, 0, none⟩) kc.length cap) (kc.set (k % kc.length) s)) (hF : Fr (fun j => j = c) w w') : Kp S w' b c cap (kc.set (k % kc.length) s) { g with l := g.l.set k s } := by
  have hr := h.r0
  have hl := h.low
  refine ⟨ho, h.inB, h.inC, h.ne, ?_, ?_, ?_, ?_⟩
  · simp only [List.length_set]
    exact h.blk.kept hF (fun e => h.ne e.symm)
  · rw [List.length_set]
    exact hO
  · rw [List.length_set]
    exact h.len
  · intro i hi hi2
    rw [low_set] at hi
    simp only [List.length_set] at hi2 ⊢
    by_cases e : k = i
    · subst e
      rw [getD_set_same _ _ (Nat.mod_lt _ (by omega)), at_set k1]
    · rw [getD_set_other _ _ (mod_ne (L := g.l.length) (by omega) (by omega) (by omega) k1 hi2 e), at_set_ne e]
      exact h.at_ i hi hi2
theorem use_in {S : Nat → Prop} {w : World} {b c cap : Nat} {kc : List Sn} {g : Lg} (h : Kp S w b c cap kc g) (pn : Int) (p0 : 0 ≤ pn) (p1 : pn ≤ 18446744073709551615) :
    Calls Tryz.prog 50 #[.pointer (some ⟨b, 0, none⟩), .int .u64 pn] w fun e w' => e = .returned (.bool (useB g pn)) ∧ (∃ kc', Kp S w' b c cap kc' (useG g pn)) ∧ Fr S w w' := by
  by_cases hk : keptN g pn
  · obtain ⟨k, rfl, hkl, ek⟩ := kept_nat hk
    have hk1 : lowN g ≤ k := by have := hk.1; omega
    have C0 := entry_some h k hk1 hkl
    have hX := fun (W : World) (hW : Below w.heap.size w W) => (h.below hW).cells (k := k) hk1 hkl
    by_cases hn : (g.l.getD k Z8).state ≠ 4 ∧ (g.l.getD k Z8).used = false
    · have hu : useB g k = true := decide_eq_true ⟨hk, by rw [ek]; exact hn.1, by rw [ek]; exact hn.2⟩
      have ho := ok_use h.ok k
      have eu : useG g k = { g with l := g.l.set k { atN g k with used := true } } := by unfold useG; rw [if_pos hu, ek]
      rw [eu] at ho ⊢
      rw [hu]
      clear hu eu hk ek
      have hs : atN g k = g.l.getD k Z8 := rfl
      have ha := h.at_ k hk1 hkl
      generalize hgs : g.l.getD k Z8 = s at *
      rw [hs] at ho ⊢
      rw [hs] at ha
      obtain ⟨h4, hf⟩ := hn
      have HS := Lib.hid hs
      have HO := Lib.hid ho
      have HF := Lib.hid hf
      clear hs ho hf hgs
      go_enter Tryz.func50, Tryz.ntmps50
      go_upto_region 1 with fail
      go_upto_region 2 with (go_at_call 43; refine C0.mono ?_; rintro e w1 ⟨rfl, L1⟩; have hR := h.below L1; obtain ⟨_, _, _, _, _, _, e6, e7⟩ := hX _ L1; clear hX; rw [HS.out] at e6 e7; rw [HF.out] at e6; have hc := hR.ltc; clear C0)
      obtain ⟨c', cap', e, q1, q2, q3, q4, q5, q6⟩ := hR.own.set (k := k % kc.length) (Nat.mod_lt _ (by have := h.r0; omega)) 6 (by decide)
      injection e with e1 e2 e3
      injection e1 with e1
      injection e1 with e1 _ _
      subst e1
      subst e3
      rw [ha] at q6
      have Q6 := q6 { s with used := true } (.bool true) rfl
      clear q6 q4 ha
      go_wp2
      go_ret
      exact ⟨rfl, ⟨_, hR.turned hk1 hkl HO.out Q6 ((Fr.refl (fun j => j = c) _).setCell (fun _ => rfl) _)⟩, (Fr.of_below L1).setCell (fun _ => h.inC) _⟩
    · have hu : useB g k = false := decide_eq_false fun q => hn ⟨by have := q.2.1; rw [ek] at this; exact this, by have := q.2.2; rw [ek] at this; exact this⟩
      rw [show useG g k = g by unfold useG; rw [hu]; rfl, hu]
      clear hu hk ek
      have hs : atN g k = g.l.getD k Z8 := rfl
      generalize g.l.getD k Z8 = s at *
      rw [hs] at hX
      clear hs
      by_cases h4 : s.state = 4
      · have HF := Lib.hid h4
        clear h4 hn
        go_enter Tryz.func50, Tryz.ntmps50
        go_wp2_with (go_at_call 43; refine C0.mono ?_; rintro e w1 ⟨rfl, L1⟩; have hR := h.below L1; obtain ⟨_, _, _, _, _, _, e6, e7⟩ := hX _ L1; clear hX; rw [HF.out] at e7; have hc := hR.ltc; clear C0)
        go_ret
        exact ⟨rfl, ⟨_, hR⟩, Fr.of_below L1⟩
      · have h5 : s.used = true := by
          cases e : s.used with
          | true => rfl
          | false => exact absurd ⟨h4, e⟩ hn
        have HF := Lib.hid h5
        clear h5 hn
        generalize hy : s.state = y at *
        have HY := Lib.hid hy
        clear hy
        go_enter Tryz.func50, Tryz.ntmps50
        go_wp2_with (go_at_call 43; refine C0.mono ?_; rintro e w1 ⟨rfl, L1⟩; have hR := h.below L1; obtain ⟨_, _, _, _, _, _, e6, e7⟩ := hX _ L1; clear hX; rw [HF.out] at e6; rw [HY.out] at e7; have hc := hR.ltc; clear C0)
        go_ret
        exact ⟨rfl, ⟨_, hR⟩, Fr.of_below L1⟩
  · have C0 := entry_none h pn p0 p1 hk
    have hu : useB g pn = false := decide_eq_false fun q => hk q.1
    rw [show useG g pn = g by unfold useG; rw [hu]; rfl, hu]
    clear hu hk
    go_enter Tryz.func50, Tryz.ntmps50
    go_wp2_with (go_at_call 43; refine C0.mono ?_; rintro e w1 ⟨rfl, L1⟩; have hR := h.below L1; clear C0)
    go_ret
    exact ⟨rfl, ⟨_, hR⟩, Fr.of_below L1⟩
theorem settle_in {S : Nat → Prop} {w : World} {b c cap : Nat} {kc : List Sn} {g : Lg} (h : Kp S w b c cap kc g) (pn st : Int) (p0 : 0 ≤ pn) (p1 : pn ≤ 18446744073709551615) (s0 : -9223372036854775808 ≤ st) (s1 : st ≤ 9223372036854775807) :
    Calls Tryz.prog 78 #[.pointer (some ⟨b, 0, none⟩), .int .u64 pn, .int .i64 st] w fun e w' => e = .returned (.bool (settleB g pn st)) ∧ (∃ kc', Kp S w' b c cap kc' (settleG g pn st)) ∧ Fr S w w' := by
  by_cases hk : keptN g pn
  · obtain ⟨k, rfl, hkl, ek⟩ := kept_nat hk
    have hk1 : lowN g ≤ k := by have := hk.1; omega
    have C0 := entry_some h k hk1 hkl
    have hX := fun (W : World) (hW : Below w.heap.size w W) => (h.below hW).cells (k := k) hk1 hkl
    have hw := (h.ok.each k hkl).2.1
    have C1 := follows_in (atN g k).state st (by unfold Words at hw; omega) (by unfold Words at hw; omega) s0 s1
    have hb : settleB g k st = follows (atN g k).state st := by
      unfold settleB follows
      rw [ek]
      exact decide_eq_decide.2 ⟨fun q => q.2, fun q => ⟨hk, q⟩⟩
    have ho := ok_settle h.ok k st
    have eu : settleG g k st = if follows (atN g k).state st = true then { g with l := g.l.set k { atN g k with state := st } } else g := by unfold settleG; rw [hb, ek]
    have ha := h.at_ k hk1 hkl
    rw [eu] at ho ⊢
    rw [hb]
    clear eu hb hk ek hw
    generalize hgs : atN g k = s at *
    clear hgs
    cases hf : follows s.state st with
    | true =>
      rw [hf] at C1 ho
      rw [if_pos rfl] at ho ⊢
      have HO := Lib.hid ho
      clear ho hf
      generalize hy : s.state = y at *
      have HY := Lib.hid hy
      clear hy
      go_enter Tryz.func78, Tryz.ntmps78
      go_upto_region 1 with fail
      go_upto_region 2 with (go_at_call 43; refine C0.mono ?_; rintro e w1 ⟨rfl, L1⟩; have hR := h.below L1; obtain ⟨_, _, _, _, _, _, e6, e7⟩ := hX _ L1; clear hX; rw [HY.out] at e7; have hc := hR.ltc; clear C0)
      obtain ⟨c', cap', e, q1, q2, q3, q4, q5, q6⟩ := hR.own.set (k := k % kc.length) (Nat.mod_lt _ (by have := h.r0; omega)) 7 (by decide)
      injection e with e1 e2 e3
      injection e1 with e1
      injection e1 with e1 _ _
      subst e1
      subst e3
      rw [ha] at q6
      have Q6 := q6 { s with state := st } (.int .i64 st) rfl
      clear q6 q4 ha
      go_wp2_with (go_at_call 106; refine (C1 _).mono ?_; rintro e w2 ⟨rfl, rfl⟩)
      go_ret
      exact ⟨rfl, ⟨_, hR.turned hk1 hkl HO.out Q6 ((Fr.refl (fun j => j = c) _).setCell (fun _ => rfl) _)⟩, (Fr.of_below L1).setCell (fun _ => h.inC) _⟩
    | false =>
      rw [hf] at C1
      rw [if_neg (by decide)]
      clear ho hf
      generalize hy : s.state = y at *
      have HY := Lib.hid hy
      clear hy
      go_enter Tryz.func78, Tryz.ntmps78
      go_wp2_with (first
        | (go_at_call 43; refine C0.mono ?_; rintro e w1 ⟨rfl, L1⟩; have hR := h.below L1; obtain ⟨_, _, _, _, _, _, e6, e7⟩ := hX _ L1; clear hX; rw [HY.out] at e7; have hc := hR.ltc; clear C0)
        | (go_at_call 106; refine (C1 _).mono ?_; rintro e w2 ⟨rfl, rfl⟩))
      go_ret
      exact ⟨rfl, ⟨_, hR⟩, Fr.of_below L1⟩
  · have C0 := entry_none h pn p0 p1 hk
    have hu : settleB g pn st = false := decide_eq_false fun q => hk q.1
    rw [show settleG g pn st = g by unfold settleG; rw [hu]; rfl, hu]
    clear hu hk
    go_enter Tryz.func78, Tryz.ntmps78
    go_wp2_with (go_at_call 43; refine C0.mono ?_; rintro e w1 ⟨rfl, L1⟩; have hR := h.below L1; clear C0)
    go_ret
    exact ⟨rfl, ⟨_, hR⟩, Fr.of_below L1⟩
end Go.Proofs.YtkiloaebokkjbaaGreat.Led

/-
  Contracts of the program's ledger: what gives a number.
-/
set_option linter.unusedSimpArgs false
set_option linter.unusedVariables false
namespace Go.Proofs.YtkiloaebokkjbaaGreat.Led
set_option linter.unusedVariables false
set_option maxRecDepth 20000
open Go.ChangeShapes Go.WideShapes Go.ChangeAt Go.RowKit
open Go.Proofs.YtkiloaebokkjbaaGreat.Base Go.Proofs.YtkiloaebokkjbaaGreat.LedPlain

/-- The ring behind one more. -/
theorem Kp.given {S : Nat → Prop} {w w' : World} {b c cap : Nat} {kc : List Sn} {g : Lg} (h : Kp S w b c cap kc g) {s : Sn} (he : giveE g = 0) (ho : Ok (giveG g s)) {n1 : Int} (hn1 : n1 = (g.l.length : Int) + 1)
    (hB : Blk w' b #[.slice (some ⟨c, 0, none⟩) kc.length cap, .int .u64 g.limit, .int .u64 n1] 142)
    (hO : Owns w' (.slice (some ⟨c, 0, none⟩) kc.length cap) (kc.set (g.l.length % kc.length) { s with pn := g.l.length })) : Kp S w' b c cap (kc.set (g.l.length % kc.length) { s with pn := g.l.length }) (giveG g s) := by
  have hr := h.r0
  have hl := h.low
  have hln := h.len
  have eg : giveG g s = { g with l := g.l ++ [{ s with pn := g.l.length }] } := by unfold giveG; rw [if_pos he]
  rw [eg] at ho ⊢
  subst hn1
  refine ⟨ho, h.inB, h.inC, h.ne, ?_, ?_, ?_, ?_⟩
  · simp only [List.length_set, List.length_append, List.length_singleton]
    exact hB
  · rw [List.length_set]
    exact hO
  · rw [List.length_set]
    exact h.len
  · intro i hi hi2
    unfold lowN at hi
    simp only [List.length_append, List.length_singleton, List.length_set] at hi hi2 ⊢
    by_cases e : i = g.l.length
    · subst e
      rw [getD_set_same _ _ (Nat.mod_lt _ (by omega)), at_snoc]
    · rw [getD_set_other _ _ (mod_ne (L := g.l.length + 1) (by omega) (by omega) (by omega) (by omega) (by omega) (Ne.symm e)), at_snoc_lt (by omega)]
      exact h.at_ i (by omega) (by omega)
theorem assign_in {S : Nat → Prop} {w : World} {b c cap : Nat} {kc : List Sn} {g : Lg} (h : Kp S w b c cap kc g) (s : Sn) (ho : Ok (giveG g s)) :
    Calls Tryz.prog 81 #[.pointer (some ⟨b, 0, none⟩), .agg #[.int .u64 s.pn, .int .u64 s.off, .int .u64 s.len, .int .u64 s.nonce, .int .u64 s.time, .bool s.coin, .bool s.used, .int .i64 s.state]] w
      fun e w' => e = .returned (.tuple #[.int .u64 (giveN g), .int .i64 (giveE g)]) ∧ (∃ kc', Kp S w' b c cap kc' (giveG g s)) ∧ Fr S w w' := by
  have hl1 := h.ok.l1
  have hl0 := h.ok.l0
  have hnl := h.nl
  by_cases h8 : g.limit < (g.l.length : Int)
  · have he : giveE g = 8 := by unfold giveE; rw [if_pos (by omega)]
    rw [show giveN g = 0 by unfold giveN; rw [if_neg (by omega)], show giveG g s = g by unfold giveG; rw [if_neg (by omega)], he]
    clear he ho
    go_enter Tryz.func81, Tryz.ntmps81
    go_upto_region 1 with fail
    have hL : Below w.heap.size w (w.alloc (.cells #[.int .u64 s.pn, .int .u64 s.off, .int .u64 s.len, .int .u64 s.nonce, .int .u64 s.time, .bool s.coin, .bool s.used, .int .i64 s.state] 76)) := (Below.refl _ _).alloc (Nat.le_refl _) _
    generalize w.alloc (.cells #[.int .u64 s.pn, .int .u64 s.off, .int .u64 s.len, .int .u64 s.nonce, .int .u64 s.time, .bool s.coin, .bool s.used, .int .i64 s.state] 76) = W at hL ⊢
    have hR := h.below hL
    have e1 := fun p : In (Lt W) => inCell p hR.c1
    have e2 := fun p : In (Lt W) => inCell p hR.c2
    go_wp2
    refine wp_region_in (Lt W) (Lt.drew W) (by kernel_rfl) (by kernel_rfl) ?_
    repeat (go_big_quiet_step (fail))
    refine wpQuiet_nil ?_
    rintro w1 ⟨⟨_, hw1⟩, rfl⟩
    have hw1 : Below W.heap.size W w1 := hw1
    go_wp2
    go_ret2
    exact ⟨rfl, ⟨_, hR.below hw1⟩, Fr.of_below (Base.next hL hw1)⟩
  · by_cases h7 : roomI g = 0
    · have he : giveE g = 7 := by unfold giveE; rw [if_neg (by omega), if_pos (by omega)]
      rw [show giveN g = 0 by unfold giveN; rw [if_neg (by omega)], show giveG g s = g by unfold giveG; rw [if_neg (by omega)], he]
      clear he ho
      go_enter Tryz.func81, Tryz.ntmps81
      go_upto_region 1 with fail
      have hL : Below w.heap.size w (w.alloc (.cells #[.int .u64 s.pn, .int .u64 s.off, .int .u64 s.len, .int .u64 s.nonce, .int .u64 s.time, .bool s.coin, .bool s.used, .int .i64 s.state] 76)) := (Below.refl _ _).alloc (Nat.le_refl _) _
      generalize w.alloc (.cells #[.int .u64 s.pn, .int .u64 s.off, .int .u64 s.len, .int .u64 s.nonce, .int .u64 s.time, .bool s.coin, .bool s.used, .int .i64 s.state] 76) = W at hL ⊢
      have hR := h.below hL
      have e1 := fun p : In (Lt W) => inCell p hR.c1
      have e2 := fun p : In (Lt W) => inCell p hR.c2
      go_wp2
      refine wp_region_in (Lt W) (Lt.drew W) (by kernel_rfl) (by kernel_rfl) ?_
      repeat (go_big_quiet_step (fail))
      refine wpQuiet_nil ?_
      rintro w1 ⟨⟨_, hw1⟩, rfl⟩
      have hw1 : Below W.heap.size W w1 := hw1
      have hR1 := hR.below hw1
      have CR := room_in hR1
      rw [h7] at CR
      go_wp2_with (go_at_call 70; refine CR.mono ?_; rintro e w2 ⟨rfl, L2⟩)
      go_ret2
      exact ⟨rfl, ⟨_, hR1.below L2⟩, Fr.of_below (Base.next (Base.next hL hw1) L2)⟩
    · have hrg := room_ge h.ok
      have he : giveE g = 0 := by unfold giveE; rw [if_neg (by omega), if_neg (by omega)]
      rw [show giveN g = (g.l.length : Int) by unfold giveN; rw [if_pos he], he]
      have HE := Lib.hid he
      have HO := Lib.hid ho
      clear he ho hrg
      have hr := h.r0
      have hcn := h.ltc
      go_enter Tryz.func81, Tryz.ntmps81
      go_upto_region 1 with fail
      have hB := Blk.new w #[.int .u64 s.pn, .int .u64 s.off, .int .u64 s.len, .int .u64 s.nonce, .int .u64 s.time, .bool s.coin, .bool s.used, .int .i64 s.state] 76
      have hL : Below w.heap.size w (w.alloc (.cells #[.int .u64 s.pn, .int .u64 s.off, .int .u64 s.len, .int .u64 s.nonce, .int .u64 s.time, .bool s.coin, .bool s.used, .int .i64 s.state] 76)) := (Below.refl _ _).alloc (Nat.le_refl _) _
      generalize w.alloc (.cells #[.int .u64 s.pn, .int .u64 s.off, .int .u64 s.len, .int .u64 s.nonce, .int .u64 s.time, .bool s.coin, .bool s.used, .int .i64 s.state] 76) = W at hL hB ⊢
      have hR := h.below hL
      have e1 := fun p : In (Lt W) => inCell p hR.c1
      have e2 := fun p : In (Lt W) => inCell p hR.c2
      go_wp2
      refine wp_region_in (Lt W) (Lt.drew W) (by kernel_rfl) (by kernel_rfl) ?_
      repeat (go_big_quiet_step (fail))
      refine wpQuiet_nil ?_
      rintro w1 ⟨⟨_, hw1⟩, rfl⟩
      have hw1 : Below W.heap.size W w1 := hw1
      have CR := room_in (hR.below hw1)
      generalize hrm : roomI g = rm at *
      have HRM := Lib.hid hrm
      clear hrm e1 e2
      go_upto_region 5 with (go_at_call 70; refine CR.mono ?_; rintro e w2 ⟨rfl, L2⟩)
      have M2 := Base.next (Base.next hL hw1) L2
      have hR2 := h.below M2
      have hB2 := hB.below (Base.next hw1 L2) hB.lt
      clear CR hR hw1 L2 hB hL
      have d0 : w2.cell? ⟨w.heap.size, 0, none⟩ = some (.int .u64 s.pn) := hB2.cell 0
      have d1 := hB2.free 0
      have d2 := hB2.lt
      have d3 := hR2.c2
      have d4 := hR2.lt
      have hbn := h.lt
      go_upto_region 6 with fail
      have hB3 : Blk (w2.setCell ⟨w.heap.size, 0, none⟩ (.int .u64 g.l.length)) w.heap.size #[.int .u64 g.l.length, .int .u64 s.off, .int .u64 s.len, .int .u64 s.nonce, .int .u64 s.time, .bool s.coin, .bool s.used, .int .i64 s.state] 76 := hB2.set 0 _
      have F3 : Fr S w (w2.setCell ⟨w.heap.size, 0, none⟩ (.int .u64 g.l.length)) := (Fr.of_below M2).setCell (fun e => absurd e (Nat.lt_irrefl _)) _
      have G3 : Fr (fun k => k = w.heap.size) w2 (w2.setCell ⟨w.heap.size, 0, none⟩ (.int .u64 g.l.length)) := (Fr.refl (fun k => k = w.heap.size) _).setCell (fun _ => rfl) _
      have K3 := hR2.blk.kept G3 (fun e => by omega)
      have O3 := hR2.own.kept G3 (fun k hk => by obtain rfl : c = k := Option.some.inj hk; omega)
      generalize w2.setCell ⟨w.heap.size, 0, none⟩ (.int .u64 g.l.length) = w3 at *
      clear d0 d1 d2 d3 d4 hB2 G3 hR2 M2
      have d3 : w3.cell? ⟨b, 2, none⟩ = some (.int .u64 g.l.length) := K3.cell 2
      have d1 := K3.free 2
      have d4 := K3.lt
      go_upto_region 7 with fail
      have K4 : Blk (w3.setCell ⟨b, 2, none⟩ (.int .u64 ((g.l.length : Int) + 1))) b #[.slice (some ⟨c, 0, none⟩) kc.length cap, .int .u64 g.limit, .int .u64 ((g.l.length : Int) + 1)] 142 := K3.set 2 _
      have F4 := F3.setCell (p := ⟨b, 2, none⟩) (fun _ => h.inB) (.int .u64 ((g.l.length : Int) + 1))
      have G4 : Fr (fun k => k = b) w3 (w3.setCell ⟨b, 2, none⟩ (.int .u64 ((g.l.length : Int) + 1))) := (Fr.refl (fun k => k = b) _).setCell (fun _ => rfl) _
      have B4 := hB3.kept G4 (fun e => by omega)
      have O4 := O3.kept G4 (fun k hk => by cases hk; exact h.ne)
      generalize w3.setCell ⟨b, 2, none⟩ (.int .u64 ((g.l.length : Int) + 1)) = w4 at *
      clear d1 d3 d4 G4 F3 K3 O3 hB3
      have hK : Kb w4 b c cap kc.length g.limit (g.l.length + 1) := ⟨by simpa using K4, hr.1, hr.2, h.caps.1, h.caps.2, by omega, O4.lt rfl⟩
      have CE := fun p : In (Lt w4) => entry_b (hK.below p.h) g.l.length (by omega) (by omega)
      have f0 := fun p : In (Lt w4) => inCell p (o := 0) (v := .int .u64 g.l.length) (B4.cell 0)
      have f1 := fun p : In (Lt w4) => inCell p (o := 1) (v := .int .u64 s.off) (B4.cell 1)
      have f2 := fun p : In (Lt w4) => inCell p (o := 2) (v := .int .u64 s.len) (B4.cell 2)
      have f3 := fun p : In (Lt w4) => inCell p (o := 3) (v := .int .u64 s.nonce) (B4.cell 3)
      have f4 := fun p : In (Lt w4) => inCell p (o := 4) (v := .int .u64 s.time) (B4.cell 4)
      have f5 := fun p : In (Lt w4) => inCell p (o := 5) (v := .bool s.coin) (B4.cell 5)
      have f6 := fun p : In (Lt w4) => inCell p (o := 6) (v := .bool s.used) (B4.cell 6)
      have f7 := fun p : In (Lt w4) => inCell p (o := 7) (v := .int .i64 s.state) (B4.cell 7)
      have hmr : g.l.length % kc.length < kc.length := Nat.mod_lt _ (by omega)
      go_wp2
      refine wp_region_rest (C := fun w' => ∃ p : In (Lt w4), w' = p.w) 6 1 (by kernel_rfl) (by kernel_rfl) (by kernel_rfl) (by kernel_rfl) (by kernel_rfl) ⟨⟨w4.drew, Lt.drew w4⟩, rfl⟩ ?_
      simp only [List.toList_toArray, List.take_succ_cons, List.take_zero]
      repeat (go_big_quiet_step ((go_at_call 43; refine in_below (v := .pointer (some ⟨c, g.l.length % kc.length * 8, none⟩)) ?_; exact CE _)))
      refine wpQuiet_nil ?_
      rintro w5 ⟨⟨_, hw5⟩, rfl⟩
      have hw5 : Below w4.heap.size w4 w5 := hw5
      clear f0 f1 f2 f3 f4 f5 f6 f7 CE
      refine wpAny_of_held (S := fun _ => True) _ _ _ _ ?_
      refine held_wp (i := 6) rfl (by kernel_rfl) (by kernel_rfl) (wp_store8 (.tmp 35) (.tmp 34) (by rfl) rfl (O4.below hw5) hmr { s with pn := g.l.length } (by kernel_rfl) (by kernel_rfl) ?_)
      intro w6 O6 F6
      refine ⟨trivial, ?_⟩
      have B6 := (B4.below hw5 B4.lt).kept F6 (fun e => by omega)
      have K6 := (K4.below hw5 K4.lt).kept F6 (fun e => by have := h.ne; omega)
      have x0 : w6.cell? ⟨w.heap.size, 0, none⟩ = some (.int .u64 g.l.length) := B6.cell 0
      have x1 := B6.lt
      refine held_done (by kernel_rfl) ?_
      go_wp2
      go_ret2
      exact ⟨rfl, ⟨_, h.given HE.out HO.out rfl K6 O6⟩, (F4.trans (Fr.of_below (S := S) hw5) fun _ _ h => h).trans F6 fun i hi e => by subst e; exact h.inC⟩
end Go.Proofs.YtkiloaebokkjbaaGreat.Led

/-
  Contracts of the program's ledger (package ledger): whole, over any footprint.
-/
set_option linter.unusedSimpArgs false
set_option linter.unusedVariables false
namespace Go.Proofs.YtkiloaebokkjbaaGreat.Led
set_option linter.unusedVariables false
set_option maxRecDepth 20000
open Go.ChangeShapes Go.WideShapes Go.ChangeAt Go.RowKit
open Go.Proofs.YtkiloaebokkjbaaGreat.Base Go.Proofs.YtkiloaebokkjbaaGreat.LedPlain

theorem send_in {S : Nat → Prop} {w : World} {b c cap : Nat} {kc : List Sn} {g : Lg} (h : Kp S w b c cap kc g) (s : Sn) (hs : Words s) :
    Calls Tryz.prog 39 #[.pointer (some ⟨b, 0, none⟩), .agg #[.int .u64 s.pn, .int .u64 s.off, .int .u64 s.len, .int .u64 s.nonce, .int .u64 s.time, .bool s.coin, .bool s.used, .int .i64 s.state]] w
      fun e w' => e = .returned (.tuple #[.int .u64 (sendN g s), .int .i64 (sendE g s)]) ∧ (∃ kc', Kp S w' b c cap kc' (sendG g s)) ∧ Fr S w w' := by
  by_cases hb : badS s
  · rw [show sendN g s = 0 by unfold sendN; rw [if_pos hb], show sendE g s = 1 by unfold sendE; rw [if_pos hb], show sendG g s = g by unfold sendG; rw [if_pos hb]]
    have CV := valid_in s hs
    rw [show decide (¬ badS s) = false from decide_eq_false fun q => q hb] at CV
    clear hb
    go_enter Tryz.func39, Tryz.ntmps39
    go_upto_region 1 with fail
    have hB := Blk.new w #[.int .u64 s.pn, .int .u64 s.off, .int .u64 s.len, .int .u64 s.nonce, .int .u64 s.time, .bool s.coin, .bool s.used, .int .i64 s.state] 76
    have hL : Below w.heap.size w (w.alloc (.cells #[.int .u64 s.pn, .int .u64 s.off, .int .u64 s.len, .int .u64 s.nonce, .int .u64 s.time, .bool s.coin, .bool s.used, .int .i64 s.state] 76)) := (Below.refl _ _).alloc (Nat.le_refl _) _
    generalize w.alloc (.cells #[.int .u64 s.pn, .int .u64 s.off, .int .u64 s.len, .int .u64 s.nonce, .int .u64 s.time, .bool s.coin, .bool s.used, .int .i64 s.state] 76) = W at hL hB ⊢
    have z0 : W.cell? ⟨w.heap.size, 0, none⟩ = some (.int .u64 s.pn) := hB.cell 0
    have z1 : W.cell? ⟨w.heap.size, 1, none⟩ = some (.int .u64 s.off) := hB.cell 1
    have z2 : W.cell? ⟨w.heap.size, 2, none⟩ = some (.int .u64 s.len) := hB.cell 2
    have z3 : W.cell? ⟨w.heap.size, 3, none⟩ = some (.int .u64 s.nonce) := hB.cell 3
    have z4 : W.cell? ⟨w.heap.size, 4, none⟩ = some (.int .u64 s.time) := hB.cell 4
    have z5 : W.cell? ⟨w.heap.size, 5, none⟩ = some (.bool s.coin) := hB.cell 5
    have z6 : W.cell? ⟨w.heap.size, 6, none⟩ = some (.bool s.used) := hB.cell 6
    have z7 : W.cell? ⟨w.heap.size, 7, none⟩ = some (.int .i64 s.state) := hB.cell 7
    have z8 := hB.lt
    go_wp2_with (go_at_call 80; refine (CV _).mono ?_; rintro e w1 ⟨rfl, L1⟩)
    go_ret2
    exact ⟨rfl, ⟨_, h.below (Base.next hL L1)⟩, Fr.of_below (Base.next hL L1)⟩
  · have ho := ok_send h.ok hs
    have eg : sendG g s = giveG g { s with state := 1, used := false } := by unfold sendG; rw [if_neg hb]
    rw [eg] at ho
    rw [show sendN g s = giveN g by unfold sendN; rw [if_neg hb], show sendE g s = giveE g by unfold sendE; rw [if_neg hb], eg]
    have CV := valid_in s hs
    rw [show decide (¬ badS s) = true from decide_eq_true hb] at CV
    clear hb eg
    have CA := fun (V : World) (hV : Below w.heap.size w V) => assign_in (h.below hV) { s with state := 1, used := false } ho
    clear ho
    generalize giveN g = n at *
    generalize giveE g = m at *
    go_enter Tryz.func39, Tryz.ntmps39
    go_upto_region 1 with fail
    have hB := Blk.new w #[.int .u64 s.pn, .int .u64 s.off, .int .u64 s.len, .int .u64 s.nonce, .int .u64 s.time, .bool s.coin, .bool s.used, .int .i64 s.state] 76
    have hL : Below w.heap.size w (w.alloc (.cells #[.int .u64 s.pn, .int .u64 s.off, .int .u64 s.len, .int .u64 s.nonce, .int .u64 s.time, .bool s.coin, .bool s.used, .int .i64 s.state] 76)) := (Below.refl _ _).alloc (Nat.le_refl _) _
    generalize w.alloc (.cells #[.int .u64 s.pn, .int .u64 s.off, .int .u64 s.len, .int .u64 s.nonce, .int .u64 s.time, .bool s.coin, .bool s.used, .int .i64 s.state] 76) = W at hL hB ⊢
    have z0 : W.cell? ⟨w.heap.size, 0, none⟩ = some (.int .u64 s.pn) := hB.cell 0
    have z1 : W.cell? ⟨w.heap.size, 1, none⟩ = some (.int .u64 s.off) := hB.cell 1
    have z2 : W.cell? ⟨w.heap.size, 2, none⟩ = some (.int .u64 s.len) := hB.cell 2
    have z3 : W.cell? ⟨w.heap.size, 3, none⟩ = some (.int .u64 s.nonce) := hB.cell 3
    have z4 : W.cell? ⟨w.heap.size, 4, none⟩ = some (.int .u64 s.time) := hB.cell 4
    have z5 : W.cell? ⟨w.heap.size, 5, none⟩ = some (.bool s.coin) := hB.cell 5
    have z6 : W.cell? ⟨w.heap.size, 6, none⟩ = some (.bool s.used) := hB.cell 6
    have z7 : W.cell? ⟨w.heap.size, 7, none⟩ = some (.int .i64 s.state) := hB.cell 7
    have z8 := hB.lt
    go_upto_region 3 with (go_at_call 80; refine (CV _).mono ?_; rintro e w1 ⟨rfl, L1⟩)
    have hB1 := hB.below L1 hB.lt
    have M1 := Base.next hL L1
    clear z0 z1 z2 z3 z4 z5 z6 z7 z8 CV hB L1 hL
    have z6 : w1.cell? ⟨w.heap.size, 6, none⟩ = some (.bool s.used) := hB1.cell 6
    have z8 := hB1.free 6
    have z9 := hB1.lt
    go_upto_region 4 with fail
    have hB2 : Blk (w1.setCell ⟨w.heap.size, 6, none⟩ (.bool false)) w.heap.size #[.int .u64 s.pn, .int .u64 s.off, .int .u64 s.len, .int .u64 s.nonce, .int .u64 s.time, .bool s.coin, .bool false, .int .i64 s.state] 76 := hB1.set 6 _
    have M2 : Below w.heap.size w (w1.setCell ⟨w.heap.size, 6, none⟩ (.bool false)) := ((Fr.of_below (S := fun k => k = w.heap.size) M1).setCell (p := ⟨w.heap.size, 6, none⟩) (fun _ => rfl) (.bool false)).toBelow (Nat.le_refl _) fun k hk => by omega
    generalize w1.setCell ⟨w.heap.size, 6, none⟩ (.bool false) = w2 at *
    clear z6 z8 z9 hB1 M1
    have z7 : w2.cell? ⟨w.heap.size, 7, none⟩ = some (.int .i64 s.state) := hB2.cell 7
    have z8 := hB2.free 7
    have z9 := hB2.lt
    go_upto_region 5 with fail
    have hB3 : Blk (w2.setCell ⟨w.heap.size, 7, none⟩ (.int .i64 1)) w.heap.size #[.int .u64 s.pn, .int .u64 s.off, .int .u64 s.len, .int .u64 s.nonce, .int .u64 s.time, .bool s.coin, .bool false, .int .i64 1] 76 := hB2.set 7 _
    have M3 : Below w.heap.size w (w2.setCell ⟨w.heap.size, 7, none⟩ (.int .i64 1)) := ((Fr.of_below (S := fun k => k = w.heap.size) M2).setCell (p := ⟨w.heap.size, 7, none⟩) (fun _ => rfl) (.int .i64 1)).toBelow (Nat.le_refl _) fun k hk => by omega
    generalize w2.setCell ⟨w.heap.size, 7, none⟩ (.int .i64 1) = w3 at *
    clear z7 z8 z9 hB2 M2
    have z0 : w3.cell? ⟨w.heap.size, 0, none⟩ = some (.int .u64 s.pn) := hB3.cell 0
    have z1 : w3.cell? ⟨w.heap.size, 1, none⟩ = some (.int .u64 s.off) := hB3.cell 1
    have z2 : w3.cell? ⟨w.heap.size, 2, none⟩ = some (.int .u64 s.len) := hB3.cell 2
    have z3 : w3.cell? ⟨w.heap.size, 3, none⟩ = some (.int .u64 s.nonce) := hB3.cell 3
    have z4 : w3.cell? ⟨w.heap.size, 4, none⟩ = some (.int .u64 s.time) := hB3.cell 4
    have z5 : w3.cell? ⟨w.heap.size, 5, none⟩ = some (.bool s.coin) := hB3.cell 5
    have z6 : w3.cell? ⟨w.heap.size, 6, none⟩ = some (.bool false) := hB3.cell 6
    have z7 : w3.cell? ⟨w.heap.size, 7, none⟩ = some (.int .i64 1) := hB3.cell 7
    have z8 := hB3.lt
    go_wp2_with (go_at_call 81; refine (CA _ M3).mono ?_; rintro e w4 ⟨rfl, K4, F4⟩)
    go_ret2
    exact ⟨rfl, K4, (Fr.of_below M3).trans F4 fun _ _ hk => hk⟩
theorem skip_in {S : Nat → Prop} {w : World} {b c cap : Nat} {kc : List Sn} {g : Lg} (h : Kp S w b c cap kc g) :
    Calls Tryz.prog 76 #[.pointer (some ⟨b, 0, none⟩)] w fun e w' => e = .returned (.tuple #[.int .u64 (giveN g), .int .i64 (giveE g)]) ∧ (∃ kc', Kp S w' b c cap kc' (skipG g)) ∧ Fr S w w' := by
  have CG := assign_in h { Z8 with state := 4 } (ok_skip h.ok)
  go_enter Tryz.func76, Tryz.ntmps76
  go_wp2_with (go_at_call 81; refine CG.mono ?_; rintro e w1 ⟨rfl, R1, F1⟩)
  go_ret2
  exact ⟨rfl, R1, F1⟩
theorem clone_in {w : World} {c R cap : Nat} {l : List Sn} (hR : l.length = R) (hm : R ≤ 1000000) (hO : Owns w (.slice (some ⟨c, 0, none⟩) R cap) l) (hq : R ≤ cap) (hq1 : cap ≤ 9223372036854775807) (hr : 0 < R) :
    Calls Tryz.prog 63 #[.slice (some ⟨c, 0, none⟩) R cap] w
      fun e w' => ∃ c' cap', e = .returned (.slice (some ⟨c', 0, none⟩) R cap') ∧ Owns w' (.slice (some ⟨c', 0, none⟩) R cap') l ∧ w.heap.size ≤ c' ∧ Below w.heap.size w w' := by
  obtain ⟨i0, hi0, hz0, hz1, hz2⟩ := info_parts info8
  obtain ⟨a, cap1, e, _, _, hz, _, _⟩ := hO.read
  injection e with e1 e2 e3
  subst e1
  have hz := Row.below hz ((Below.refl w.heap.size w).alloc (Nat.le_refl _) (.cells #[] 76))
  have hown : (w.alloc (.cells #[] 76)).ownsRow w.heap.size 76 8 (.slice (some ⟨w.heap.size, 0, none⟩) 0 0) 0 [] := World.ownsRow_made w #[] 0 (Nat.le_refl _) (by unfold maxLen; omega) rfl
  have hnil : ∀ W : World, (binOp .eql 49 (.slice (some ⟨c, 0, none⟩) R cap) (.slice none 0 0)).run Tryz.prog W = .ok (.bool false) W := fun _ => rfl
  clear hO e2 e3
  have hls := sents_len l
  rw [hR] at hls
  go_enter Tryz.func63, Tryz.ntmps63
  go_wp2_with (at_builtin; (refine wpl_append_row _ rfl (.tmp 5) (.tmp 6) _ rfl w.heap.size 76 i0 _ 8 56 Tryz.underlying49 hi0 hz0 hz1 hz2 rfl (by omega) _ 0 [] rfl hown (some ⟨c, 0, none⟩) R cap (sents l) rfl hls hz (sents_one l) (by unfold maxLen; omega) (by omega) (by simp) ?_); intro v' w' O' G' N')
  rw [Nat.zero_add, List.nil_append] at O'
  have hO2 : Owns w' v' l := by
    unfold Owns
    rw [hR]
    exact ⟨O'.1, by
      rcases O'.2 with h | ⟨g, cap, cur, h1, h2, h3⟩
      · exact .inl h
      · exact .inr ⟨g, cap, cur, h1, Nat.zero_le _, h3⟩⟩
  have hL : Below w.heap.size w w' := ((Fr.of_below (S := fun k => k = w.heap.size) ((Below.refl w.heap.size w).alloc (Nat.le_refl _) (.cells #[] 76))).trans (Fr.of_grown (S := fun k => k = w.heap.size) G' fun k hk => (Option.some.inj hk).symm) fun _ _ h => h).toBelow (Nat.le_refl _) fun k hk => by omega
  obtain ⟨a', cap', rfl, _, _, _, hn, hx⟩ := hO2.read
  cases a' with
  | none =>
    have := (hn rfl).1
    subst this
    simp at hR
    omega
  | some x =>
    obtain ⟨c', rfl, _⟩ := hx x rfl
    have hc : w.heap.size ≤ c' := by
      rcases N' with h | h
      · have : c' = w.heap.size := Option.some.inj h
        omega
      · have : c' = (w.alloc (.cells #[] 76)).heap.size := Option.some.inj h
        simp at this
        omega
    rw [hR] at hO2 ⊢
    go_wp2
    go_ret
    exact ⟨c', cap', rfl, hO2, hc, hL⟩
theorem zero_sents (n : Nat) : (madeCells (#[.int .u64 0, .int .u64 0, .int .u64 0, .int .u64 0, .int .u64 0, .bool false, .bool false, .int .i64 0] : Array Value) (n * 8)).toList = sents (List.replicate n Z8) := by
  apply List.ext_getElem?
  intro j
  by_cases hj : j < n * 8
  · have hr := sents_at (l := List.replicate n Z8) (i := j / 8) (j % 8) (by simp; omega) (Nat.mod_lt _ (by decide))
    rw [show j / 8 * 8 + j % 8 = j by omega] at hr
    rw [hr, show (List.replicate n Z8).getD (j / 8) Z8 = Z8 by simp only [List.getD, List.getElem?_replicate]; split <;> rfl]
    have h8 : j % 8 < 8 := Nat.mod_lt _ (by decide)
    simp only [madeCells, Array.toList_map, List.getElem?_map, Array.toList_range, List.getElem?_range hj, Option.map_some]
    generalize j % 8 = i at *
    rcases (show i = 0 ∨ i = 1 ∨ i = 2 ∨ i = 3 ∨ i = 4 ∨ i = 5 ∨ i = 6 ∨ i = 7 by omega) with rfl | rfl | rfl | rfl | rfl | rfl | rfl | rfl <;> rfl
  · rw [List.getElem?_eq_none (by simp [size_madeCells]; omega), List.getElem?_eq_none (by rw [sents_len]; simp; omega)]
theorem new_fin (ring limit : Int) (l0 : 0 ≤ limit) {w w' : World} {n : Nat} (hn : (n : Int) = (newG ring limit).ring) {m : Int} (hm : m = (newG ring limit).limit) (hO : w'.ownsRow w.heap.size 76 8 (.slice (some ⟨w.heap.size, 0, none⟩) n n) n (madeCells (#[.int .u64 0, .int .u64 0, .int .u64 0, .int .u64 0, .int .u64 0, .bool false, .bool false, .int .i64 0] : Array Value) (n * 8)).toList)
    (hG : w.grownBy w' none) : ∃ c cap kc, Kp (fun k => w.heap.size ≤ k ∧ k < (w'.alloc (.cells #[.slice (some ⟨w.heap.size, 0, none⟩) n n, .int .u64 m, .int .u64 0] 142)).heap.size) (w'.alloc (.cells #[.slice (some ⟨w.heap.size, 0, none⟩) n n, .int .u64 m, .int .u64 0] 142)) w'.heap.size c cap kc (newG ring limit) ∧
      Below w.heap.size w (w'.alloc (.cells #[.slice (some ⟨w.heap.size, 0, none⟩) n n, .int .u64 m, .int .u64 0] 142)) := by
  have hs := hG.size
  have hlt : w.heap.size < w'.heap.size := (World.ownsRow.lt hO w.heap.size rfl).2
  rw [zero_sents] at hO
  have hO2 : Owns w' (.slice (some ⟨w.heap.size, 0, none⟩) n n) (List.replicate n Z8) := by
    unfold Owns
    rw [List.length_replicate]
    exact ⟨hO.1, by
      rcases hO.2 with h | ⟨g, cap, cur, h1, h2, h3⟩
      · exact .inl h
      · exact .inr ⟨g, cap, cur, h1, Nat.zero_le _, h3⟩⟩
  subst hm
  refine ⟨w.heap.size, n, List.replicate n Z8, ⟨ok_new ring limit l0, ⟨hs, by simp⟩, ⟨Nat.le_refl _, by simp; omega⟩, by omega, ?_, ?_, ?_, ?_⟩, ?_⟩
  · rw [List.length_replicate]
    exact Blk.new _ _ _
  · rw [List.length_replicate]
    exact hO2.alloc _
  · rw [List.length_replicate]
    exact hn
  · intro i _ hi
    simp [newG] at hi
  · exact ((Fr.of_grown (S := fun _ => False) hG fun k hk => by cases hk).toBelow (Nat.le_refl _) fun k hk => hk.elim).alloc hs _
theorem new_in (ring limit : Int) (r0 : -9223372036854775808 ≤ ring) (r1 : ring ≤ 9223372036854775807) (l0 : 0 ≤ limit) (l1 : limit ≤ 18446744073709551615) (w : World) :
    Calls Tryz.prog 34 #[.int .i64 ring, .int .u64 limit] w fun e w' => ∃ b, e = .returned (.pointer (some ⟨b, 0, none⟩)) ∧ (∃ c cap kc, Kp (fun k => w.heap.size ≤ k ∧ k < w'.heap.size) w' b c cap kc (newG ring limit)) ∧ Below w.heap.size w w' := by
  obtain ⟨i0, hi0, hz0, hz1, hz2⟩ := info_parts info8
  have hfin := fun n hn m hm w' hO hG => new_fin ring limit l0 (w := w) (w' := w') (n := n) hn (m := m) hm hO hG
  have hR := Lib.hid (show (newG ring limit).ring = max 4 (min ring 256) from rfl)
  have hM := Lib.hid (show (newG ring limit).limit = min limit 4611686018427387903 from rfl)
  generalize (newG ring limit).ring = gr at *
  generalize (newG ring limit).limit = gm at *
  by_cases h1 : 256 < ring
  · go_enter Tryz.func34, Tryz.ntmps34
    go_wp2_with ((refine wpList_make_full _ rfl (.tmp 7) (.tmp 7) 49 rfl w.heap.size 76 i0 _ 8 Tryz.underlying49 hi0 hz0 hz1 .i64 .i64 _ _ 256 rfl rfl (by omega) (by omega) (by rw [hz2]; decide) (by unfold maxLen; decide) (Nat.le_refl _) ?_); intro w1 O1 G1)
    all_goals go_ret
    all_goals first
      | (obtain ⟨c, cap, kc, K1, B1⟩ := hfin 256 (by rw [hR.out]; omega) limit (by rw [hM.out]; omega) w1 O1 G1; exact ⟨_, rfl, ⟨c, cap, kc, K1⟩, B1⟩)
      | (obtain ⟨c, cap, kc, K1, B1⟩ := hfin 256 (by rw [hR.out]; omega) 4611686018427387903 (by rw [hM.out]; omega) w1 O1 G1; exact ⟨_, rfl, ⟨c, cap, kc, K1⟩, B1⟩)
  · by_cases h2 : 4 ≤ ring
    · obtain ⟨n, rfl⟩ := Int.eq_ofNat_of_zero_le (show 0 ≤ ring by omega)
      go_enter Tryz.func34, Tryz.ntmps34
      go_wp2_with ((refine wpList_make_full _ rfl (.tmp 7) (.tmp 7) 49 rfl w.heap.size 76 i0 _ 8 Tryz.underlying49 hi0 hz0 hz1 .i64 .i64 _ _ n rfl rfl (by omega) (by omega) (by rw [hz2]; omega) (by unfold maxLen; omega) (Nat.le_refl _) ?_); intro w1 O1 G1)
      all_goals go_ret
      all_goals first
        | (obtain ⟨c, cap, kc, K1, B1⟩ := hfin n (by rw [hR.out]; omega) limit (by rw [hM.out]; omega) w1 O1 G1; exact ⟨_, rfl, ⟨c, cap, kc, K1⟩, B1⟩)
        | (obtain ⟨c, cap, kc, K1, B1⟩ := hfin n (by rw [hR.out]; omega) 4611686018427387903 (by rw [hM.out]; omega) w1 O1 G1; exact ⟨_, rfl, ⟨c, cap, kc, K1⟩, B1⟩)
    · go_enter Tryz.func34, Tryz.ntmps34
      go_wp2_with ((refine wpList_make_full _ rfl (.tmp 7) (.tmp 7) 49 rfl w.heap.size 76 i0 _ 8 Tryz.underlying49 hi0 hz0 hz1 .i64 .i64 _ _ 4 rfl rfl (by omega) (by omega) (by rw [hz2]; decide) (by unfold maxLen; decide) (Nat.le_refl _) ?_); intro w1 O1 G1)
      all_goals go_ret
      all_goals first
        | (obtain ⟨c, cap, kc, K1, B1⟩ := hfin 4 (by rw [hR.out]; omega) limit (by rw [hM.out]; omega) w1 O1 G1; exact ⟨_, rfl, ⟨c, cap, kc, K1⟩, B1⟩)
        | (obtain ⟨c, cap, kc, K1, B1⟩ := hfin 4 (by rw [hR.out]; omega) 4611686018427387903 (by rw [hM.out]; omega) w1 O1 G1; exact ⟨_, rfl, ⟨c, cap, kc, K1⟩, B1⟩)
theorem fork_in {S : Nat → Prop} {w : World} {b c cap : Nat} {kc : List Sn} {g : Lg} (h : Kp S w b c cap kc g) :
    Calls Tryz.prog 29 #[.pointer (some ⟨b, 0, none⟩)] w fun e w' => ∃ b', e = .returned (.pointer (some ⟨b', 0, none⟩)) ∧ (∃ c' cap' kc', Kp (fun k => w.heap.size ≤ k ∧ k < w'.heap.size) w' b' c' cap' kc' g) ∧ Below w.heap.size w w' := by
  have c0 := h.c0
  have c1 := h.c1
  have c2 := h.c2
  have hb := h.lt
  have hr := h.r0
  have hq := h.caps
  go_enter Tryz.func29, Tryz.ntmps29
  go_upto_region 4 with fail
  have hB := Blk.new w #[.slice (some ⟨c, 0, none⟩) kc.length cap, .int .u64 g.limit, .int .u64 g.l.length] 142
  have hL : Below w.heap.size w (w.alloc (.cells #[.slice (some ⟨c, 0, none⟩) kc.length cap, .int .u64 g.limit, .int .u64 g.l.length] 142)) := (Below.refl _ _).alloc (Nat.le_refl _) _
  generalize w.alloc (.cells #[.slice (some ⟨c, 0, none⟩) kc.length cap, .int .u64 g.limit, .int .u64 g.l.length] 142) = W at hB hL ⊢
  have hR := h.below hL
  have d0 := hR.c0
  have hb1 := hR.lt
  have CC := clone_in rfl (by omega) hR.own hq.1 hq.2 (by omega)
  have hbW := hB.lt
  clear c0 c1 c2
  go_upto_region 5 with (go_at_call 63; refine CC.mono ?_; rintro e w1 ⟨c', cap', rfl, O1, N1, L1⟩; have hB1 := hB.below L1 hB.lt; have z0 : w1.cell? ⟨w.heap.size, 0, none⟩ = some (.slice (some ⟨c, 0, none⟩) kc.length cap) := hB1.cell 0; have z1 := hB1.free 0; have z2 := hB1.lt)
  have hB2 : Blk (w1.setCell ⟨w.heap.size, 0, none⟩ (.slice (some ⟨c', 0, none⟩) kc.length cap')) w.heap.size #[.slice (some ⟨c', 0, none⟩) kc.length cap', .int .u64 g.limit, .int .u64 g.l.length] 142 := hB1.set 0 _
  have G2 : Fr (fun k => k = w.heap.size) w1 (w1.setCell ⟨w.heap.size, 0, none⟩ (.slice (some ⟨c', 0, none⟩) kc.length cap')) := (Fr.refl (fun k => k = w.heap.size) _).setCell (fun _ => rfl) _
  have M2 : Below w.heap.size w (w1.setCell ⟨w.heap.size, 0, none⟩ (.slice (some ⟨c', 0, none⟩) kc.length cap')) := ((Fr.of_below (S := fun k => k = w.heap.size) (Base.next hL L1)).trans G2 fun _ _ h => h).toBelow (Nat.le_refl _) fun k hk => by omega
  have O2 := O1.kept G2 (fun k hk => by obtain rfl : c' = k := Option.some.inj hk; omega)
  generalize w1.setCell ⟨w.heap.size, 0, none⟩ (.slice (some ⟨c', 0, none⟩) kc.length cap') = w2 at *
  go_wp2
  go_ret
  exact ⟨_, rfl, ⟨c', cap', kc, h.ok, ⟨Nat.le_refl _, hB2.lt⟩, ⟨by omega, O2.lt rfl⟩, by omega, hB2, O2, h.len, h.at_⟩, M2⟩
set_option maxHeartbeats 1000000 in
theorem all_in {S : Nat → Prop} {w : World} {b c cap : Nat} {kc : List Sn} {g : Lg} (h : Kp S w b c cap kc g) (hn : g.l.length ≤ 1000000) :
    Calls Tryz.prog 16 #[.pointer (some ⟨b, 0, none⟩)] w fun e w' => ∃ v, e = .returned v ∧ Owns w' v (allS g) ∧ (∀ j, v.ownBlock = some j → w.heap.size ≤ j) ∧ Below w.heap.size w w' := by
  have hlow := low_le g
  have C0 := low_in h
  have hAl := kept_len g
  have hget : ∀ j, (allS g).getD j Z8 = atN g (lowN g + j) := fun j => drop_getD _ _ _
  generalize hk0 : lowN g = k0 at *
  generalize hD : allS g = D at *
  have HD := Lib.hid hD
  have HK := Lib.hid hk0
  clear hD hk0
  have hnl := h.nl
  go_enter Tryz.func16, Tryz.ntmps16
  go_wp2_with (go_at_call 41; refine C0.mono ?_; rintro e w1 ⟨rfl, L1⟩; clear C0)
  go_loopw [3, 4] (fun o i wr => ∃ (k : Nat) (v : Value), k0 ≤ k ∧ k ≤ g.l.length ∧ i = .int .u64 k ∧ o = v ∧ Owns wr v (D.take (k - k0)) ∧ (∀ j, v.ownBlock = some j → w.heap.size ≤ j) ∧ Below w.heap.size w wr) (fun _ i _ => g.l.length - (intOf i).toNat)
  case atStart => exact ⟨k0, _, Nat.le_refl _, hlow, rfl, rfl, by rw [Nat.sub_self, List.take_zero]; exact Owns.nil _, fun j hj => by simp [Value.ownBlock] at hj, L1⟩
  case round =>
    obtain ⟨k, v, hk0', hk, rfl, rfl, hO, hV, hL⟩ := hrel
    have hR := h.below hL
    have C1 := next_in hR
    have hkI : (k : Int) ≤ (g.l.length : Int) := by omega
    by_cases hlt : k < g.l.length
    · have hltI : (k : Int) < (g.l.length : Int) := by omega
      have C2 := entry_some hR k (by rw [HK.out]; exact hk0') hlt
      have hX := fun (W : World) (hW : Below w.heap.size w W) => (h.below hW).cells (k := k) (by rw [HK.out]; exact hk0') hlt
      have hc0 := fun (W : World) (hW : Below w.heap.size w W) => (h.below hW).ltc
      have htk : D.take (k - k0) ++ [atN g k] = D.take (k + 1 - k0) := by
        have := hget (k - k0)
        rw [show k0 + (k - k0) = k by omega] at this
        rw [← this, show k + 1 - k0 = (k - k0) + 1 by omega, List.take_add_one]
        simp [List.getD, show k - k0 < D.length by omega]
      have hlen1 : (D.take (k - k0)).length + 1 ≤ 1000000000000 := by rw [List.length_take]; omega
      generalize hs : atN g k = s at *
      have HT := Lib.hid htk
      have HV := Lib.hid hV
      clear htk hget hs hV hAl
      go_wp2_with (first
        | (go_at_call 42; refine C1.mono ?_; rintro e w2 ⟨rfl, rfl⟩)
        | (go_at_call 43; refine C2.mono ?_; rintro e w3 ⟨rfl, L3⟩; have hL3 := Base.next hL L3; obtain ⟨e0, e1, e2, e3, e4, e5, e6, e7⟩ := hX _ hL3; have hc := hc0 _ hL3; have O3 := hO.below L3; clear hX hc0 C1)
        | (at_builtin; (refine wpList_plain rfl fun _ hK => wp_add8 s (.tmp 13) (.tmp 19) rfl rfl O3 rfl rfl hlen1 ?_); intro v' w' A'; refine hK _ _ ?_))
      all_goals go_roundw
      case rel =>
        have hz := hL3.size
        exact ⟨k + 1, v', by omega, by omega, by go_num, rfl, by rw [← HT.out]; exact A'.own, fun j hj => by
          rcases A'.at_ j hj with h1 | h1
          · exact HV.out j h1
          · omega, A'.fr.below hL3 hz HV.out⟩
      case measure => simp [intOf]; omega
    · obtain rfl : k = g.l.length := by omega
      rw [List.take_of_length_le (by omega)] at hO
      go_wp2_with (go_at_call 42; refine C1.mono ?_; rintro e w2 ⟨rfl, rfl⟩)
      go_ret
      exact ⟨_, rfl, hO, hV, hL⟩

/-- The program's ledger at a is g; all that it is made of lies in S. -/
def Led (S : Nat → Prop) (w : World) (a : Addr) (g : Lg) : Prop := ∃ b c cap kc, a = ⟨b, 0, none⟩ ∧ Kp S w b c cap kc g
theorem Led.ok {S : Nat → Prop} {w : World} {a : Addr} {g : Lg} (h : Led S w a g) : Ok g := by
  obtain ⟨b, c, cap, kc, rfl, h⟩ := h
  exact h.ok
theorem Led.kept {S T : Nat → Prop} {w w' : World} {a : Addr} {g : Lg} (h : Led S w a g) (hf : Fr T w w') (hn : ∀ k, S k → ¬ T k) : Led S w' a g := by
  obtain ⟨b, c, cap, kc, rfl, h⟩ := h
  exact ⟨b, c, cap, kc, rfl, h.kept hf hn⟩
theorem Led.mono {S T : Nat → Prop} {w : World} {a : Addr} {g : Lg} (h : Led S w a g) (hn : ∀ k, S k → T k) : Led T w a g := by
  obtain ⟨b, c, cap, kc, rfl, h⟩ := h
  exact ⟨b, c, cap, kc, rfl, h.mono hn⟩
theorem new_any (ring limit : Int) (r0 : -9223372036854775808 ≤ ring) (r1 : ring ≤ 9223372036854775807) (l0 : 0 ≤ limit) (l1 : limit ≤ 18446744073709551615) (w : World) :
    Calls Tryz.prog 34 #[.int .i64 ring, .int .u64 limit] w fun e w' => ∃ a, e = .returned (.pointer (some a)) ∧ Led (fun k => w.heap.size ≤ k ∧ k < w'.heap.size) w' a (newG ring limit) ∧ Below w.heap.size w w' :=
  (new_in ring limit r0 r1 l0 l1 w).mono fun e w' ⟨b, he, ⟨c, cap, kc, hk⟩, hb⟩ => ⟨_, he, ⟨b, c, cap, kc, rfl, hk⟩, hb⟩
theorem low_any {S : Nat → Prop} {w : World} {a : Addr} {g : Lg} (h : Led S w a g) :
    Calls Tryz.prog 41 #[.pointer (some a)] w fun e w' => e = .returned (.int .u64 (lowN g)) ∧ Below w.heap.size w w' := by
  obtain ⟨b, c, cap, kc, rfl, h⟩ := h
  exact low_in h
theorem next_any {S : Nat → Prop} {w : World} {a : Addr} {g : Lg} (h : Led S w a g) :
    Calls Tryz.prog 42 #[.pointer (some a)] w fun e w' => e = .returned (.int .u64 g.l.length) ∧ Below w.heap.size w w' := by
  obtain ⟨b, c, cap, kc, rfl, h⟩ := h
  exact (next_in h).mono fun e w' ⟨he, hw⟩ => ⟨he, hw ▸ Below.refl _ _⟩
theorem least_any {S : Nat → Prop} {w : World} {a : Addr} {g : Lg} (h : Led S w a g) :
    Calls Tryz.prog 68 #[.pointer (some a)] w fun e w' => e = .returned (.int .u64 (leastN g)) ∧ Below w.heap.size w w' := by
  obtain ⟨b, c, cap, kc, rfl, h⟩ := h
  exact least_in h
theorem room_any {S : Nat → Prop} {w : World} {a : Addr} {g : Lg} (h : Led S w a g) :
    Calls Tryz.prog 70 #[.pointer (some a)] w fun e w' => e = .returned (.int .i64 (roomI g)) ∧ Below w.heap.size w w' := by
  obtain ⟨b, c, cap, kc, rfl, h⟩ := h
  exact room_in h
theorem flight_any {S : Nat → Prop} {w : World} {a : Addr} {g : Lg} (h : Led S w a g) :
    Calls Tryz.prog 72 #[.pointer (some a)] w fun e w' => e = .returned (.int .u64 (flight g)) ∧ Below w.heap.size w w' := by
  obtain ⟨b, c, cap, kc, rfl, h⟩ := h
  exact flight_in h
theorem get_any {S : Nat → Prop} {w : World} {a : Addr} {g : Lg} (h : Led S w a g) (pn : Int) (p0 : 0 ≤ pn) (p1 : pn ≤ 18446744073709551615) :
    Calls Tryz.prog 28 #[.pointer (some a), .int .u64 pn] w fun e w' => e = .returned (.tuple #[.agg #[.int .u64 (getS g pn).pn, .int .u64 (getS g pn).off, .int .u64 (getS g pn).len, .int .u64 (getS g pn).nonce, .int .u64 (getS g pn).time, .bool (getS g pn).coin, .bool (getS g pn).used, .int .i64 (getS g pn).state], .bool (hasN g pn)]) ∧ Below w.heap.size w w' := by
  obtain ⟨b, c, cap, kc, rfl, h⟩ := h
  exact get_in h pn p0 p1
/-- One ledger behind a call that turned it. -/
theorem led_of {S : Nat → Prop} {w w' : World} {b c cap : Nat} {g : Lg} (h : ∃ kc', Kp S w' b c cap kc' g) : Led (Plus S w w') w' ⟨b, 0, none⟩ g := by
  obtain ⟨kc', h⟩ := h
  exact ⟨b, c, cap, kc', rfl, h.mono fun k hk => .inl hk⟩
theorem send_any {S : Nat → Prop} {w : World} {a : Addr} {g : Lg} (h : Led S w a g) (s : Sn) (hs : Words s) (hn : g.l.length ≤ 1000000) :
    Calls Tryz.prog 39 #[.pointer (some a), .agg #[.int .u64 s.pn, .int .u64 s.off, .int .u64 s.len, .int .u64 s.nonce, .int .u64 s.time, .bool s.coin, .bool s.used, .int .i64 s.state]] w fun e w' => e = .returned (.tuple #[.int .u64 (sendN g s), .int .i64 (sendE g s)]) ∧ Led (Plus S w w') w' a (sendG g s) ∧ Fr S w w' := by
  obtain ⟨b, c, cap, kc, rfl, h⟩ := h
  exact (send_in h s hs).mono fun e w' ⟨he, hk, hf⟩ => ⟨he, led_of hk, hf⟩
theorem skip_any {S : Nat → Prop} {w : World} {a : Addr} {g : Lg} (h : Led S w a g) (hn : g.l.length ≤ 1000000) :
    Calls Tryz.prog 76 #[.pointer (some a)] w fun e w' => e = .returned (.tuple #[.int .u64 (giveN g), .int .i64 (giveE g)]) ∧ Led (Plus S w w') w' a (skipG g) ∧ Fr S w w' := by
  obtain ⟨b, c, cap, kc, rfl, h⟩ := h
  exact (skip_in h).mono fun e w' ⟨he, hk, hf⟩ => ⟨he, led_of hk, hf⟩
theorem use_any {S : Nat → Prop} {w : World} {a : Addr} {g : Lg} (h : Led S w a g) (pn : Int) (p0 : 0 ≤ pn) (p1 : pn ≤ 18446744073709551615) :
    Calls Tryz.prog 50 #[.pointer (some a), .int .u64 pn] w fun e w' => e = .returned (.bool (useB g pn)) ∧ Led (Plus S w w') w' a (useG g pn) ∧ Fr S w w' := by
  obtain ⟨b, c, cap, kc, rfl, h⟩ := h
  exact (use_in h pn p0 p1).mono fun e w' ⟨he, hk, hf⟩ => ⟨he, led_of hk, hf⟩
theorem settle_any {S : Nat → Prop} {w : World} {a : Addr} {g : Lg} (h : Led S w a g) (pn st : Int) (p0 : 0 ≤ pn) (p1 : pn ≤ 18446744073709551615) (s0 : -9223372036854775808 ≤ st) (s1 : st ≤ 9223372036854775807) :
    Calls Tryz.prog 78 #[.pointer (some a), .int .u64 pn, .int .i64 st] w fun e w' => e = .returned (.bool (settleB g pn st)) ∧ Led (Plus S w w') w' a (settleG g pn st) ∧ Fr S w w' := by
  obtain ⟨b, c, cap, kc, rfl, h⟩ := h
  exact (settle_in h pn st p0 p1 s0 s1).mono fun e w' ⟨he, hk, hf⟩ => ⟨he, led_of hk, hf⟩
theorem all_any {S : Nat → Prop} {w : World} {a : Addr} {g : Lg} (h : Led S w a g) (hn : g.l.length ≤ 1000000) :
    Calls Tryz.prog 16 #[.pointer (some a)] w fun e w' => ∃ p cap, e = .returned (.slice p (allS g).length cap) ∧ (allS g).length ≤ cap ∧ cap ≤ maxLen ∧ RowIn (fun k => w.heap.size ≤ k) w' p (sents (allS g)) ∧ Below w.heap.size w w' := by
  obtain ⟨b, c, cap, kc, rfl, h⟩ := h
  refine (all_in h hn).mono fun e w' ⟨v, he, hO, hV, hL⟩ => ?_
  obtain ⟨p, cap', rfl, h1, h2, hz, _, hx⟩ := hO.read
  refine ⟨p, cap', he, h1, h2, fun j u hj => ?_, hL⟩
  obtain ⟨b', off, e', hb', hc⟩ := hz j u hj
  obtain ⟨g', e2, ho⟩ := hx _ e'
  refine ⟨b', off, e', ?_, hb', hc⟩
  have h3 := hV _ ho
  injection e2 with e2
  omega
theorem fork_any {S : Nat → Prop} {w : World} {a : Addr} {g : Lg} (h : Led S w a g) (hn : g.l.length ≤ 1000000) :
    Calls Tryz.prog 29 #[.pointer (some a)] w fun e w' => ∃ a', e = .returned (.pointer (some a')) ∧ Led (fun k => w.heap.size ≤ k ∧ k < w'.heap.size) w' a' g ∧ Below w.heap.size w w' := by
  obtain ⟨b, c, cap, kc, rfl, h⟩ := h
  exact (fork_in h).mono fun e w' ⟨b', he, ⟨c', cap', kc', hk⟩, hb⟩ => ⟨_, he, ⟨b', c', cap', kc', rfl, hk⟩, hb⟩
theorem Led.below {S : Nat → Prop} {w w' : World} {a : Addr} {g : Lg} (h : Led S w a g) (hb : Below w.heap.size w w') : Led S w' a g := h.kept (T := fun _ => False) (Fr.of_below hb) fun _ _ h => h
end Go.Proofs.YtkiloaebokkjbaaGreat.Led

/-
  Contracts of the program's budget: it keeps the times of those grants alone that still count.
-/
set_option linter.unusedSimpArgs false
set_option linter.unusedVariables false
namespace Go.Proofs.YtkiloaebokkjbaaGreat.Bud
set_option linter.unusedVariables false
set_option maxRecDepth 20000
open Go.ChangeShapes Go.WideShapes Go.ChangeAt Go.RowKit
open Go.Proofs.YtkiloaebokkjbaaGreat.Base Go.Proofs.YtkiloaebokkjbaaGreat.BudPlain

/-- The block of the program's budget: its five cells, the row of the times that it keeps. -/
structure Kb (S : Nat → Prop) (w : World) (b : Nat) (m e t : Int) (l : List Int) (n : Int) : Prop where
  inB : S b
  ex : ∃ v, Blk w b #[.int .i64 m, .int .u64 e, .int .u64 t, v, .int .i64 n] 155 ∧ Vw w v l ∧ ∀ k, v.ownBlock = some k → S k ∧ k ≠ b
theorem Kb.kept {S T : Nat → Prop} {w w' : World} {b : Nat} {m e t n : Int} {l : List Int} (h : Kb S w b m e t l n) (hf : Fr T w w') (hn : ∀ k, S k → ¬ T k) : Kb S w' b m e t l n := by
  obtain ⟨v, hB, hO, hv⟩ := h.ex
  exact ⟨h.inB, v, hB.kept hf (hn b h.inB), hO.kept hf fun k hk => hn k (hv k hk).1, hv⟩
theorem Kb.below {S : Nat → Prop} {w w' : World} {b : Nat} {m e t n : Int} {l : List Int} (h : Kb S w b m e t l n) (hb : Below w.heap.size w w') : Kb S w' b m e t l n := h.kept (T := fun _ => False) (Fr.of_below hb) fun _ _ h => h
theorem Kb.mono {S T : Nat → Prop} {w : World} {b : Nat} {m e t n : Int} {l : List Int} (h : Kb S w b m e t l n) (hn : ∀ k, S k → T k) : Kb T w b m e t l n := by
  obtain ⟨v, hB, hO, hv⟩ := h.ex
  exact ⟨hn b h.inB, v, hB, hO, fun k hk => ⟨hn k (hv k hk).1, (hv k hk).2⟩⟩
theorem Kb.lt {S : Nat → Prop} {w : World} {b : Nat} {m e t n : Int} {l : List Int} (h : Kb S w b m e t l n) : b < w.heap.size := by
  obtain ⟨v, hB, _⟩ := h.ex
  exact hB.lt
/-- What is kept of a budget's grants: the last of them, in order; what is gone counts no more. -/
structure Late (g : Bg) (l : List Int) : Prop where
  ex : ∃ old, g.l = old ++ l ∧ ∀ t ∈ old, g.every ≤ Sat.sub g.last t
  asc : l.Pairwise (· ≤ ·)
/-- The program's budget at a is g; all that it is made of lies in S. -/
structure Bud (S : Nat → Prop) (w : World) (a : Addr) (g : Bg) : Prop where
  ok : BOk g
  ex : ∃ b l, a = ⟨b, 0, none⟩ ∧ Kb S w b g.most g.every g.last l g.l.length ∧ Late g l
theorem Bud.kept {S T : Nat → Prop} {w w' : World} {a : Addr} {g : Bg} (h : Bud S w a g) (hf : Fr T w w') (hn : ∀ k, S k → ¬ T k) : Bud S w' a g := by
  obtain ⟨h1, b, l, h2, h3, h4⟩ := h
  exact ⟨h1, b, l, h2, h3.kept hf hn, h4⟩
theorem Bud.mono {S T : Nat → Prop} {w : World} {a : Addr} {g : Bg} (h : Bud S w a g) (hn : ∀ k, S k → T k) : Bud T w a g := by
  obtain ⟨h1, b, l, h2, h3, h4⟩ := h
  exact ⟨h1, b, l, h2, h3.mono hn, h4⟩
theorem Bud.below {S : Nat → Prop} {w w' : World} {a : Addr} {g : Bg} (h : Bud S w a g) (hb : Below w.heap.size w w') : Bud S w' a g := h.kept (T := fun _ => False) (Fr.of_below hb) fun _ _ h => h
theorem new_any (most every : Int) (m0 : -9223372036854775808 ≤ most) (m1 : most ≤ 9223372036854775807) (e0 : 0 ≤ every) (e1 : every ≤ 18446744073709551615) (w : World) :
    Calls Tryz.prog 37 #[.int .i64 most, .int .u64 every] w fun e w' => ∃ a, e = .returned (.pointer (some a)) ∧ Bud (fun k => w.heap.size ≤ k ∧ k < w'.heap.size) w' a (newB most every) ∧ Below w.heap.size w w' := by
  have hOk := Lib.hid (ok_newB most e0 e1)
  have hm : (newB most every).most = max 0 (min most 64) := rfl
  have key : ∀ m : Int, m = (newB most every).most → Bud (fun k => w.heap.size ≤ k ∧ k < (w.alloc (.cells #[.int .i64 m, .int .u64 every, .int .u64 0, .slice none 0 0, .int .i64 0] 155)).heap.size) (w.alloc (.cells #[.int .i64 m, .int .u64 every, .int .u64 0, .slice none 0 0, .int .i64 0] 155)) ⟨w.heap.size, 0, none⟩ (newB most every) := by
    intro m hm
    refine ⟨hOk.out, w.heap.size, [], rfl, ⟨⟨Nat.le_refl _, by simp⟩, .slice none 0 0, ?_, Vw.nil _, fun k hk => by simp [Value.ownBlock] at hk⟩, ⟨[], rfl, fun t ht => by cases ht⟩, List.Pairwise.nil⟩
    rw [← hm]
    exact Blk.new _ _ _
  have HK := Lib.hid key
  clear key
  go_enter Tryz.func37, Tryz.ntmps37
  go_wp2
  all_goals go_ret
  all_goals exact ⟨_, rfl, HK.out _ (by rw [hm]; omega), (Below.refl _ _).alloc (Nat.le_refl _) _⟩
def lenAt (w : World) (b : Nat) : Nat := match w.cell? ⟨b, 3, none⟩ with
  | some (.slice _ n _) => n
  | _ => 0
/-- What no longer counts is cut off. -/
theorem forget_in {S : Nat → Prop} {w : World} {b : Nat} {m e t n : Int} {l : List Int} (h : Kb S w b m e t l n) (hl : l.length ≤ 1000000) (e0 : 0 ≤ e) (t0 : 0 ≤ t) (t1 : t ≤ 18446744073709551615) (ha : ∀ x ∈ l, 0 ≤ x ∧ x ≤ 18446744073709551615) :
    Calls Tryz.prog 116 #[.pointer (some ⟨b, 0, none⟩)] w fun o w' => o = .returned (.tuple #[]) ∧ ∃ old y, l = old ++ y ∧ (∀ x ∈ old, e ≤ Sat.sub t x) ∧ (∀ x, y.head? = some x → Sat.sub t x < e) ∧ Kb S w' b m e t y n ∧ Fr S w w' := by
  go_enter Tryz.func116, Tryz.ntmps116
  go_wp2
  go_loopw [] (fun wr => ∃ old y, l = old ++ y ∧ (∀ x ∈ old, e ≤ Sat.sub t x) ∧ Kb S wr b m e t y n ∧ Fr S w wr) (fun wr => lenAt wr b)
  case atStart => exact ⟨[], l, rfl, fun x hx => (by cases hx), h, Fr.refl _ _⟩
  case round =>
    obtain ⟨old, y, rfl, ho, hK, hF⟩ := hrel
    have hbS := hK.inB
    obtain ⟨v, B, O, hv⟩ := hK.ex
    have HA := Lib.hid ha
    clear ha h
    have hbr := B.lt
    have c1 : wr.cell? ⟨b, 1, none⟩ = some (.int .u64 e) := B.cell 1
    have c2 : wr.cell? ⟨b, 2, none⟩ = some (.int .u64 t) := B.cell 2
    rcases y with _ | ⟨x, y⟩
    · obtain ⟨a, cap, rfl, h1, h2, hz⟩ := O.read
      have c3 : wr.cell? ⟨b, 3, none⟩ = some (.slice a 0 cap) := B.cell 3
      have d3 := fun p : In (Lt wr) => inCell p c3
      go_wp2
      go_quiet (fail)
      go_wp2
      all_goals go_end0
      exact ⟨rfl, old, [], rfl, ho, fun z hz => (by cases hz), hK.below (Base.drawn (Below.refl _ _) _), hF.trans (T := fun _ => False) (Fr.of_below (Base.drawn (Below.refl _ _) _)) fun _ _ h => h.elim⟩
    · rcases O with ⟨e1, e2⟩ | ⟨g, off, cap, cur, rfl, hO⟩
      · cases e2
      have O : Vw wr (.slice (some ⟨g, off, none⟩) (y.length + 1) cap) (x :: y) := .inr ⟨g, off, cap, cur, rfl, hO⟩
      obtain ⟨a', cap', ea, h1, h2, hz⟩ := O.read
      injection ea with ea1 ea2 ea3
      subst ea1 ea3
      obtain ⟨g', off', ea4, hgb, cx⟩ := hz.at_ (i := 0) (by simp)
      cases ea4
      simp only [List.getD_cons_zero, Nat.add_zero] at cx
      simp only [List.length_cons] at h1 hl
      unfold maxLen at h2
      obtain ⟨x0, x1⟩ := HA.out x (by simp)
      have CS := fun V : World => Clock.since_any t x t0 t1 x0 x1 V
      have c3 : wr.cell? ⟨b, 3, none⟩ = some (.slice (some ⟨g, off, none⟩) (y.length + 1) cap) := B.cell 3
      have hy : (0 : Int) < ((y.length : Int) + 1) := by omega
      have hgb' : g ≠ b := (hv g rfl).2
      have d1 := fun p : In (Lt wr) => inCell p c1
      have d2 := fun p : In (Lt wr) => inCell p c2
      have d3 := fun p : In (Lt wr) => inCell p c3
      have dx := fun p : In (Lt wr) => inCell p cx
      have OT := O.tail
      clear hz hO O ea2
      generalize hf : Sat.sub t x = f at *
      have HX := Lib.hid hf
      clear hf
      by_cases t2 : e ≤ f
      · have t3 : decide (e ≤ f) = true := by simpa using t2
        go_wp2
        refine wp_region_in (Lt wr) (Lt.drew wr) (by kernel_rfl) (by kernel_rfl) ?_
        repeat (go_big_quiet_step ((go_at_call 133; refine in_same (v := .int .u64 f) ?_; exact (CS _))))
        refine wpQuiet_nil ?_
        rintro w2 ⟨⟨_, hw2⟩, rfl⟩
        have hw2 : Below wr.heap.size wr w2 := hw2
        have B2 := B.below hw2 hbr
        have hb2 := B2.lt
        have f3 := B2.free 3
        have c3' : w2.cell? ⟨b, 3, none⟩ = some (.slice (some ⟨g, off, none⟩) (y.length + 1) cap) := B2.cell 3
        go_wp2
        all_goals go_roundw
        case rel =>
          refine ⟨old ++ [x], y, by simp, fun z hz => ?_, ⟨hbS, _, B2.set 3 _, (OT.kept (T := fun _ => False) (Fr.of_below hw2) fun _ _ h => h).kept (T := fun k => k = b) ((Fr.refl (fun k => k = b) w2).setCell (p := ⟨b, 3, none⟩) (fun _ => rfl) _) fun k hk e => ?_, fun k hk => ?_⟩, (hF.trans (T := fun _ => False) (Fr.of_below hw2) fun _ _ h => h.elim).setCell (fun _ => hbS) _⟩
          · rcases List.mem_append.1 hz with hz | hz
            · exact ho z hz
            · obtain rfl : z = x := by simpa using hz
              rw [HX.out]
              exact t2
          · have hg : g = k := by split at hk <;> exact Option.some.inj hk
            omega
          · have hg : g = k := by split at hk <;> exact Option.some.inj hk
            subst hg
            exact hv g rfl
        case measure =>
          unfold lenAt
          rw [c3, (B2.set 3 _).cell 3]
          exact Nat.lt_succ_self _
      · have t3 : decide (e ≤ f) = false := by simpa using t2
        go_wp2
        refine wp_region_in (Lt wr) (Lt.drew wr) (by kernel_rfl) (by kernel_rfl) ?_
        repeat (go_big_quiet_step ((go_at_call 133; refine in_same (v := .int .u64 f) ?_; exact (CS _))))
        refine wpQuiet_nil ?_
        rintro w2 ⟨⟨_, hw2⟩, rfl⟩
        have hw2 : Below wr.heap.size wr w2 := hw2
        go_wp2
        all_goals go_end0
        exact ⟨rfl, old, x :: y, rfl, ho, fun z hz => (by cases hz; rw [HX.out]; omega), hK.below hw2, hF.trans (T := fun _ => False) (Fr.of_below hw2) fun _ _ h => h.elim⟩
/-- What is near of a budget's grants: what is kept of them behind the cut. -/
theorem late_near {g : Bg} {l old y : List Int} {N : Int} (h : Late g l) (hN : g.last ≤ N) (hl : l = old ++ y) (ho : ∀ x ∈ old, g.every ≤ Sat.sub N x) (hy : ∀ x, y.head? = some x → Sat.sub N x < g.every) : near g.every N g.l = y.length := by
  obtain ⟨old0, e0, h0⟩ := h.ex
  have hz : ∀ q : List Int, (∀ x ∈ q, g.every ≤ Sat.sub N x) → near g.every N q = 0 := by
    intro q
    induction q with
    | nil => intro _; rfl
    | cons x r ih =>
      intro hq
      have := hq x (by simp)
      rw [near, if_neg (by omega), ih fun z hz => hq z (by simp [hz])]
      rfl
  have ho0 : ∀ x ∈ old0, g.every ≤ Sat.sub N x := fun x hx => by
    have := h0 x hx
    unfold Sat.sub at this ⊢
    split at this <;> split <;> omega
  have hasc := h.asc
  rw [hl] at hasc
  have hya := (List.pairwise_append.1 hasc).2.1
  have hn : ∀ q : List Int, (∀ x ∈ q, Sat.sub N x < g.every) → near g.every N q = q.length := by
    intro q
    induction q with
    | nil => intro _; rfl
    | cons x r ih =>
      intro hq
      have := hq x (by simp)
      rw [near, if_pos this, ih fun z hz => hq z (by simp [hz]), List.length_cons]
      omega
  have hall : ∀ x ∈ y, Sat.sub N x < g.every := by
    rcases y with _ | ⟨x, r⟩
    · intro x hx
      cases hx
    · intro z hz
      have h1 := hy x rfl
      rcases List.mem_cons.1 hz with rfl | hz
      · exact h1
      · have h2 := (List.pairwise_cons.1 hya).1 z hz
        unfold Sat.sub at h1 ⊢
        split at h1 <;> split <;> omega
  rw [e0, hl, near_append, near_append, hz _ ho0, hz _ ho, hn _ hall]
  omega
theorem late_ask {g : Bg} {l old y : List Int} {now : Int} (hok : BOk g) (h : Late g l) (hl : l = old ++ y) (ho : ∀ x ∈ old, g.every ≤ Sat.sub (nowB g now) x) : Late (askG g now) (if grants g now = true then y ++ [nowB g now] else y) := by
  obtain ⟨old0, e0, h0⟩ := h.ex
  have hN : g.last ≤ nowB g now := by unfold nowB; omega
  have hasc := h.asc
  rw [hl] at hasc
  have hya := (List.pairwise_append.1 hasc).2.1
  have hold : ∀ x ∈ old0 ++ old, (askG g now).every ≤ Sat.sub (askG g now).last x := fun x hx => by
    show g.every ≤ Sat.sub (nowB g now) x
    rcases List.mem_append.1 hx with hx | hx
    · have := h0 x hx
      unfold Sat.sub at this ⊢
      split at this <;> split <;> omega
    · exact ho x hx
  have hyN : ∀ x ∈ y, x ≤ nowB g now := fun x hx => by
    have := hok.all x (by rw [e0, hl]; simp [hx])
    omega
  have e1 : (askG g now).l = if grants g now = true then g.l ++ [nowB g now] else g.l := rfl
  split
  · rename_i hg
    refine ⟨⟨old0 ++ old, by rw [e1, if_pos hg, e0, hl]; simp, hold⟩, List.pairwise_append.2 ⟨hya, List.pairwise_singleton _ _, fun x hx z hz => ?_⟩⟩
    obtain rfl : z = nowB g now := by simpa using hz
    exact hyN x hx
  · rename_i hg
    exact ⟨⟨old0 ++ old, by rw [e1, if_neg hg, e0, hl]; simp, hold⟩, hya⟩
theorem kb_asked {S : Nat → Prop} {w w3 w4 : World} {b : Nat} {m e t n n' : Int} {y : List Int} {v v4 : Value} (hb : S b) (hbw : b < w.heap.size) (hv : ∀ k, v.ownBlock = some k → S k ∧ k ≠ b) (F3 : Fr S w w3) (B4 : Blk w4 b #[.int .i64 m, .int .u64 e, .int .u64 t, v, .int .i64 n] 155) (A : AddedV w3 v y v4 w4) :
    Kb (Plus S w ((w4.setCell ⟨b, 3, none⟩ v4).setCell ⟨b, 4, none⟩ (.int .i64 n'))) ((w4.setCell ⟨b, 3, none⟩ v4).setCell ⟨b, 4, none⟩ (.int .i64 n')) b m e t y n' ∧ Fr S w ((w4.setCell ⟨b, 3, none⟩ v4).setCell ⟨b, 4, none⟩ (.int .i64 n')) := by
  have hsz := F3.size
  have hnb : ∀ k, v4.ownBlock = some k → k ≠ b ∧ (S k ∨ (w.heap.size ≤ k ∧ k < w4.heap.size)) := fun k hk => by
    rcases A.at_ k hk with h1 | h1
    · exact ⟨(hv k h1).2, .inl (hv k h1).1⟩
    · exact ⟨by omega, .inr ⟨by omega, h1.2⟩⟩
  have es : ((w4.setCell ⟨b, 3, none⟩ v4).setCell ⟨b, 4, none⟩ (.int .i64 n')).heap.size = w4.heap.size := by simp [World.setCell]
  have G : Fr (fun k => k = b) w4 ((w4.setCell ⟨b, 3, none⟩ v4).setCell ⟨b, 4, none⟩ (.int .i64 n')) := ((Fr.refl (fun k => k = b) w4).setCell (p := ⟨b, 3, none⟩) (fun _ => rfl) v4).setCell (p := ⟨b, 4, none⟩) (fun _ => rfl) _
  refine ⟨⟨.inl hb, v4, (B4.set 3 v4).set 4 _, A.own.kept G fun k hk e => (hnb k hk).1 e, fun k hk => ⟨?_, (hnb k hk).1⟩⟩, ?_⟩
  · unfold Plus
    rw [es]
    exact (hnb k hk).2
  · exact ((F3.trans A.fr fun i _ hi => (hv i hi).1).setCell (fun _ => hb) v4).setCell (fun _ => hb) _
set_option maxHeartbeats 2000000 in
theorem ask_any {S : Nat → Prop} {w : World} {a : Addr} {g : Bg} (h : Bud S w a g) (hn : g.l.length ≤ 1000000) (now : Int) (n0 : 0 ≤ now) (n1 : now ≤ 18446744073709551615) :
    Calls Tryz.prog 95 #[.pointer (some a), .int .u64 now] w fun e w' => e = .returned (.bool (grants g now)) ∧ Bud (Plus S w w') w' a (askG g now) ∧ Fr S w w' := by
  obtain ⟨ok, b, l, rfl, hK, hLt⟩ := h
  have hOk := Lib.hid (ok_ask ok n0 n1)
  have hbw := hK.lt
  have hbS := hK.inB
  have t0 := ok.t0
  have t1 := ok.t1
  have e0 := ok.e0
  have hNb : 0 ≤ nowB g now ∧ nowB g now ≤ 18446744073709551615 := by unfold nowB; omega
  have hNl : g.last ≤ nowB g now := by unfold nowB; omega
  have hN : (if g.last < now then now else g.last) = nowB g now := by unfold nowB; omega
  have hal : ∀ x ∈ l, 0 ≤ x ∧ x ≤ 18446744073709551615 := fun x hx => by
    obtain ⟨old0, q, _⟩ := hLt.ex
    have := ok.all x (by rw [q]; simp [hx])
    omega
  have hll : l.length ≤ 1000000 := by
    obtain ⟨old0, q, _⟩ := hLt.ex
    rw [q, List.length_append] at hn
    omega
  have HLA := Lib.hid fun (old y : List Int) (hl : l = old ++ y) (ho : ∀ x ∈ old, g.every ≤ Sat.sub (nowB g now) x) => late_ask (now := now) ok hLt hl ho
  have HLN := Lib.hid fun (old y : List Int) (hl : l = old ++ y) (ho : ∀ x ∈ old, g.every ≤ Sat.sub (nowB g now) x) (hy : ∀ x, y.head? = some x → Sat.sub (nowB g now) x < g.every) => late_near hLt hNl hl ho hy
  have hG : grants g now = decide (near g.every (nowB g now) g.l < g.most) := rfl
  have hA : askG g now = { g with last := nowB g now, l := if grants g now = true then g.l ++ [nowB g now] else g.l } := rfl
  have hM := ok.m0
  have hM1 := ok.m1
  clear hLt ok
  generalize nowB g now = N at *
  generalize grants g now = gr at *
  generalize askG g now = g' at *
  replace hA := Lib.hid hA
  replace hG := Lib.hid hG
  obtain ⟨v, B0, O0, hv⟩ := hK.ex
  have c2 : w.cell? ⟨b, 2, none⟩ = some (.int .u64 g.last) := B0.cell 2
  have f2 := B0.free 2
  go_enter Tryz.func95, Tryz.ntmps95
  go_upto_region 4 with fail
  refine at_any ?_
  intro W hW
  obtain ⟨K1, F1, z1⟩ : Kb S W b g.most g.every N l g.l.length ∧ Fr S w W ∧ W.heap.size = w.heap.size := by
    subst hW
    refine ⟨⟨hbS, v, B0.set 2 _, ?_, hv⟩, ?_, ?_⟩
    · exact O0.kept (T := fun k => k = b) ((Fr.refl (fun k => k = b) w).setCell (p := ⟨b, 2, none⟩) (fun _ => rfl) _) fun k hk e => (hv k hk).2 e
    · exact (Fr.refl S w).setCell (fun _ => hbS) _
    · simp [World.setCell]
  clear hW c2 f2 B0 O0 hv hN hK
  have CF := forget_in K1 hll e0 hNb.1 hNb.2 hal
  clear hal
  go_upto_region 5 with (go_at_call 116; refine CF.mono ?_; rintro e w1 ⟨rfl, old, y, hl, ho, hy, K2, F2⟩)
  have hLA := HLA.out old y hl ho
  have hLN := HLN.out old y hl ho hy
  have hyl : y.length ≤ 1000000 := by rw [hl, List.length_append] at hll; omega
  have hG' := hG.out
  rw [hLN] at hG'
  have F3 : Fr S w w1 := F1.trans F2 fun _ _ h => h
  clear HLA HLN hl ho hy CF K1 F1 F2 hll
  obtain ⟨v, B, O, hv⟩ := K2.ex
  obtain ⟨a, cap, rfl, h1, h2, _⟩ := O.read
  unfold maxLen at h2
  have hb1 := B.lt
  have c0 : w1.cell? ⟨b, 0, none⟩ = some (.int .i64 g.most) := B.cell 0
  have c3 : w1.cell? ⟨b, 3, none⟩ = some (.slice a y.length cap) := B.cell 3
  have HLA := Lib.hid hLA
  have HA := hA.out
  clear hLA hA hG
  by_cases t1 : (y.length : Int) < g.most
  · have hgr : gr = true := by rw [hG']; exact decide_eq_true t1
    have t2 : decide (g.most ≤ (y.length : Int)) = false := by simpa using t1
    subst hgr
    have e1 : g' = { g with last := N, l := g.l ++ [N] } := by rw [HA]; rfl
    replace e1 := Lib.hid e1
    clear HA hG'
    go_wp2
    go_quiet (fail)
    go_upto_region 7 with fail
    refine at_any ?_
    intro W hW
    obtain ⟨B4, O4, F4⟩ : Blk W b #[.int .i64 g.most, .int .u64 g.every, .int .u64 N, .slice a y.length cap, .int .i64 g.l.length] 155 ∧ Vw W (.slice a y.length cap) y ∧ Fr S w W := by
      subst hW
      exact ⟨B.below (Base.drawn (Below.refl _ _) _) hb1, O.kept (T := fun _ => False) (Fr.of_below (Base.drawn (Below.refl _ _) _)) fun _ _ h => h, F3.trans (T := fun _ => False) (Fr.of_below (Base.drawn (Below.refl _ _) _)) fun _ _ h => h.elim⟩
    clear hW c0 c3 hb1 K2 F3 B O t1 t2 h1 h2
    have hb1 := B4.lt
    have c2 : W.cell? ⟨b, 2, none⟩ = some (.int .u64 N) := B4.cell 2
    have c3 : W.cell? ⟨b, 3, none⟩ = some (.slice a y.length cap) := B4.cell 3
    have HV := Lib.hid hv
    have HF := Lib.hid F4
    clear hv F4
    go_region_law (refine step_addV (W := W.drew) (s := N) (by rfl) (by rfl) (.tmp 32) (.tmp 37) (by rfl) (by rfl) O4.drew (by rfl) (by simp) (by omega) ?_; intro v4 w4 A4; replace A4 := A4.undrew; obtain ⟨a4, cap4, rfl, _, _, _⟩ := A4.own.read; have B5 := B4.kept (w := W) (S := fun k => (Value.slice a y.length cap).ownBlock = some k) A4.fr (fun e => (HV.out _ e).2 rfl); have A4h := Lib.hid A4; have p2 : w4.cell? ⟨b, 3, none⟩ = some (.slice a y.length cap) := B5.cell 3; have p3 := B5.free 3; have p4 : w4.cell? ⟨b, 4, none⟩ = some (.int .i64 g.l.length) := B5.cell 4; have p5 := B5.free 4; have p6 := B5.lt)
    all_goals go_wp2
    all_goals go_ret
    all_goals
      obtain ⟨K6, F6⟩ := kb_asked (w := w) (n' := (g.l.length : Int) + 1) hbS hbw HV.out HF.out B5 A4h.out
      rw [show (y ++ [N]).length = y.length + 1 by simp] at K6 F6
      refine ⟨rfl, ⟨hOk.out, b, y ++ [N], rfl, ?_, by simpa using HLA.out⟩, F6⟩
      rw [e1.out]
      simp only [show ((g.l ++ [N]).length : Int) = (g.l.length : Int) + 1 by simp]
      exact K6
  · have hgr : gr = false := by rw [hG']; exact decide_eq_false t1
    have t2 : decide (g.most ≤ (y.length : Int)) = true := by simpa using t1
    subst hgr
    have e1 : g' = { g with last := N } := by rw [HA]; rfl
    replace e1 := Lib.hid e1
    clear HA hG'
    go_wp2
    go_quiet (fail)
    go_wp2
    all_goals go_ret
    refine ⟨rfl, ⟨hOk.out, b, y, rfl, ?_, HLA.out⟩, ?_⟩
    · rw [e1.out]
      exact (K2.below (Base.drawn (Below.refl _ _) _)).mono fun k hk => .inl hk
    · exact F3.trans (T := fun _ => False) (Fr.of_below (Base.drawn (Below.refl _ _) _)) fun _ _ h => h.elim
theorem clone_in {w : World} {v : Value} {l : List Int} (h : Vw w v l) (hm : l.length ≤ 1000000) :
    Calls Tryz.prog 100 #[v] w fun e w' => ∃ v', e = .returned v' ∧ Vw w' v' l ∧ (∀ k, v'.ownBlock = some k → w.heap.size ≤ k) ∧ Below w.heap.size w w' := by
  obtain ⟨i0, hi0, hz0, hz1, hz2⟩ := info_parts infoU
  rcases h with ⟨rfl, rfl⟩ | ⟨g, off, cap, cur, rfl, hO⟩
  · have qT : (binOp .eql 153 (.slice none 0 0) (.slice none 0 0)).run Tryz.prog w = .ok (.bool true) w := rfl
    go_enter Tryz.func100, Tryz.ntmps100
    go_wp2
    all_goals go_ret
    all_goals exact ⟨_, rfl, Vw.nil _, fun k hk => by simp [Value.ownBlock] at hk, Below.refl _ _⟩
  · have O : Vw w (.slice (some ⟨g, off, none⟩) l.length cap) l := .inr ⟨g, off, cap, cur, rfl, hO⟩
    obtain ⟨a', cap', ea, h1, h2, hz⟩ := O.read
    injection ea with ea1 ea2 ea3
    subst ea1 ea3
    clear O hO ea2
    unfold maxLen at h2
    have qT : ∀ W : World, (binOp .eql 153 (.slice (some ⟨g, off, none⟩) l.length cap) (.slice none 0 0)).run Tryz.prog W = .ok (.bool false) W := fun _ => rfl
    have HZ := Lib.hid (Row.alloc hz (.cells #[] 23))
    clear hz
    go_enter Tryz.func100, Tryz.ntmps100
    go_wp2_with (at_builtin; refine wpl_append_row _ rfl (.tmp 5) (.tmp 6) _ rfl w.heap.size 23 i0 _ 1 8 Tryz.underlying153 hi0 hz0 hz1 hz2 rfl (by omega) (.slice (some ⟨w.heap.size, 0, none⟩) 0 0) 0 [] rfl (World.ownsRow_made w #[] 0 (Nat.le_refl _) (Nat.zero_le _) rfl) (some ⟨g, off, none⟩) l.length cap (words l) rfl (by simp [words]) HZ.out (ints_oneCell _ _) (by unfold maxLen; omega) (by omega) (by simp) ?_; intro v1 w1 hown1 hg1 hat1; have hb1 : Below w.heap.size w w1 := ((Below.refl _ _).alloc (Nat.le_refl _) _).grown hg1 (by simp) (by simp [Value.ownBlock]))
    all_goals go_ret
    rw [Nat.zero_add, List.nil_append] at hown1
    refine ⟨v1, rfl, .of_own ⟨hown1.1, hown1.2.imp id fun ⟨g, cap, cur, h1, h2, h3⟩ => ⟨g, cap, cur, h1, Nat.zero_le _, h3⟩⟩, fun k hk => (hown1.lt k hk).1, hb1⟩
set_option maxHeartbeats 1000000 in
theorem fork_any {S : Nat → Prop} {w : World} {a : Addr} {g : Bg} (h : Bud S w a g) (hn : g.l.length ≤ 1000000) :
    Calls Tryz.prog 64 #[.pointer (some a)] w fun e w' => ∃ a', e = .returned (.pointer (some a')) ∧ Bud (fun k => w.heap.size ≤ k ∧ k < w'.heap.size) w' a' g ∧ Below w.heap.size w w' := by
  obtain ⟨ok, b, l, rfl, hK, hLt⟩ := h
  have hll : l.length ≤ 1000000 := by
    obtain ⟨old0, q, _⟩ := hLt.ex
    rw [q, List.length_append] at hn
    omega
  obtain ⟨v, B, O, hv⟩ := hK.ex
  have c0 : w.cell? ⟨b, 0, none⟩ = some (.int .i64 g.most) := B.cell 0
  have c1 : w.cell? ⟨b, 1, none⟩ = some (.int .u64 g.every) := B.cell 1
  have c2 : w.cell? ⟨b, 2, none⟩ = some (.int .u64 g.last) := B.cell 2
  have c3 : w.cell? ⟨b, 3, none⟩ = some v := B.cell 3
  have c4 : w.cell? ⟨b, 4, none⟩ = some (.int .i64 g.l.length) := B.cell 4
  have hb := B.lt
  obtain ⟨a, cap, rfl, h1, h2, _⟩ := O.read
  unfold maxLen at h2
  go_enter Tryz.func64, Tryz.ntmps64
  go_upto_region 4 with fail
  have hB := Blk.new w #[.int .i64 g.most, .int .u64 g.every, .int .u64 g.last, .slice a l.length cap, .int .i64 g.l.length] 155
  have hL : Below w.heap.size w (w.alloc (.cells #[.int .i64 g.most, .int .u64 g.every, .int .u64 g.last, .slice a l.length cap, .int .i64 g.l.length] 155)) := (Below.refl _ _).alloc (Nat.le_refl _) _
  have hO := O.alloc (.cells #[.int .i64 g.most, .int .u64 g.every, .int .u64 g.last, .slice a l.length cap, .int .i64 g.l.length] 155)
  refine at_any ?_
  intro W hW
  have hW' : W = w.alloc (.cells #[.int .i64 g.most, .int .u64 g.every, .int .u64 g.last, .slice a l.length cap, .int .i64 g.l.length] 155) := hW
  rw [← hW'] at hB hL hO
  have hB0 := B.below hL hb
  have d3 : W.cell? ⟨b, 3, none⟩ = some (.slice a l.length cap) := hB0.cell 3
  have hb1 := hB0.lt
  have hbW := hB.lt
  have CC := clone_in hO hll
  clear hW hW' c0 c1 c2 c3 c4 hB0
  go_upto_region 5 with (go_at_call 100; refine CC.mono ?_; rintro e w1 ⟨v1, rfl, O1, N1, L1⟩; have hB1 := hB.below L1 hB.lt; have z1 := hB1.free 3; have z2 := hB1.lt; have z3 : w1.cell? ⟨w.heap.size, 3, none⟩ = some (.slice a l.length cap) := hB1.cell 3; obtain ⟨a1, cap1, rfl, _, _, _⟩ := O1.read)
  have hB2 : Blk (w1.setCell ⟨w.heap.size, 3, none⟩ (.slice a1 l.length cap1)) w.heap.size #[.int .i64 g.most, .int .u64 g.every, .int .u64 g.last, .slice a1 l.length cap1, .int .i64 g.l.length] 155 := hB1.set 3 _
  have G2 : Fr (fun k => k = w.heap.size) w1 (w1.setCell ⟨w.heap.size, 3, none⟩ (.slice a1 l.length cap1)) := (Fr.refl (fun k => k = w.heap.size) _).setCell (fun _ => rfl) _
  have M2 : Below w.heap.size w (w1.setCell ⟨w.heap.size, 3, none⟩ (.slice a1 l.length cap1)) := ((Fr.of_below (S := fun k => k = w.heap.size) (Base.next hL L1)).trans G2 fun _ _ h => h).toBelow (Nat.le_refl _) fun k hk => by omega
  have O2 := O1.kept G2 (fun k hk e => by have := N1 k hk; omega)
  generalize w1.setCell ⟨w.heap.size, 3, none⟩ (.slice a1 l.length cap1) = w2 at *
  go_wp2
  go_ret
  exact ⟨_, rfl, ⟨ok, w.heap.size, l, rfl, ⟨⟨Nat.le_refl _, hB2.lt⟩, _, hB2, O2, fun k hk => ⟨⟨by have := N1 k hk; omega, O2.lt hk⟩, by have := N1 k hk; omega⟩⟩, hLt⟩, M2⟩
end Go.Proofs.YtkiloaebokkjbaaGreat.Bud

/-
  A ledger of the program's and the reference's beside it: Two's methods by contract.
-/
set_option linter.unusedSimpArgs false
set_option linter.unusedVariables false
namespace Go.Proofs.YtkiloaebokkjbaaGreat.Led
set_option linter.unusedVariables false
set_option maxRecDepth 20000
open Go.ChangeShapes Go.WideShapes Go.ChangeAt Go.RowKit
open Go.Proofs.YtkiloaebokkjbaaGreat.Base Go.Proofs.YtkiloaebokkjbaaGreat.LedPlain

/-- The program's ledger at a and the reference's in block b are both g; what they are made of lies in S, apart from each other. -/
structure Pair (S : Nat → Prop) (w : World) (a : Addr) (b : Nat) (g : Lg) : Prop where
  two : ∃ S1 S2 : Nat → Prop, Led S1 w a g ∧ Rf S2 w b g ∧ (∀ k, S1 k → S k) ∧ (∀ k, S2 k → S k) ∧ ∀ k, S1 k → ¬ S2 k
  lt : ∀ k, S k → k < w.heap.size
theorem Pair.kept {S T : Nat → Prop} {w w' : World} {a : Addr} {b : Nat} {g : Lg} (h : Pair S w a b g) (hf : Fr T w w') (hn : ∀ k, S k → ¬ T k) : Pair S w' a b g := by
  obtain ⟨S1, S2, hP, hR, h1, h2, h3⟩ := h.two
  exact ⟨⟨S1, S2, hP.kept hf fun k hk => hn k (h1 k hk), hR.kept hf fun k hk => hn k (h2 k hk), h1, h2, h3⟩, fun k hk => Nat.lt_of_lt_of_le (h.lt k hk) hf.size⟩
theorem Pair.below {S : Nat → Prop} {w w' : World} {a : Addr} {b : Nat} {g : Lg} (h : Pair S w a b g) (hb : Below w.heap.size w w') : Pair S w' a b g := h.kept (T := fun _ => False) (Fr.of_below hb) fun _ _ h => h
theorem Pair.led {S : Nat → Prop} {w : World} {a : Addr} {b : Nat} {g : Lg} (h : Pair S w a b g) : Led S w a g := by
  obtain ⟨S1, S2, hP, hR, h1, h2, h3⟩ := h.two
  exact hP.mono h1
theorem Pair.rf {S : Nat → Prop} {w : World} {a : Addr} {b : Nat} {g : Lg} (h : Pair S w a b g) : Rf S w b g := by
  obtain ⟨S1, S2, hP, hR, h1, h2, h3⟩ := h.two
  exact hR.mono h2
theorem Pair.ok {S : Nat → Prop} {w : World} {a : Addr} {b : Nat} {g : Lg} (h : Pair S w a b g) : Ok g := h.rf.ok

section
variable {ρ : Operand → Value} {o : Oper} {u : World}
theorem ld_led (x : Operand) (ho : o.op = .load 25 x) {g i : Nat} {v : Option Addr} (hx : ρ x = .pointer (some ⟨g, i, none⟩)) (hc : u.cell? ⟨g, i, none⟩ = some (.pointer v)) : (execOp ρ o).run Tryz.prog u = .ok (.value (.pointer v)) u := by
  unfold execOp
  rw [ho]
  simp [hx, go_sem, hc]
theorem ld_ref (x : Operand) (ho : o.op = .load 26 x) {g i : Nat} {v : Option Addr} (hx : ρ x = .pointer (some ⟨g, i, none⟩)) (hc : u.cell? ⟨g, i, none⟩ = some (.pointer v)) : (execOp ρ o).run Tryz.prog u = .ok (.value (.pointer v)) u := by
  unfold execOp
  rw [ho]
  simp [hx, go_sem, hc]
theorem enter2 {P : Program} {F : FuncId} {X Y : Value} (x y : Operand) (ts : Array TypeId) (ho : o.op = .call { callee := .value (.func F), args := #[x, y], argTypes := ts })
    (hf : ρ (.func F) = .func (.func F) #[] #[]) (hx : ρ x = X) (hy : ρ y = Y) (hc : (callFunc F #[X, Y]).run P u = .ok (.enter F #[X, Y]) u) : (execOp ρ o).run P u = .ok (.enter F #[X, Y]) u := by
  unfold execOp
  rw [ho]
  simp [hf, hx, hy, go_sem]
  exact hc
end
set_option maxHeartbeats 2000000 in
theorem two_same {S : Nat → Prop} {w : World} {a : Addr} {b : Nat} {g : Lg} (h : Pair S w a b g) (hn : g.l.length ≤ 1000000) :
    Calls Tryz.prog 33 #[.agg #[.pointer (some a), .pointer (some ⟨b, 0, none⟩)]] w fun e w' => e = .returned (.bool true) ∧ Below w.heap.size w w' := by
  have hlow := low_le g
  have hls := least_le g
  have hfl := flight_bd h.ok
  have hrm := room_ge h.ok
  have hrm2 := room_le h.ok
  have hr1 := h.ok.r1
  have hnl : (g.l.length : Int) ≤ 4611686018427387904 := by have := h.ok.n1; have := h.ok.l1; omega
  go_enter Tryz.func33, Tryz.ntmps33
  go_upto_region 1 with fail
  have hB := Blk.new w #[.pointer (some a), .pointer (some ⟨b, 0, none⟩)] 28
  have hL : Below w.heap.size w (w.alloc (.cells #[.pointer (some a), .pointer (some ⟨b, 0, none⟩)] 28)) := (Below.refl _ _).alloc (Nat.le_refl _) _
  have hP := h.below hL
  generalize w.alloc (.cells #[.pointer (some a), .pointer (some ⟨b, 0, none⟩)] 28) = W at hB hL hP ⊢
  have c0 : W.cell? ⟨w.heap.size, 0, none⟩ = some (.pointer (some a)) := hB.cell 0
  have c1 : W.cell? ⟨w.heap.size, 1, none⟩ = some (.pointer (some ⟨b, 0, none⟩)) := hB.cell 1
  have e0 := fun p : In (Lt W) => inCell p c0
  have e1 := fun p : In (Lt W) => inCell p c1
  have P1 := fun p : In (Lt W) => low_any (hP.below p.h).led
  have P2 := fun p : In (Lt W) => next_any (hP.below p.h).led
  have P3 := fun p : In (Lt W) => least_any (hP.below p.h).led
  have P4 := fun p : In (Lt W) => room_any (hP.below p.h).led
  have P5 := fun p : In (Lt W) => flight_any (hP.below p.h).led
  have R1 := fun p : In (Lt W) => ref_low (hP.below p.h).rf
  have R2 := fun p : In (Lt W) => ref_next (hP.below p.h).rf
  have R3 := fun p : In (Lt W) => ref_least (hP.below p.h).rf
  have R4 := fun p : In (Lt W) => ref_room (hP.below p.h).rf
  have R5 := fun p : In (Lt W) => ref_flight (hP.below p.h).rf
  generalize (lowN g : Int) = low at P1 R1
  generalize hnx : (g.l.length : Int) = nx at P2 R2
  generalize (leastN g : Int) = ls at P3 R3
  generalize roomI g = rm at P4 R4
  generalize flight g = fl at P5 R5
  refine wp_region_tail (C := fun w' => ∃ p : In (Lt W), w' = p.w) 49 48 9 (by kernel_rfl) (by kernel_rfl) (by kernel_rfl) (by kernel_rfl) (by kernel_rfl) ⟨⟨W.drew, Lt.drew W⟩, rfl⟩ ?_
  simp only [List.take_succ_cons, List.take_zero]
  repeat (go_big_quiet_step (first
    | (go_at_call 41; refine in_below (v := .int .u64 low) ?_; exact P1 _)
    | (go_at_call 42; refine in_below (v := .int .u64 nx) ?_; exact P2 _)
    | (go_at_call 68; refine in_below (v := .int .u64 ls) ?_; exact P3 _)
    | (go_at_call 70; refine in_below (v := .int .i64 rm) ?_; exact P4 _)
    | (go_at_call 72; refine in_below (v := .int .u64 fl) ?_; exact P5 _)
    | (go_at_call 53; refine in_below (v := .int .u64 low) ?_; exact R1 _)
    | (go_at_call 60; refine in_same (v := .int .u64 nx) ?_; exact R2 _)
    | (go_at_call 69; refine in_below (v := .int .u64 ls) ?_; exact R3 _)
    | (go_at_call 71; refine in_below (v := .int .i64 rm) ?_; exact R4 _)
    | (go_at_call 73; refine in_below (v := .int .u64 fl) ?_; exact R5 _)))
  refine wpQuiet_nil ?_
  rintro w1 ⟨⟨_, hw1⟩, rfl⟩
  clear P1 P2 P3 P4 P5 R1 R2 R3 R4 R5 e0 e1
  have hw1 : Below W.heap.size W w1 := hw1
  have hlen : (allS g).length = g.l.length - lowN g := kept_len g
  refine wpAny_of_held (S := fun u => Below W.heap.size W u) _ _ _ _ ?_
  refine held_take (i := 49) (v := .pointer (some ⟨w.heap.size, 0, none⟩)) rfl (by kernel_rfl) (by kernel_rfl) (by kernel_rfl) (fun _ _ _ h => h) (by kernel_rfl) hw1 (fun _ hu => by kernel_rfl) ?_
  refine held_take (i := 50) (v := .pointer (some a)) rfl (by kernel_rfl) (by kernel_rfl) (by kernel_rfl) (fun _ _ _ h => h) (by kernel_rfl) hw1 (fun _ hu => ld_led (.tmp 52) rfl (by kernel_rfl) (keepCell hu c0)) ?_
  refine held_take (i := 52) (v := .pointer (some ⟨w.heap.size, 1, none⟩)) rfl (by kernel_rfl) (by kernel_rfl) (by kernel_rfl) (fun _ _ _ h => h) (by kernel_rfl) hw1 (fun _ hu => by kernel_rfl) ?_
  refine held_take (i := 53) (v := .pointer (some ⟨b, 0, none⟩)) rfl (by kernel_rfl) (by kernel_rfl) (by kernel_rfl) (fun _ _ _ h => h) (by kernel_rfl) hw1 (fun _ hu => ld_ref (.tmp 55) rfl (by kernel_rfl) (keepCell hu c1)) ?_
  refine held_call (i := 51) (f := 16) (args := #[.pointer (some a)]) rfl (by kernel_rfl) (by kernel_rfl) (enter1 (.tmp 53) _ rfl (by kernel_rfl) (by kernel_rfl) (by rfl)) ?_
  refine (all_any (hP.below hw1).led hn).mono ?_
  rintro e w2 ⟨p, cap, rfl, k1, k2, hp, L2⟩
  have M2 := Base.next hw1 L2
  refine ⟨_, rfl, M2, ?_⟩
  refine held_call (i := 54) (f := 74) (args := #[.pointer (some ⟨b, 0, none⟩)]) rfl (by kernel_rfl) (by kernel_rfl) (enter1 (.tmp 56) _ rfl (by kernel_rfl) (by kernel_rfl) (by rfl)) ?_
  refine (ref_all (hP.below M2).rf hn).mono ?_
  rintro e w3 ⟨v3, rfl, O3, L3⟩
  obtain ⟨p3, cap3, rfl, q1, q2, q3, _, _⟩ := O3.read
  have M3 := Base.next M2 L3
  have hp3 : Sents w3 p (allS g) := Row.below (RowIn.row hp) L3
  refine ⟨_, rfl, M3, ?_⟩
  refine held_call (i := 55) (f := 19) (args := #[.slice p (allS g).length cap, .slice p3 (allS g).length cap3]) rfl (by kernel_rfl) (by kernel_rfl) (enter2 (.tmp 54) (.tmp 57) _ rfl (by kernel_rfl) (by kernel_rfl) (by kernel_rfl) (by rfl)) ?_
  refine (ref_same p p3 _ cap cap3 (allS g) w3 rfl (by omega) hp3 q3).mono ?_
  rintro e w4 ⟨rfl, L4⟩
  have M4 := Base.next M3 L4
  refine ⟨_, rfl, M4, ?_⟩
  refine held_take (i := 56) (v := .bool true) rfl (by kernel_rfl) (by kernel_rfl) (by kernel_rfl) (fun _ _ _ h => h) (by kernel_rfl) M4 (fun _ hu => by kernel_rfl) ?_
  refine held_take (i := 57) (v := .bool true) rfl (by kernel_rfl) (by kernel_rfl) (by kernel_rfl) (fun _ _ _ h => h) (by kernel_rfl) M4 (fun _ hu => by kernel_rfl) ?_
  refine held_end 2 (.bool true) (by kernel_rfl) (by kernel_rfl) (by kernel_rfl) fun a' hd hv => ?_
  go_wp2
  refine bodyPost_ret (results_tmp rfl _ _ _) hd ?_
  rw [hv]
  exact ⟨rfl, Base.next hL M4⟩
end Go.Proofs.YtkiloaebokkjbaaGreat.Led
