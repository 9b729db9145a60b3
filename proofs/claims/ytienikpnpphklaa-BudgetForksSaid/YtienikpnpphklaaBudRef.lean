/-
  Contracts of the reference's budget.
-/
import Derived.Test.YtienikpnpphklaaBudRow
import Derived.Test.YtienikpnpphklaaBudPlain
import Derived.Test.YtienikpnpphklaaTail
import Derived.Test.YtienikpnpphklaaSat
import Derived.WalkSpells
import Derived.LoopTactic
import Derived.Lib.Hide
import Derived.BigQuiet
import Derived.Deep.QuietTactic
import Derived.Deep.RegionLaw
import Derived.Deep.RegionHeld3
import Derived.Deep.RegionWith
import Derived.Deep.DeepCutAuto
import Derived.Outline
set_option linter.unusedSimpArgs false
set_option linter.unusedVariables false
namespace Go.Proofs.Ytienikpnpphklaa.Bud
set_option linter.unusedVariables false
set_option maxRecDepth 20000
open Go.ChangeShapes Go.WideShapes Go.ChangeAt Go.RowKit
open Go.Proofs.Ytienikpnpphklaa.Base Go.Proofs.Ytienikpnpphklaa.BudPlain

/-- The reference's budget g: its block b and the row of its grants lie in S. -/
structure Bf (S : Nat → Prop) (w : World) (b : Nat) (g : Bg) : Prop where
  ok : BOk g
  inB : S b
  ex : ∃ v, Blk w b #[.int .i64 g.most, .int .u64 g.every, .int .u64 g.last, v] 32 ∧ OwnU w v g.l ∧ ∀ k, v.ownBlock = some k → S k ∧ k ≠ b
theorem Bf.kept {S T : Nat → Prop} {w w' : World} {b : Nat} {g : Bg} (h : Bf S w b g) (hf : Fr T w w') (hn : ∀ k, S k → ¬ T k) : Bf S w' b g := by
  obtain ⟨v, hB, hO, hv⟩ := h.ex
  exact ⟨h.ok, h.inB, v, hB.kept hf (hn b h.inB), hO.kept hf fun k hk => hn k (hv k hk).1, hv⟩
theorem Bf.below {S : Nat → Prop} {w w' : World} {b : Nat} {g : Bg} (h : Bf S w b g) (hb : Below w.heap.size w w') : Bf S w' b g := h.kept (T := fun _ => False) (Fr.of_below hb) fun _ _ h => h
theorem Bf.mono {S T : Nat → Prop} {w : World} {b : Nat} {g : Bg} (h : Bf S w b g) (hn : ∀ k, S k → T k) : Bf T w b g := by
  obtain ⟨v, hB, hO, hv⟩ := h.ex
  exact ⟨h.ok, hn b h.inB, v, hB, hO, fun k hk => ⟨hn k (hv k hk).1, (hv k hk).2⟩⟩
theorem Bf.drew {S : Nat → Prop} {w : World} {b : Nat} {g : Bg} (h : Bf S w b g) : Bf S w.drew b g := ⟨h.ok, h.inB, h.ex⟩
theorem Bf.lt {S : Nat → Prop} {w : World} {b : Nat} {g : Bg} (h : Bf S w b g) : b < w.heap.size := by
  obtain ⟨v, hB, _⟩ := h.ex
  exact hB.lt
theorem bf_new {most every : Int} (hOk : BOk (newB most every)) (w : World) {m : Int} (hm : (newB most every).most = m) : Bf (fun k => w.heap.size ≤ k ∧ k < (w.alloc (.cells #[.int .i64 m, .int .u64 every, .int .u64 0, .slice none 0 0] 32)).heap.size) (w.alloc (.cells #[.int .i64 m, .int .u64 every, .int .u64 0, .slice none 0 0] 32)) w.heap.size (newB most every) := by
  refine ⟨hOk, ⟨Nat.le_refl _, by simp⟩, .slice none 0 0, ?_, OwnU.nil _, fun k hk => by simp [Value.ownBlock] at hk⟩
  rw [hm]
  exact Blk.new _ _ _
theorem ref_new (most every : Int) (e0 : 0 ≤ every) (e1 : every ≤ 18446744073709551615) (w : World) :
    Calls Try.prog 9 #[.int .i64 most, .int .u64 every] w fun e w' => ∃ b, e = .returned (.pointer (some ⟨b, 0, none⟩)) ∧ Bf (fun k => w.heap.size ≤ k ∧ k < w'.heap.size) w' b (newB most every) ∧ Below w.heap.size w w' := by
  have hOk := ok_newB most e0 e1
  have hm : (newB most every).most = max 0 (min most 64) := rfl
  go_enter Try.func9, Try.ntmps9
  go_wp2
  all_goals go_ret
  all_goals exact ⟨_, rfl, bf_new hOk w (by rw [hm]; omega), (Below.refl _ _).alloc (Nat.le_refl _) _⟩
theorem bf_asked {S : Nat → Prop} {w w3 w4 : World} {b : Nat} {g : Bg} {v v4 : Value} {N : Int} (ho : BOk { g with last := N, l := g.l ++ [N] }) (hb : S b) (hbw : b < w.heap.size) (hv : ∀ k, v.ownBlock = some k → S k ∧ k ≠ b) (hsz : w.heap.size ≤ w3.heap.size)
    (F3 : Fr S w w3) (B4 : Blk w4 b #[.int .i64 g.most, .int .u64 g.every, .int .u64 N, v] 32) (A : AddedU w3 v (g.l ++ [N]) v4 w4) :
    Bf (Plus S w (w4.setCell ⟨b, 3, none⟩ v4)) (w4.setCell ⟨b, 3, none⟩ v4) b { g with last := N, l := g.l ++ [N] } ∧ Fr S w (w4.setCell ⟨b, 3, none⟩ v4) := by
  have hnb : ∀ k, v4.ownBlock = some k → k ≠ b ∧ (S k ∨ (w.heap.size ≤ k ∧ k < w4.heap.size)) := fun k hk => by
    rcases A.at_ k hk with h1 | h1
    · exact ⟨(hv k h1).2, .inl (hv k h1).1⟩
    · exact ⟨by omega, .inr ⟨by omega, h1.2⟩⟩
  have es : (w4.setCell ⟨b, 3, none⟩ v4).heap.size = w4.heap.size := by simp [World.setCell]
  refine ⟨⟨ho, .inl hb, v4, B4.set 3 v4, ?_, fun k hk => ⟨?_, (hnb k hk).1⟩⟩, ?_⟩
  · exact A.own.kept (T := fun k => k = b) ((Fr.of_below (S := fun k => k = b) (Below.refl w4.heap.size w4)).setCell (p := ⟨b, 3, none⟩) (fun _ => rfl) v4) fun k hk e => (hnb k hk).1 e
  · unfold Plus
    rw [es]
    exact (hnb k hk).2
  · exact (F3.trans A.fr fun i _ hi => (hv i hi).1).setCell (fun _ => hb) v4
set_option maxHeartbeats 2000000 in
theorem ref_ask {S : Nat → Prop} {w : World} {b : Nat} {g : Bg} (h : Bf S w b g) (hn : g.l.length ≤ 1000000) (now : Int) (n0 : 0 ≤ now) (n1 : now ≤ 18446744073709551615) :
    Calls Try.prog 11 #[.pointer (some ⟨b, 0, none⟩), .int .u64 now] w fun e w' => e = .returned (.bool (grants g now)) ∧ Bf (Plus S w w') w' b (askG g now) ∧ Fr S w w' := by
  have hOk := ok_ask h.ok n0 n1
  have hbw := h.lt
  have hbS := h.inB
  have ok := h.ok
  have t0 := ok.t0
  have t1 := ok.t1
  obtain ⟨v, B0, O0, hv⟩ := h.ex
  have hG : grants g now = decide (near g.every (nowB g now) g.l < g.most) := rfl
  have hA : askG g now = { g with last := nowB g now, l := if grants g now = true then g.l ++ [nowB g now] else g.l } := rfl
  have hN : (if g.last < now then now else g.last) = nowB g now := by unfold nowB; omega
  have hNb : 0 ≤ nowB g now ∧ nowB g now ≤ 18446744073709551615 := by unfold nowB; omega
  have hall : ∀ k, 0 ≤ g.l.getD k 0 ∧ g.l.getD k 0 ≤ 18446744073709551615 := fun k => by
    rw [List.getD_eq_getElem?_getD]
    cases e : g.l[k]? with
    | none => simp
    | some t => have := ok.all t (List.mem_of_getElem? e); simp only [Option.getD_some]; omega
  generalize nowB g now = N at *
  generalize grants g now = gr at *
  replace hA := Lib.hid hA
  replace hG := Lib.hid hG
  replace hOk := Lib.hid hOk
  have c0 : w.cell? ⟨b, 0, none⟩ = some (.int .i64 g.most) := B0.cell 0
  have c1 : w.cell? ⟨b, 1, none⟩ = some (.int .u64 g.every) := B0.cell 1
  have c2 : w.cell? ⟨b, 2, none⟩ = some (.int .u64 g.last) := B0.cell 2
  have f2 := B0.free 2
  go_enter Try.func11, Try.ntmps11
  go_upto_region 2 with fail
  refine at_any ?_
  intro W hW
  obtain ⟨B1, F1, z1⟩ : Blk W b #[.int .i64 g.most, .int .u64 g.every, .int .u64 N, v] 32 ∧ Fr S w W ∧ W.heap.size = w.heap.size := by
    subst hW
    refine ⟨?_, ?_, ?_⟩
    · exact B0.set 2 _
    · exact (Fr.refl S w).setCell (fun _ => hbS) _
    · simp [World.setCell]
  have O1 : OwnU W v g.l := by
    subst hW
    exact O0.kept (T := fun k => k = b) ((Fr.refl (fun k => k = b) w).setCell (p := ⟨b, 2, none⟩) (fun _ => rfl) _) fun k hk e => (hv k hk).2 e
  clear hW c0 c1 c2 f2 B0 hN
  obtain ⟨a, cap, rfl, h1, h2, hz⟩ := O1.read
  unfold maxLen at h2
  go_wp2
  go_loopw [5, 6] (fun n i wr => ∃ k : Nat, k ≤ g.l.length ∧ n = .int .i64 (near g.every N (g.l.take k)) ∧ i = .int .i64 k ∧ Below W.heap.size W wr) (fun _ i _ => g.l.length - (intOf i).toNat)
  case atStart => exact ⟨0, Nat.zero_le _, rfl, rfl, Below.refl _ _⟩
  case round =>
    obtain ⟨k, hk, rfl, rfl, hL⟩ := hrel
    have Br := B1.below hL B1.lt
    have c0 : wr.cell? ⟨b, 0, none⟩ = some (.int .i64 g.most) := Br.cell 0
    have c1 : wr.cell? ⟨b, 1, none⟩ = some (.int .u64 g.every) := Br.cell 1
    have c2 : wr.cell? ⟨b, 2, none⟩ = some (.int .u64 N) := Br.cell 2
    have c3 : wr.cell? ⟨b, 3, none⟩ = some (.slice a g.l.length cap) := Br.cell 3
    have hbr := Br.lt
    have hnn := near_nonneg g.every N (g.l.take k)
    rw [List.length_take, Nat.min_eq_left hk] at hnn
    by_cases hlt : k < g.l.length
    · have hF := near_take (e := g.every) (now := N) hlt
      have hlI : (k : Int) < (g.l.length : Int) := by omega
      obtain ⟨b', off', rfl, hb', e0⟩ := (hz.below hL).at_ hlt
      obtain ⟨x0, x1⟩ := hall k
      generalize g.l.getD k 0 = x at *
      have CS := fun p : In (Lt wr) => Sat.ref_sub N x hNb.1 hNb.2 x0 x1 p.w
      have d1 := fun p : In (Lt wr) => inCell p c1
      have d2 := fun p : In (Lt wr) => inCell p c2
      have d3 := fun p : In (Lt wr) => inCell p c3
      have dx := fun p : In (Lt wr) => inCell p e0
      generalize Sat.sub N x = df at *
      generalize near g.every N (g.l.take k) = nr at *
      go_upto_region 6 with fail
      refine wp_region_in (Lt wr) (Lt.drew wr) (by kernel_rfl) (by kernel_rfl) ?_
      repeat (go_big_quiet_step ((go_at_call 16; refine in_same (v := .int .u64 df) ?_; exact (CS _))))
      refine wpQuiet_nil ?_
      rintro w2 ⟨⟨_, hw2⟩, rfl⟩
      have hw2 : Below wr.heap.size wr w2 := hw2
      by_cases t1 : df < g.every
      · rw [if_pos t1] at hF
        go_wp2
        all_goals go_roundw
        case rel => exact ⟨k + 1, by omega, by rw [hF], by go_num, Base.next hL hw2⟩
        case measure => simp [intOf]; omega
      · rw [if_neg t1] at hF
        go_wp2
        all_goals go_roundw
        case rel => exact ⟨k + 1, by omega, by rw [hF, Int.add_zero], by go_num, Base.next hL hw2⟩
        case measure => simp [intOf]; omega
    · obtain rfl : k = g.l.length := by omega
      rw [List.take_length] at *
      have F2 : Fr S w wr := F1.trans (T := fun _ => False) (Fr.of_below hL) (fun _ _ h => h.elim)
      have Or := O1.kept (Fr.of_below (S := fun _ => False) hL) (fun _ _ h => h)
      by_cases t1 : near g.every N g.l < g.most
      · have hgr : gr = true := by rw [hG.out]; exact decide_eq_true t1
        have hAs : askG g now = { g with last := N, l := g.l ++ [N] } := by rw [hA.out, hgr]; rfl
        subst hgr
        have hOk' := hOk.out
        rw [hAs] at hOk'
        replace hAs := Lib.hid hAs
        replace hOk' := Lib.hid hOk'
        clear hA hOk hall hG
        generalize near g.every N g.l = nr at *
        go_upto_region 10 with fail
        have HV := Lib.hid hv
        have HF := Lib.hid F2
        clear hv F1 F2 hL O1 hz B1
        go_region_law (refine step_addU (W := wr.drew) (s := N) (by rfl) (by rfl) (.tmp 54) (.tmp 59) (by rfl) (by rfl) Or.drew (by rfl) (by simp) (by omega) ?_; intro v4 w4 A4; replace A4 := A4.undrew; obtain ⟨a4, cap4, rfl, _, _, _⟩ := A4.own.read; have B4 := Br.kept (w := wr) (S := fun k => (Value.slice a g.l.length cap).ownBlock = some k) A4.fr (fun e => (HV.out _ e).2 rfl); have A4h := Lib.hid A4; have p2 : w4.cell? ⟨b, 3, none⟩ = some (.slice a g.l.length cap) := B4.cell 3; have p3 := B4.free 3; have p4 : w4.cell? ⟨b, 2, none⟩ = some (.int .u64 N) := B4.cell 2)
        all_goals go_wp2
        all_goals go_ret
        all_goals exact ⟨rfl, by rw [hAs.out]; exact bf_asked hOk'.out hbS hbw HV.out (HF.out.size) HF.out B4 (by simpa using A4h.out)⟩
      · have hgr : gr = false := by rw [hG.out]; exact decide_eq_false t1
        have hAs : askG g now = { g with last := N } := by rw [hA.out, hgr]; rfl
        subst hgr
        have hOk' := hOk.out
        rw [hAs] at hOk'
        replace hAs := Lib.hid hAs
        generalize near g.every N g.l = nr at *
        go_wp2
        all_goals go_ret
        all_goals exact ⟨rfl, by rw [hAs.out]; exact ⟨hOk', .inl hbS, _, Br, Or, fun k hk => ⟨.inl (hv k hk).1, (hv k hk).2⟩⟩, F2⟩
section
variable {o : Oper} {ρ : Operand → Value} {u : World}
theorem lb_i64 (x : Operand) (ho : o.op = .load 3 x) {g i : Nat} {n : Int} (hx : ρ x = .pointer (some ⟨g, i, none⟩)) (hc : u.cell? ⟨g, i, none⟩ = some (.int .i64 n)) : (execOp ρ o).run Try.prog u = .ok (.value (.int .i64 n)) u := by unfold execOp; rw [ho]; simp [hx, hc, go_sem]
theorem lb_u64 (x : Operand) (ho : o.op = .load 22 x) {g i : Nat} {n : Int} (hx : ρ x = .pointer (some ⟨g, i, none⟩)) (hc : u.cell? ⟨g, i, none⟩ = some (.int .u64 n)) : (execOp ρ o).run Try.prog u = .ok (.value (.int .u64 n)) u := by unfold execOp; rw [ho]; simp [hx, hc, go_sem]
theorem lb_sl (x : Operand) (ho : o.op = .load 23 x) {g i : Nat} {a : Option Addr} {n c : Nat} (hx : ρ x = .pointer (some ⟨g, i, none⟩)) (hc : u.cell? ⟨g, i, none⟩ = some (.slice a n c)) : (execOp ρ o).run Try.prog u = .ok (.value (.slice a n c)) u := by unfold execOp; rw [ho]; simp [hx, hc, go_sem]
theorem box_b (x : Operand) (ho : o.op = .box 32 x) {r m t : Int} {v : Value} (hx : ρ x = .agg #[.int .i64 r, .int .u64 m, .int .u64 t, v]) : (execOp ρ o).run Try.prog u = .ok (.value (.pointer (some ⟨u.heap.size, 0, none⟩))) (u.alloc (.cells #[.int .i64 r, .int .u64 m, .int .u64 t, v] 32)) := by unfold execOp; rw [ho]; simp [hx, go_sem]
end
set_option maxHeartbeats 1000000 in
theorem ref_fork {S : Nat → Prop} {w : World} {b : Nat} {g : Bg} (h : Bf S w b g) (hn : g.l.length ≤ 1000000) :
    Calls Try.prog 14 #[.pointer (some ⟨b, 0, none⟩)] w fun e w' => ∃ b', e = .returned (.pointer (some ⟨b', 0, none⟩)) ∧ Bf (fun k => w.heap.size ≤ k ∧ k < w'.heap.size) w' b' g ∧ Below w.heap.size w w' := by
  obtain ⟨v, hB, hO, _⟩ := h.ex
  obtain ⟨a, cap, rfl, h1, h2, hz⟩ := hO.read
  have c0 : w.cell? ⟨b, 0, none⟩ = some (.int .i64 g.most) := hB.cell 0
  have c1 : w.cell? ⟨b, 1, none⟩ = some (.int .u64 g.every) := hB.cell 1
  have c2 : w.cell? ⟨b, 2, none⟩ = some (.int .u64 g.last) := hB.cell 2
  have c3 : w.cell? ⟨b, 3, none⟩ = some (.slice a g.l.length cap) := hB.cell 3
  have hb := h.lt
  have HOK := Lib.hid h.ok
  unfold maxLen at h2
  clear hB hO h
  obtain ⟨r, m, t, l⟩ := g
  simp only at *
  go_enter Try.func14, Try.ntmps14
  go_upto_region 1 with fail
  have hS : Below w.heap.size w w.drew := Base.drew1 (Below.refl _ _)
  refine held_start (fun u => Below w.heap.size w u) (by kernel_rfl) ?_
  refine held_take (i := 0) (v := .pointer (some ⟨b, 0, none⟩)) rfl (by kernel_rfl) (by kernel_rfl) (by kernel_rfl) (fun _ _ _ h => h) (by kernel_rfl) hS (fun _ _ => by kernel_rfl) ?_
  refine held_take (i := 1) (v := .pointer (some ⟨b, 0, none⟩)) rfl (by kernel_rfl) (by kernel_rfl) (by kernel_rfl) (fun _ _ _ h => h) (by kernel_rfl) hS (fun _ _ => by kernel_rfl) ?_
  refine held_take (i := 2) (v := .pointer (some ⟨b, 0, none⟩)) rfl (by kernel_rfl) (by kernel_rfl) (by kernel_rfl) (fun _ _ _ h => h) (by kernel_rfl) hS (fun _ _ => by kernel_rfl) ?_
  refine held_take (i := 3) (v := .int .i64 r) rfl (by kernel_rfl) (by kernel_rfl) (by kernel_rfl) (fun _ _ _ h => h) (by kernel_rfl) hS (fun _ hu => lb_i64 (.tmp 5) rfl (by kernel_rfl) (keepCell hu c0)) ?_
  refine held_take (i := 4) (v := .pointer (some ⟨b, 0, none⟩)) rfl (by kernel_rfl) (by kernel_rfl) (by kernel_rfl) (fun _ _ _ h => h) (by kernel_rfl) hS (fun _ _ => by kernel_rfl) ?_
  refine held_take (i := 5) (v := .pointer (some ⟨b, 0, none⟩)) rfl (by kernel_rfl) (by kernel_rfl) (by kernel_rfl) (fun _ _ _ h => h) (by kernel_rfl) hS (fun _ _ => by kernel_rfl) ?_
  refine held_take (i := 6) (v := .pointer (some ⟨b, 1, none⟩)) rfl (by kernel_rfl) (by kernel_rfl) (by kernel_rfl) (fun _ _ _ h => h) (by kernel_rfl) hS (fun _ _ => by kernel_rfl) ?_
  refine held_take (i := 7) (v := .int .u64 m) rfl (by kernel_rfl) (by kernel_rfl) (by kernel_rfl) (fun _ _ _ h => h) (by kernel_rfl) hS (fun _ hu => lb_u64 (.tmp 9) rfl (by kernel_rfl) (keepCell hu c1)) ?_
  refine held_take (i := 8) (v := .pointer (some ⟨b, 0, none⟩)) rfl (by kernel_rfl) (by kernel_rfl) (by kernel_rfl) (fun _ _ _ h => h) (by kernel_rfl) hS (fun _ _ => by kernel_rfl) ?_
  refine held_take (i := 9) (v := .pointer (some ⟨b, 0, none⟩)) rfl (by kernel_rfl) (by kernel_rfl) (by kernel_rfl) (fun _ _ _ h => h) (by kernel_rfl) hS (fun _ _ => by kernel_rfl) ?_
  refine held_take (i := 10) (v := .pointer (some ⟨b, 2, none⟩)) rfl (by kernel_rfl) (by kernel_rfl) (by kernel_rfl) (fun _ _ _ h => h) (by kernel_rfl) hS (fun _ _ => by kernel_rfl) ?_
  refine held_take (i := 11) (v := .int .u64 t) rfl (by kernel_rfl) (by kernel_rfl) (by kernel_rfl) (fun _ _ _ h => h) (by kernel_rfl) hS (fun _ hu => lb_u64 (.tmp 13) rfl (by kernel_rfl) (keepCell hu c2)) ?_
  refine held_take (i := 12) (v := .pointer (some ⟨b, 0, none⟩)) rfl (by kernel_rfl) (by kernel_rfl) (by kernel_rfl) (fun _ _ _ h => h) (by kernel_rfl) hS (fun _ _ => by kernel_rfl) ?_
  refine held_take (i := 13) (v := .pointer (some ⟨b, 0, none⟩)) rfl (by kernel_rfl) (by kernel_rfl) (by kernel_rfl) (fun _ _ _ h => h) (by kernel_rfl) hS (fun _ _ => by kernel_rfl) ?_
  refine held_take (i := 14) (v := .pointer (some ⟨b, 3, none⟩)) rfl (by kernel_rfl) (by kernel_rfl) (by kernel_rfl) (fun _ _ _ h => h) (by kernel_rfl) hS (fun _ _ => by kernel_rfl) ?_
  refine held_take (i := 15) (v := .slice a l.length cap) rfl (by kernel_rfl) (by kernel_rfl) (by kernel_rfl) (fun _ _ _ h => h) (by kernel_rfl) hS (fun _ hu => lb_sl (.tmp 17) rfl (by kernel_rfl) (keepCell hu c3)) ?_
  refine held_wp (i := 16) rfl (by kernel_rfl) (by kernel_rfl) ?_
  refine wp_copyU (b := a) (m := l.length) (c := cap) (l := l) (.const (.slice none 0 0)) (.tmp 18) rfl (by kernel_rfl) (by kernel_rfl) rfl hz.drew (by omega) ?_
  intro v4 w4 O4 L4 N4
  replace L4 := Base.undrew L4
  obtain ⟨a4, cap4, rfl, q1, q2, _⟩ := O4.read
  refine ⟨L4, ?_⟩
  refine held_take (i := 17) (v := .agg #[.int .i64 r, .int .u64 m, .int .u64 t, .slice a4 l.length cap4]) rfl (by kernel_rfl) (by kernel_rfl) (by kernel_rfl) (fun _ _ _ h => h) (by kernel_rfl) L4 (fun _ _ => by kernel_rfl) ?_
  refine held_one (i := 18) (v := .pointer (some ⟨w4.heap.size, 0, none⟩)) (w' := w4.alloc (.cells #[.int .i64 r, .int .u64 m, .int .u64 t, .slice a4 l.length cap4] 32)) rfl (by kernel_rfl) (by kernel_rfl) (box_b (.tmp 20) rfl (by kernel_rfl)) (L4.alloc L4.size _) ?_
  refine held_one (i := 19) (v := .pointer (some ⟨w4.heap.size, 0, none⟩)) (w' := w4.alloc (.cells #[.int .i64 r, .int .u64 m, .int .u64 t, .slice a4 l.length cap4] 32)) rfl (by kernel_rfl) (by kernel_rfl) (by kernel_rfl) (L4.alloc L4.size _) ?_
  refine held_end 2 (.pointer (some ⟨w4.heap.size, 0, none⟩)) (by kernel_rfl) (by kernel_rfl) (by kernel_rfl) fun a' hd hv => ?_
  go_wp2
  refine bodyPost_ret (results_tmp rfl _ _ _) hd ?_
  rw [hv]
  exact ⟨_, rfl, ⟨HOK.out, by have := L4.size; simp; omega, _, Blk.new _ _ _, O4.alloc _, fun k hk => ⟨⟨N4 k hk, by have := O4.lt hk; simp; omega⟩, by have := O4.lt hk; omega⟩⟩, L4.alloc L4.size _⟩
end Go.Proofs.Ytienikpnpphklaa.Bud
