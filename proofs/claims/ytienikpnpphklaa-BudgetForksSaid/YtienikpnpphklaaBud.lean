/-
  Contracts of the program's budget: it keeps the times of those grants alone that still count.
-/
import Derived.Test.YtienikpnpphklaaBudRef
import Derived.Test.YtienikpnpphklaaBudVw
import Derived.Test.YtienikpnpphklaaClock
set_option linter.unusedSimpArgs false
set_option linter.unusedVariables false
namespace Go.Proofs.Ytienikpnpphklaa.Bud
set_option linter.unusedVariables false
set_option maxRecDepth 20000
open Go.ChangeShapes Go.WideShapes Go.ChangeAt Go.RowKit
open Go.Proofs.Ytienikpnpphklaa.Base Go.Proofs.Ytienikpnpphklaa.BudPlain

/-- The block of the program's budget: its five cells, the row of the times that it keeps. -/
structure Kb (S : Nat → Prop) (w : World) (b : Nat) (m e t : Int) (l : List Int) (n : Int) : Prop where
  inB : S b
  ex : ∃ v, Blk w b #[.int .i64 m, .int .u64 e, .int .u64 t, v, .int .i64 n] 43 ∧ Vw w v l ∧ ∀ k, v.ownBlock = some k → S k ∧ k ≠ b
theorem Kb.kept {S T : Nat → Prop} {w w' : World} {b : Nat} {m e t n : Int} {l : List Int} (h : Kb S w b m e t l n) (hf : Fr T w w') (hn : ∀ k, S k → ¬ T k) : Kb S w' b m e t l n := by
  obtain ⟨v, hB, hO, hv⟩ := h.ex
  exact ⟨h.inB, v, hB.kept hf (hn b h.inB), hO.kept hf fun k hk => hn k (hv k hk).1, hv⟩
theorem Kb.below {S : Nat → Prop} {w w' : World} {b : Nat} {m e t n : Int} {l : List Int} (h : Kb S w b m e t l n) (hb : Below w.heap.size w w') : Kb S w' b m e t l n := h.kept (T := fun _ => False) (Fr.of_below hb) fun _ _ h => h
theorem Kb.mono {S T : Nat → Prop} {w : World} {b : Nat} {m e t n : Int} {l : List Int} (h : Kb S w b m e t l n) (hn : ∀ k, S k → T k) : Kb T w b m e t l n := by
  obtain ⟨v, hB, hO, hv⟩ := h.ex
  exact ⟨hn b h.inB, v, hB, hO, fun k hk => ⟨hn k (hv k hk).1, (hv k hk).2⟩⟩
theorem Kb.lt {S : Nat → Prop} {w : World} {b : Nat} {m e t n : Int} {l : List Int} (h : Kb S w b m e t l n) : b < w.heap.size := by
  obtain ⟨v, hB, _⟩ := h.ex
  exact hB.lt
/-- What is kept of a budget's grants: the last of them, in order; what is gone counts no more. -/
structure Late (g : Bg) (l : List Int) : Prop where
  ex : ∃ old, g.l = old ++ l ∧ ∀ t ∈ old, g.every ≤ Sat.sub g.last t
  asc : l.Pairwise (· ≤ ·)
/-- The program's budget at a is g; all that it is made of lies in S. -/
structure Bud (S : Nat → Prop) (w : World) (a : Addr) (g : Bg) : Prop where
  ok : BOk g
  ex : ∃ b l, a = ⟨b, 0, none⟩ ∧ Kb S w b g.most g.every g.last l g.l.length ∧ Late g l
theorem Bud.kept {S T : Nat → Prop} {w w' : World} {a : Addr} {g : Bg} (h : Bud S w a g) (hf : Fr T w w') (hn : ∀ k, S k → ¬ T k) : Bud S w' a g := by
  obtain ⟨h1, b, l, h2, h3, h4⟩ := h
  exact ⟨h1, b, l, h2, h3.kept hf hn, h4⟩
theorem Bud.mono {S T : Nat → Prop} {w : World} {a : Addr} {g : Bg} (h : Bud S w a g) (hn : ∀ k, S k → T k) : Bud T w a g := by
  obtain ⟨h1, b, l, h2, h3, h4⟩ := h
  exact ⟨h1, b, l, h2, h3.mono hn, h4⟩
theorem Bud.below {S : Nat → Prop} {w w' : World} {a : Addr} {g : Bg} (h : Bud S w a g) (hb : Below w.heap.size w w') : Bud S w' a g := h.kept (T := fun _ => False) (Fr.of_below hb) fun _ _ h => h
theorem new_any (most every : Int) (m0 : -9223372036854775808 ≤ most) (m1 : most ≤ 9223372036854775807) (e0 : 0 ≤ every) (e1 : every ≤ 18446744073709551615) (w : World) :
    Calls Try.prog 7 #[.int .i64 most, .int .u64 every] w fun e w' => ∃ a, e = .returned (.pointer (some a)) ∧ Bud (fun k => w.heap.size ≤ k ∧ k < w'.heap.size) w' a (newB most every) ∧ Below w.heap.size w w' := by
  have hOk := Lib.hid (ok_newB most e0 e1)
  have hm : (newB most every).most = max 0 (min most 64) := rfl
  have key : ∀ m : Int, m = (newB most every).most → Bud (fun k => w.heap.size ≤ k ∧ k < (w.alloc (.cells #[.int .i64 m, .int .u64 every, .int .u64 0, .slice none 0 0, .int .i64 0] 43)).heap.size) (w.alloc (.cells #[.int .i64 m, .int .u64 every, .int .u64 0, .slice none 0 0, .int .i64 0] 43)) ⟨w.heap.size, 0, none⟩ (newB most every) := by
    intro m hm
    refine ⟨hOk.out, w.heap.size, [], rfl, ⟨⟨Nat.le_refl _, by simp⟩, .slice none 0 0, ?_, Vw.nil _, fun k hk => by simp [Value.ownBlock] at hk⟩, ⟨[], rfl, fun t ht => by cases ht⟩, List.Pairwise.nil⟩
    rw [← hm]
    exact Blk.new _ _ _
  have HK := Lib.hid key
  clear key
  go_enter Try.func7, Try.ntmps7
  go_wp2
  all_goals go_ret
  all_goals exact ⟨_, rfl, HK.out _ (by rw [hm]; omega), (Below.refl _ _).alloc (Nat.le_refl _) _⟩
def lenAt (w : World) (b : Nat) : Nat := match w.cell? ⟨b, 3, none⟩ with
  | some (.slice _ n _) => n
  | _ => 0
/-- What no longer counts is cut off. -/
theorem forget_in {S : Nat → Prop} {w : World} {b : Nat} {m e t n : Int} {l : List Int} (h : Kb S w b m e t l n) (hl : l.length ≤ 1000000) (e0 : 0 ≤ e) (t0 : 0 ≤ t) (t1 : t ≤ 18446744073709551615) (ha : ∀ x ∈ l, 0 ≤ x ∧ x ≤ 18446744073709551615) :
    Calls Try.prog 15 #[.pointer (some ⟨b, 0, none⟩)] w fun o w' => o = .returned (.tuple #[]) ∧ ∃ old y, l = old ++ y ∧ (∀ x ∈ old, e ≤ Sat.sub t x) ∧ (∀ x, y.head? = some x → Sat.sub t x < e) ∧ Kb S w' b m e t y n ∧ Fr S w w' := by
  go_enter Try.func15, Try.ntmps15
  go_wp2
  go_loopw [] (fun wr => ∃ old y, l = old ++ y ∧ (∀ x ∈ old, e ≤ Sat.sub t x) ∧ Kb S wr b m e t y n ∧ Fr S w wr) (fun wr => lenAt wr b)
  case atStart => exact ⟨[], l, rfl, fun x hx => (by cases hx), h, Fr.refl _ _⟩
  case round =>
    obtain ⟨old, y, rfl, ho, hK, hF⟩ := hrel
    have hbS := hK.inB
    obtain ⟨v, B, O, hv⟩ := hK.ex
    have HA := Lib.hid ha
    clear ha h
    have hbr := B.lt
    have c1 : wr.cell? ⟨b, 1, none⟩ = some (.int .u64 e) := B.cell 1
    have c2 : wr.cell? ⟨b, 2, none⟩ = some (.int .u64 t) := B.cell 2
    rcases y with _ | ⟨x, y⟩
    · obtain ⟨a, cap, rfl, h1, h2, hz⟩ := O.read
      have c3 : wr.cell? ⟨b, 3, none⟩ = some (.slice a 0 cap) := B.cell 3
      have d3 := fun p : In (Lt wr) => inCell p c3
      go_wp2
      go_quiet (fail)
      go_wp2
      all_goals go_end0
      exact ⟨rfl, old, [], rfl, ho, fun z hz => (by cases hz), hK.below (Base.drawn (Below.refl _ _) _), hF.trans (T := fun _ => False) (Fr.of_below (Base.drawn (Below.refl _ _) _)) fun _ _ h => h.elim⟩
    · rcases O with ⟨e1, e2⟩ | ⟨g, off, cap, cur, rfl, hO⟩
      · cases e2
      have O : Vw wr (.slice (some ⟨g, off, none⟩) (y.length + 1) cap) (x :: y) := .inr ⟨g, off, cap, cur, rfl, hO⟩
      obtain ⟨a', cap', ea, h1, h2, hz⟩ := O.read
      injection ea with ea1 ea2 ea3
      subst ea1 ea3
      obtain ⟨g', off', ea4, hgb, cx⟩ := hz.at_ (i := 0) (by simp)
      cases ea4
      simp only [List.getD_cons_zero, Nat.add_zero] at cx
      simp only [List.length_cons] at h1 hl
      unfold maxLen at h2
      obtain ⟨x0, x1⟩ := HA.out x (by simp)
      have CS := fun V : World => Clock.since_any t x t0 t1 x0 x1 V
      have c3 : wr.cell? ⟨b, 3, none⟩ = some (.slice (some ⟨g, off, none⟩) (y.length + 1) cap) := B.cell 3
      have hy : (0 : Int) < ((y.length : Int) + 1) := by omega
      have hgb' : g ≠ b := (hv g rfl).2
      have d1 := fun p : In (Lt wr) => inCell p c1
      have d2 := fun p : In (Lt wr) => inCell p c2
      have d3 := fun p : In (Lt wr) => inCell p c3
      have dx := fun p : In (Lt wr) => inCell p cx
      have OT := O.tail
      clear hz hO O ea2
      generalize hf : Sat.sub t x = f at *
      have HX := Lib.hid hf
      clear hf
      by_cases t2 : e ≤ f
      · have t3 : decide (e ≤ f) = true := by simpa using t2
        go_wp2
        refine wp_region_in (Lt wr) (Lt.drew wr) (by kernel_rfl) (by kernel_rfl) ?_
        repeat (go_big_quiet_step ((go_at_call 18; refine in_same (v := .int .u64 f) ?_; exact (CS _))))
        refine wpQuiet_nil ?_
        rintro w2 ⟨⟨_, hw2⟩, rfl⟩
        have hw2 : Below wr.heap.size wr w2 := hw2
        have B2 := B.below hw2 hbr
        have hb2 := B2.lt
        have f3 := B2.free 3
        have c3' : w2.cell? ⟨b, 3, none⟩ = some (.slice (some ⟨g, off, none⟩) (y.length + 1) cap) := B2.cell 3
        go_wp2
        all_goals go_roundw
        case rel =>
          refine ⟨old ++ [x], y, by simp, fun z hz => ?_, ⟨hbS, _, B2.set 3 _, (OT.kept (T := fun _ => False) (Fr.of_below hw2) fun _ _ h => h).kept (T := fun k => k = b) ((Fr.refl (fun k => k = b) w2).setCell (p := ⟨b, 3, none⟩) (fun _ => rfl) _) fun k hk e => ?_, fun k hk => ?_⟩, (hF.trans (T := fun _ => False) (Fr.of_below hw2) fun _ _ h => h.elim).setCell (fun _ => hbS) _⟩
          · rcases List.mem_append.1 hz with hz | hz
            · exact ho z hz
            · obtain rfl : z = x := by simpa using hz
              rw [HX.out]
              exact t2
          · have hg : g = k := by split at hk <;> exact Option.some.inj hk
            omega
          · have hg : g = k := by split at hk <;> exact Option.some.inj hk
            subst hg
            exact hv g rfl
        case measure =>
          unfold lenAt
          rw [c3, (B2.set 3 _).cell 3]
          exact Nat.lt_succ_self _
      · have t3 : decide (e ≤ f) = false := by simpa using t2
        go_wp2
        refine wp_region_in (Lt wr) (Lt.drew wr) (by kernel_rfl) (by kernel_rfl) ?_
        repeat (go_big_quiet_step ((go_at_call 18; refine in_same (v := .int .u64 f) ?_; exact (CS _))))
        refine wpQuiet_nil ?_
        rintro w2 ⟨⟨_, hw2⟩, rfl⟩
        have hw2 : Below wr.heap.size wr w2 := hw2
        go_wp2
        all_goals go_end0
        exact ⟨rfl, old, x :: y, rfl, ho, fun z hz => (by cases hz; rw [HX.out]; omega), hK.below hw2, hF.trans (T := fun _ => False) (Fr.of_below hw2) fun _ _ h => h.elim⟩
/-- What is near of a budget's grants: what is kept of them behind the cut. -/
theorem late_near {g : Bg} {l old y : List Int} {N : Int} (h : Late g l) (hN : g.last ≤ N) (hl : l = old ++ y) (ho : ∀ x ∈ old, g.every ≤ Sat.sub N x) (hy : ∀ x, y.head? = some x → Sat.sub N x < g.every) : near g.every N g.l = y.length := by
  obtain ⟨old0, e0, h0⟩ := h.ex
  have hz : ∀ q : List Int, (∀ x ∈ q, g.every ≤ Sat.sub N x) → near g.every N q = 0 := by
    intro q
    induction q with
    | nil => intro _; rfl
    | cons x r ih =>
      intro hq
      have := hq x (by simp)
      rw [near, if_neg (by omega), ih fun z hz => hq z (by simp [hz])]
      rfl
  have ho0 : ∀ x ∈ old0, g.every ≤ Sat.sub N x := fun x hx => by
    have := h0 x hx
    unfold Sat.sub at this ⊢
    split at this <;> split <;> omega
  have hasc := h.asc
  rw [hl] at hasc
  have hya := (List.pairwise_append.1 hasc).2.1
  have hn : ∀ q : List Int, (∀ x ∈ q, Sat.sub N x < g.every) → near g.every N q = q.length := by
    intro q
    induction q with
    | nil => intro _; rfl
    | cons x r ih =>
      intro hq
      have := hq x (by simp)
      rw [near, if_pos this, ih fun z hz => hq z (by simp [hz]), List.length_cons]
      omega
  have hall : ∀ x ∈ y, Sat.sub N x < g.every := by
    rcases y with _ | ⟨x, r⟩
    · intro x hx
      cases hx
    · intro z hz
      have h1 := hy x rfl
      rcases List.mem_cons.1 hz with rfl | hz
      · exact h1
      · have h2 := (List.pairwise_cons.1 hya).1 z hz
        unfold Sat.sub at h1 ⊢
        split at h1 <;> split <;> omega
  rw [e0, hl, near_append, near_append, hz _ ho0, hz _ ho, hn _ hall]
  omega
theorem late_ask {g : Bg} {l old y : List Int} {now : Int} (hok : BOk g) (h : Late g l) (hl : l = old ++ y) (ho : ∀ x ∈ old, g.every ≤ Sat.sub (nowB g now) x) : Late (askG g now) (if grants g now = true then y ++ [nowB g now] else y) := by
  obtain ⟨old0, e0, h0⟩ := h.ex
  have hN : g.last ≤ nowB g now := by unfold nowB; omega
  have hasc := h.asc
  rw [hl] at hasc
  have hya := (List.pairwise_append.1 hasc).2.1
  have hold : ∀ x ∈ old0 ++ old, (askG g now).every ≤ Sat.sub (askG g now).last x := fun x hx => by
    show g.every ≤ Sat.sub (nowB g now) x
    rcases List.mem_append.1 hx with hx | hx
    · have := h0 x hx
      unfold Sat.sub at this ⊢
      split at this <;> split <;> omega
    · exact ho x hx
  have hyN : ∀ x ∈ y, x ≤ nowB g now := fun x hx => by
    have := hok.all x (by rw [e0, hl]; simp [hx])
    omega
  have e1 : (askG g now).l = if grants g now = true then g.l ++ [nowB g now] else g.l := rfl
  split
  · rename_i hg
    refine ⟨⟨old0 ++ old, by rw [e1, if_pos hg, e0, hl]; simp, hold⟩, List.pairwise_append.2 ⟨hya, List.pairwise_singleton _ _, fun x hx z hz => ?_⟩⟩
    obtain rfl : z = nowB g now := by simpa using hz
    exact hyN x hx
  · rename_i hg
    exact ⟨⟨old0 ++ old, by rw [e1, if_neg hg, e0, hl]; simp, hold⟩, hya⟩
set_option maxHeartbeats 1000000 in
theorem granted_any {S : Nat → Prop} {w : World} {a : Addr} {g : Bg} (h : Bud S w a g) (hn : g.l.length ≤ 1000000) :
    Calls Try.prog 12 #[.pointer (some a)] w fun e w' => e = .returned (.int .i64 g.l.length) ∧ Below w.heap.size w w' := by
  obtain ⟨_, b, l, rfl, hK, _⟩ := h
  obtain ⟨v, B, _, _⟩ := hK.ex
  have c4 : w.cell? ⟨b, 4, none⟩ = some (.int .i64 g.l.length) := B.cell 4
  have hb := B.lt
  go_enter Try.func12, Try.ntmps12
  go_wp2
  go_ret
  exact ⟨rfl, Below.refl _ _⟩
theorem kb_asked {S : Nat → Prop} {w w3 w4 : World} {b : Nat} {m e t n n' : Int} {y : List Int} {v v4 : Value} (hb : S b) (hbw : b < w.heap.size) (hv : ∀ k, v.ownBlock = some k → S k ∧ k ≠ b) (F3 : Fr S w w3) (B4 : Blk w4 b #[.int .i64 m, .int .u64 e, .int .u64 t, v, .int .i64 n] 43) (A : AddedV w3 v y v4 w4) :
    Kb (Plus S w ((w4.setCell ⟨b, 3, none⟩ v4).setCell ⟨b, 4, none⟩ (.int .i64 n'))) ((w4.setCell ⟨b, 3, none⟩ v4).setCell ⟨b, 4, none⟩ (.int .i64 n')) b m e t y n' ∧ Fr S w ((w4.setCell ⟨b, 3, none⟩ v4).setCell ⟨b, 4, none⟩ (.int .i64 n')) := by
  have hsz := F3.size
  have hnb : ∀ k, v4.ownBlock = some k → k ≠ b ∧ (S k ∨ (w.heap.size ≤ k ∧ k < w4.heap.size)) := fun k hk => by
    rcases A.at_ k hk with h1 | h1
    · exact ⟨(hv k h1).2, .inl (hv k h1).1⟩
    · exact ⟨by omega, .inr ⟨by omega, h1.2⟩⟩
  have es : ((w4.setCell ⟨b, 3, none⟩ v4).setCell ⟨b, 4, none⟩ (.int .i64 n')).heap.size = w4.heap.size := by simp [World.setCell]
  have G : Fr (fun k => k = b) w4 ((w4.setCell ⟨b, 3, none⟩ v4).setCell ⟨b, 4, none⟩ (.int .i64 n')) := ((Fr.refl (fun k => k = b) w4).setCell (p := ⟨b, 3, none⟩) (fun _ => rfl) v4).setCell (p := ⟨b, 4, none⟩) (fun _ => rfl) _
  refine ⟨⟨.inl hb, v4, (B4.set 3 v4).set 4 _, A.own.kept G fun k hk e => (hnb k hk).1 e, fun k hk => ⟨?_, (hnb k hk).1⟩⟩, ?_⟩
  · unfold Plus
    rw [es]
    exact (hnb k hk).2
  · exact ((F3.trans A.fr fun i _ hi => (hv i hi).1).setCell (fun _ => hb) v4).setCell (fun _ => hb) _
set_option maxHeartbeats 2000000 in
theorem ask_any {S : Nat → Prop} {w : World} {a : Addr} {g : Bg} (h : Bud S w a g) (hn : g.l.length ≤ 1000000) (now : Int) (n0 : 0 ≤ now) (n1 : now ≤ 18446744073709551615) :
    Calls Try.prog 10 #[.pointer (some a), .int .u64 now] w fun e w' => e = .returned (.bool (grants g now)) ∧ Bud (Plus S w w') w' a (askG g now) ∧ Fr S w w' := by
  obtain ⟨ok, b, l, rfl, hK, hLt⟩ := h
  have hOk := Lib.hid (ok_ask ok n0 n1)
  have hbw := hK.lt
  have hbS := hK.inB
  have t0 := ok.t0
  have t1 := ok.t1
  have e0 := ok.e0
  have hNb : 0 ≤ nowB g now ∧ nowB g now ≤ 18446744073709551615 := by unfold nowB; omega
  have hNl : g.last ≤ nowB g now := by unfold nowB; omega
  have hN : (if g.last < now then now else g.last) = nowB g now := by unfold nowB; omega
  have hal : ∀ x ∈ l, 0 ≤ x ∧ x ≤ 18446744073709551615 := fun x hx => by
    obtain ⟨old0, q, _⟩ := hLt.ex
    have := ok.all x (by rw [q]; simp [hx])
    omega
  have hll : l.length ≤ 1000000 := by
    obtain ⟨old0, q, _⟩ := hLt.ex
    rw [q, List.length_append] at hn
    omega
  have HLA := Lib.hid fun (old y : List Int) (hl : l = old ++ y) (ho : ∀ x ∈ old, g.every ≤ Sat.sub (nowB g now) x) => late_ask (now := now) ok hLt hl ho
  have HLN := Lib.hid fun (old y : List Int) (hl : l = old ++ y) (ho : ∀ x ∈ old, g.every ≤ Sat.sub (nowB g now) x) (hy : ∀ x, y.head? = some x → Sat.sub (nowB g now) x < g.every) => late_near hLt hNl hl ho hy
  have hG : grants g now = decide (near g.every (nowB g now) g.l < g.most) := rfl
  have hA : askG g now = { g with last := nowB g now, l := if grants g now = true then g.l ++ [nowB g now] else g.l } := rfl
  have hM := ok.m0
  have hM1 := ok.m1
  clear hLt ok
  generalize nowB g now = N at *
  generalize grants g now = gr at *
  generalize askG g now = g' at *
  replace hA := Lib.hid hA
  replace hG := Lib.hid hG
  obtain ⟨v, B0, O0, hv⟩ := hK.ex
  have c2 : w.cell? ⟨b, 2, none⟩ = some (.int .u64 g.last) := B0.cell 2
  have f2 := B0.free 2
  go_enter Try.func10, Try.ntmps10
  go_upto_region 4 with fail
  refine at_any ?_
  intro W hW
  obtain ⟨K1, F1, z1⟩ : Kb S W b g.most g.every N l g.l.length ∧ Fr S w W ∧ W.heap.size = w.heap.size := by
    subst hW
    refine ⟨⟨hbS, v, B0.set 2 _, ?_, hv⟩, ?_, ?_⟩
    · exact O0.kept (T := fun k => k = b) ((Fr.refl (fun k => k = b) w).setCell (p := ⟨b, 2, none⟩) (fun _ => rfl) _) fun k hk e => (hv k hk).2 e
    · exact (Fr.refl S w).setCell (fun _ => hbS) _
    · simp [World.setCell]
  clear hW c2 f2 B0 O0 hv hN hK
  have CF := forget_in K1 hll e0 hNb.1 hNb.2 hal
  clear hal
  go_upto_region 5 with (go_at_call 15; refine CF.mono ?_; rintro e w1 ⟨rfl, old, y, hl, ho, hy, K2, F2⟩)
  have hLA := HLA.out old y hl ho
  have hLN := HLN.out old y hl ho hy
  have hyl : y.length ≤ 1000000 := by rw [hl, List.length_append] at hll; omega
  have hG' := hG.out
  rw [hLN] at hG'
  have F3 : Fr S w w1 := F1.trans F2 fun _ _ h => h
  clear HLA HLN hl ho hy CF K1 F1 F2 hll
  obtain ⟨v, B, O, hv⟩ := K2.ex
  obtain ⟨a, cap, rfl, h1, h2, _⟩ := O.read
  unfold maxLen at h2
  have hb1 := B.lt
  have c0 : w1.cell? ⟨b, 0, none⟩ = some (.int .i64 g.most) := B.cell 0
  have c3 : w1.cell? ⟨b, 3, none⟩ = some (.slice a y.length cap) := B.cell 3
  have HLA := Lib.hid hLA
  have HA := hA.out
  clear hLA hA hG
  by_cases t1 : (y.length : Int) < g.most
  · have hgr : gr = true := by rw [hG']; exact decide_eq_true t1
    have t2 : decide (g.most ≤ (y.length : Int)) = false := by simpa using t1
    subst hgr
    have e1 : g' = { g with last := N, l := g.l ++ [N] } := by rw [HA]; rfl
    replace e1 := Lib.hid e1
    clear HA hG'
    go_wp2
    go_quiet (fail)
    go_upto_region 7 with fail
    refine at_any ?_
    intro W hW
    obtain ⟨B4, O4, F4⟩ : Blk W b #[.int .i64 g.most, .int .u64 g.every, .int .u64 N, .slice a y.length cap, .int .i64 g.l.length] 43 ∧ Vw W (.slice a y.length cap) y ∧ Fr S w W := by
      subst hW
      exact ⟨B.below (Base.drawn (Below.refl _ _) _) hb1, O.kept (T := fun _ => False) (Fr.of_below (Base.drawn (Below.refl _ _) _)) fun _ _ h => h, F3.trans (T := fun _ => False) (Fr.of_below (Base.drawn (Below.refl _ _) _)) fun _ _ h => h.elim⟩
    clear hW c0 c3 hb1 K2 F3 B O t1 t2 h1 h2
    have hb1 := B4.lt
    have c2 : W.cell? ⟨b, 2, none⟩ = some (.int .u64 N) := B4.cell 2
    have c3 : W.cell? ⟨b, 3, none⟩ = some (.slice a y.length cap) := B4.cell 3
    have HV := Lib.hid hv
    have HF := Lib.hid F4
    clear hv F4
    go_region_law (refine step_addV (W := W.drew) (s := N) (by rfl) (by rfl) (.tmp 32) (.tmp 37) (by rfl) (by rfl) O4.drew (by rfl) (by simp) (by omega) ?_; intro v4 w4 A4; replace A4 := A4.undrew; obtain ⟨a4, cap4, rfl, _, _, _⟩ := A4.own.read; have B5 := B4.kept (w := W) (S := fun k => (Value.slice a y.length cap).ownBlock = some k) A4.fr (fun e => (HV.out _ e).2 rfl); have A4h := Lib.hid A4; have p2 : w4.cell? ⟨b, 3, none⟩ = some (.slice a y.length cap) := B5.cell 3; have p3 := B5.free 3; have p4 : w4.cell? ⟨b, 4, none⟩ = some (.int .i64 g.l.length) := B5.cell 4; have p5 := B5.free 4; have p6 := B5.lt)
    all_goals go_wp2
    all_goals go_ret
    all_goals
      obtain ⟨K6, F6⟩ := kb_asked (w := w) (n' := (g.l.length : Int) + 1) hbS hbw HV.out HF.out B5 A4h.out
      rw [show (y ++ [N]).length = y.length + 1 by simp] at K6 F6
      refine ⟨rfl, ⟨hOk.out, b, y ++ [N], rfl, ?_, by simpa using HLA.out⟩, F6⟩
      rw [e1.out]
      simp only [show ((g.l ++ [N]).length : Int) = (g.l.length : Int) + 1 by simp]
      exact K6
  · have hgr : gr = false := by rw [hG']; exact decide_eq_false t1
    have t2 : decide (g.most ≤ (y.length : Int)) = true := by simpa using t1
    subst hgr
    have e1 : g' = { g with last := N } := by rw [HA]; rfl
    replace e1 := Lib.hid e1
    clear HA hG'
    go_wp2
    go_quiet (fail)
    go_wp2
    all_goals go_ret
    refine ⟨rfl, ⟨hOk.out, b, y, rfl, ?_, HLA.out⟩, ?_⟩
    · rw [e1.out]
      exact (K2.below (Base.drawn (Below.refl _ _) _)).mono fun k hk => .inl hk
    · exact F3.trans (T := fun _ => False) (Fr.of_below (Base.drawn (Below.refl _ _) _)) fun _ _ h => h.elim
theorem clone_in {w : World} {v : Value} {l : List Int} (h : Vw w v l) (hm : l.length ≤ 1000000) :
    Calls Try.prog 17 #[v] w fun e w' => ∃ v', e = .returned v' ∧ Vw w' v' l ∧ (∀ k, v'.ownBlock = some k → w.heap.size ≤ k) ∧ Below w.heap.size w w' := by
  obtain ⟨i0, hi0, hz0, hz1, hz2⟩ := info_parts infoU
  rcases h with ⟨rfl, rfl⟩ | ⟨g, off, cap, cur, rfl, hO⟩
  · have qT : (binOp .eql 23 (.slice none 0 0) (.slice none 0 0)).run Try.prog w = .ok (.bool true) w := rfl
    go_enter Try.func17, Try.ntmps17
    go_wp2
    all_goals go_ret
    all_goals exact ⟨_, rfl, Vw.nil _, fun k hk => by simp [Value.ownBlock] at hk, Below.refl _ _⟩
  · have O : Vw w (.slice (some ⟨g, off, none⟩) l.length cap) l := .inr ⟨g, off, cap, cur, rfl, hO⟩
    obtain ⟨a', cap', ea, h1, h2, hz⟩ := O.read
    injection ea with ea1 ea2 ea3
    subst ea1 ea3
    clear O hO ea2
    unfold maxLen at h2
    have qT : ∀ W : World, (binOp .eql 23 (.slice (some ⟨g, off, none⟩) l.length cap) (.slice none 0 0)).run Try.prog W = .ok (.bool false) W := fun _ => rfl
    have HZ := Lib.hid (Row.alloc hz (.cells #[] 22))
    clear hz
    go_enter Try.func17, Try.ntmps17
    go_wp2_with (at_builtin; refine wpl_append_row _ rfl (.tmp 5) (.tmp 6) _ rfl w.heap.size 22 i0 _ 1 8 Try.underlying23 hi0 hz0 hz1 hz2 rfl (by omega) (.slice (some ⟨w.heap.size, 0, none⟩) 0 0) 0 [] rfl (World.ownsRow_made w #[] 0 (Nat.le_refl _) (Nat.zero_le _) rfl) (some ⟨g, off, none⟩) l.length cap (words l) rfl (by simp [words]) HZ.out (ints_oneCell _ _) (by unfold maxLen; omega) (by omega) (by simp) ?_; intro v1 w1 hown1 hg1 hat1; have hb1 : Below w.heap.size w w1 := ((Below.refl _ _).alloc (Nat.le_refl _) _).grown hg1 (by simp) (by simp [Value.ownBlock]))
    all_goals go_ret
    rw [Nat.zero_add, List.nil_append] at hown1
    refine ⟨v1, rfl, .of_own ⟨hown1.1, hown1.2.imp id fun ⟨g, cap, cur, h1, h2, h3⟩ => ⟨g, cap, cur, h1, Nat.zero_le _, h3⟩⟩, fun k hk => (hown1.lt k hk).1, hb1⟩
set_option maxHeartbeats 1000000 in
theorem fork_any {S : Nat → Prop} {w : World} {a : Addr} {g : Bg} (h : Bud S w a g) (hn : g.l.length ≤ 1000000) :
    Calls Try.prog 13 #[.pointer (some a)] w fun e w' => ∃ a', e = .returned (.pointer (some a')) ∧ Bud (fun k => w.heap.size ≤ k ∧ k < w'.heap.size) w' a' g ∧ Below w.heap.size w w' := by
  obtain ⟨ok, b, l, rfl, hK, hLt⟩ := h
  have hll : l.length ≤ 1000000 := by
    obtain ⟨old0, q, _⟩ := hLt.ex
    rw [q, List.length_append] at hn
    omega
  obtain ⟨v, B, O, hv⟩ := hK.ex
  have c0 : w.cell? ⟨b, 0, none⟩ = some (.int .i64 g.most) := B.cell 0
  have c1 : w.cell? ⟨b, 1, none⟩ = some (.int .u64 g.every) := B.cell 1
  have c2 : w.cell? ⟨b, 2, none⟩ = some (.int .u64 g.last) := B.cell 2
  have c3 : w.cell? ⟨b, 3, none⟩ = some v := B.cell 3
  have c4 : w.cell? ⟨b, 4, none⟩ = some (.int .i64 g.l.length) := B.cell 4
  have hb := B.lt
  obtain ⟨a, cap, rfl, h1, h2, _⟩ := O.read
  unfold maxLen at h2
  go_enter Try.func13, Try.ntmps13
  go_upto_region 4 with fail
  have hB := Blk.new w #[.int .i64 g.most, .int .u64 g.every, .int .u64 g.last, .slice a l.length cap, .int .i64 g.l.length] 43
  have hL : Below w.heap.size w (w.alloc (.cells #[.int .i64 g.most, .int .u64 g.every, .int .u64 g.last, .slice a l.length cap, .int .i64 g.l.length] 43)) := (Below.refl _ _).alloc (Nat.le_refl _) _
  have hO := O.alloc (.cells #[.int .i64 g.most, .int .u64 g.every, .int .u64 g.last, .slice a l.length cap, .int .i64 g.l.length] 43)
  refine at_any ?_
  intro W hW
  have hW' : W = w.alloc (.cells #[.int .i64 g.most, .int .u64 g.every, .int .u64 g.last, .slice a l.length cap, .int .i64 g.l.length] 43) := hW
  rw [← hW'] at hB hL hO
  have hB0 := B.below hL hb
  have d3 : W.cell? ⟨b, 3, none⟩ = some (.slice a l.length cap) := hB0.cell 3
  have hb1 := hB0.lt
  have hbW := hB.lt
  have CC := clone_in hO hll
  clear hW hW' c0 c1 c2 c3 c4 hB0
  go_upto_region 5 with (go_at_call 17; refine CC.mono ?_; rintro e w1 ⟨v1, rfl, O1, N1, L1⟩; have hB1 := hB.below L1 hB.lt; have z1 := hB1.free 3; have z2 := hB1.lt; have z3 : w1.cell? ⟨w.heap.size, 3, none⟩ = some (.slice a l.length cap) := hB1.cell 3; obtain ⟨a1, cap1, rfl, _, _, _⟩ := O1.read)
  have hB2 : Blk (w1.setCell ⟨w.heap.size, 3, none⟩ (.slice a1 l.length cap1)) w.heap.size #[.int .i64 g.most, .int .u64 g.every, .int .u64 g.last, .slice a1 l.length cap1, .int .i64 g.l.length] 43 := hB1.set 3 _
  have G2 : Fr (fun k => k = w.heap.size) w1 (w1.setCell ⟨w.heap.size, 3, none⟩ (.slice a1 l.length cap1)) := (Fr.refl (fun k => k = w.heap.size) _).setCell (fun _ => rfl) _
  have M2 : Below w.heap.size w (w1.setCell ⟨w.heap.size, 3, none⟩ (.slice a1 l.length cap1)) := ((Fr.of_below (S := fun k => k = w.heap.size) (Base.next hL L1)).trans G2 fun _ _ h => h).toBelow (Nat.le_refl _) fun k hk => by omega
  have O2 := O1.kept G2 (fun k hk e => by have := N1 k hk; omega)
  generalize w1.setCell ⟨w.heap.size, 3, none⟩ (.slice a1 l.length cap1) = w2 at *
  go_wp2
  go_ret
  exact ⟨_, rfl, ⟨ok, w.heap.size, l, rfl, ⟨⟨Nat.le_refl _, hB2.lt⟩, _, hB2, O2, fun k hk => ⟨⟨by have := N1 k hk; omega, O2.lt hk⟩, by have := N1 k hk; omega⟩⟩, hLt⟩, M2⟩
end Go.Proofs.Ytienikpnpphklaa.Bud
