/-
  Several texts in one: ProofFn, ProofCoins.
-/
import Derived.Test.YtkiloaebokkjbaaGreatM11
import Derived.Test.YtkiloaebokkjbaaGreatM22
import Derived.Test.YtkiloaebokkjbaaGreatM19
import Derived.Test.YtkiloaebokkjbaaGreatFold
/-
  Contracts of package proof's own functions: the kept row, what is skipped, nonces, coins.
-/
set_option linter.unusedSimpArgs false
set_option linter.unusedVariables false
namespace Go.Proofs.YtkiloaebokkjbaaGreat.Led
set_option linter.unusedVariables false
set_option maxRecDepth 20000
open Go.ChangeShapes Go.WideShapes Go.ChangeAt Go.RowKit
open Go.Proofs.YtkiloaebokkjbaaGreat.Base Go.Proofs.YtkiloaebokkjbaaGreat.LedPlain Go.Proofs.YtkiloaebokkjbaaGreat.SpanPlain

theorem kept_any {S : Nat → Prop} {w : World} {a : Addr} {g : Lg} (h : Led S w a g) :
    Calls Tryz.prog 134 #[.pointer (some a)] w fun e w' => ∃ p c, e = .returned (.slice p (keptL g).length c) ∧ Spans w' p (keptL g) ∧ Below w.heap.size w w' := by
  have CL := fun V (hV : Below w.heap.size w V) => low_any (h.below hV)
  have CN := fun V (hV : Below w.heap.size w V) => next_any (h.below hV)
  have hr := Below.refl w.heap.size w
  have hlow := low_le g
  have hn1 := h.ok.n1
  have hl1 := h.ok.l1
  by_cases e : lowN g = g.l.length
  · have hK : keptL g = [] := by unfold keptL; rw [if_pos e]
    have he : ((lowN g : Int) == (g.l.length : Int)) = true := by simp; omega
    rw [hK]
    go_enter Tryz.func134, Tryz.ntmps134
    go_wp2_with (first
      | (go_at_call 41; (with_reducible refine (CL _ hr).mono ?_); rintro e u1 ⟨rfl, L1⟩)
      | (go_at_call 42; (with_reducible refine (CN _ L1).mono ?_); rintro e u2 ⟨rfl, L2⟩; have M2 := Base.next L1 L2))
    go_ret
    exact ⟨none, 0, rfl, Spans.nil _ _, M2⟩
  · have hK : keptL g = [((lowN g : Int), (g.l.length : Int) - 1)] := by unfold keptL; rw [if_neg e]
    have he : ((lowN g : Int) == (g.l.length : Int)) = false := by simp; omega
    have hpos : (1 : Int) ≤ (g.l.length : Int) := by omega
    have hmax : (g.l.length : Int) ≤ 4611686018427387904 := by omega
    rw [hK]
    generalize (lowN g : Int) = low at *
    generalize (g.l.length : Int) = nx at *
    go_enter Tryz.func134, Tryz.ntmps134
    go_wp2_with (first
      | (go_at_call 41; (with_reducible refine (CL _ hr).mono ?_); rintro e u1 ⟨rfl, L1⟩; clear hr)
      | (go_at_call 42; (with_reducible refine (CN _ L1).mono ?_); rintro e u2 ⟨rfl, L2⟩; have M2 := Base.next L1 L2; clear L1)
      | (go_at_call 41; (with_reducible refine (CL _ M2).mono ?_); rintro e u3 ⟨rfl, L3⟩; have M3 := Base.next M2 L3)
      | (go_at_call 42; (with_reducible refine (CN _ M3).mono ?_); rintro e u4 ⟨rfl, L4⟩; have M4 := Base.next M3 L4))
    go_ret
    exact ⟨_, _, rfl, Spans.of (lit_row _ low (nx - 1) _) rfl, M4.alloc M4.size _⟩
/-- The first that is skipped, and whether there is one. -/
theorem skipped_any {l0 : List Sn} (z : Option Addr) (n0 c0 : Nat) (p : Option Addr) (n c : Nat) (cl : List Sp) (w : World) (hl0 : l0.length = n0) (hln : n0 ≤ 1000000) (hn : cl.length = n) (hn' : n ≤ 140737488355328) (hf : Fits cl) (hgd : good cl = true)
    (hw : ∀ k, k < l0.length → 0 ≤ (l0.getD k Z8).pn ∧ (l0.getD k Z8).pn ≤ 18446744073709551615) (hz : Sents w z l0) (hs : Spans w p cl) :
    Calls Tryz.prog 118 #[.slice z n0 c0, .slice p n c] w fun e w' => e = .returned (.tuple #[.int .u64 ((skipT cl l0).getD 0), .bool (skipT cl l0).isSome]) ∧ Below w.heap.size w w' := by
  have hR0 : skipT cl (l0.drop 0) = skipT cl l0 := rfl
  generalize hres : skipT cl l0 = res at *
  have HRES := Lib.hid hres
  clear hres
  go_enter Tryz.func118, Tryz.ntmps118
  go_wp2
  go_loopw [10, 7] (fun i _ wr => ∃ k : Nat, k ≤ n0 ∧ i = .int .i64 k ∧ skipT cl (l0.drop k) = res ∧ Below w.heap.size w wr) (fun i _ _ => n0 - (intOf i).toNat)
  case atStart => exact ⟨0, Nat.zero_le _, rfl, hR0, Below.refl _ _⟩
  case round =>
    obtain ⟨k, hk, rfl, hF, hL⟩ := hrel
    by_cases hlt : k < n0
    · rw [skipT_step (by omega)] at hF
      have hlI : (k : Int) < (n0 : Int) := by omega
      obtain ⟨b', off', rfl, hb', e0, e1, e2, e3, e4, e5, e6, e7⟩ := (hz.below hL).at_ (show k < l0.length by omega)
      have hp1 := hw k (by omega)
      generalize l0.getD k Z8 = s at *
      have sr : Spans wr p cl := Row.below hs hL
      have CH := fun V (hV : Below wr.heap.size wr V) => Span.has_any p n c cl s.pn V hn hn' hf hp1.1 hp1.2 (Row.below sr hV)
      rw [hgd] at CH
      obtain ⟨s0, s1, s2, s3, s4, s5, s6, s7⟩ := s
      simp only at e0 e1 e2 e3 e4 e5 e6 e7 CH hF hp1
      have hA := (Below.refl wr.heap.size wr).alloc (Nat.le_refl _) (.cells #[.int .u64 s0, .int .u64 s1, .int .u64 s2, .int .u64 s3, .int .u64 s4, .bool s5, .bool s6, .int .i64 s7] 76)
      have hS := Blk.new wr #[.int .u64 s0, .int .u64 s1, .int .u64 s2, .int .u64 s3, .int .u64 s4, .bool s5, .bool s6, .int .i64 s7] 76
      clear hw hz hs hl0 hn
      by_cases t1 : s7 = 4
      · subst t1
        cases hh : has cl s0 with
        | true =>
          rw [hh] at CH hF
          obtain rfl : some s0 = res := by rw [← hF]; simp
          clear hF hh
          go_wp2_with (go_at_call 94; refine (CH _ hA).mono ?_; rintro e u9 ⟨rfl, L9⟩; have B9 := hS.below L9 hS.lt; have q0 : u9.cell? ⟨wr.heap.size, 0, none⟩ = some (.int .u64 s0) := B9.cell 0; have q1 := B9.lt)
          go_ret2
          exact ⟨rfl, hL.trans ((Base.next hA L9).mono hL.size)⟩
        | false =>
          rw [hh] at CH
          rw [if_neg (by rw [hh]; simp)] at hF
          go_wp2_with (go_at_call 94; refine (CH _ hA).mono ?_; rintro e u9 ⟨rfl, L9⟩)
          all_goals go_roundw
          case rel => exact ⟨k + 1, by omega, by go_num, hF, hL.trans ((Base.next hA L9).mono hL.size)⟩
          case measure => simp [intOf]; omega
      · have ht1 : (s7 == 4) = false := by simpa using t1
        rw [if_neg (fun e => t1 e.1)] at hF
        go_wp2
        all_goals go_roundw
        case rel => exact ⟨k + 1, by omega, by go_num, hF, hL.trans (hA.mono hL.size)⟩
        case measure => simp [intOf]; omega
    · obtain rfl : k = n0 := by omega
      rw [List.drop_eq_nil_of_le (by omega)] at hF
      obtain rfl : none = res := hF
      go_wp2
      go_ret2
      exact ⟨rfl, hL⟩
theorem nonces_any {l0 : List Sn} (z : Option Addr) (n0 c0 : Nat) (w : World) (hl0 : l0.length = n0) (hln : n0 ≤ 1000000) (hz : Sents w z l0) :
    Calls Tryz.prog 136 #[.slice z n0 c0] w fun e w' => ∃ p c, e = .returned (.slice p n0 c) ∧ n0 ≤ c ∧ Ints .u64 w' p (nonces l0) ∧ Below w.heap.size w w' := by
  obtain ⟨i0, hi0, hz0, hz1, hz2⟩ := info_parts Fold.info64
  go_enter Tryz.func136, Tryz.ntmps136
  go_wp2
  go_loopw [3, 8, 5] (fun v i _ wr => ∃ k : Nat, k ≤ n0 ∧ i = .int .i64 k ∧ wr.ownsRow w.heap.size 23 1 v k ((nonces (l0.take k)).map (.int .u64)) ∧ Below w.heap.size w wr) (fun _ i _ _ => n0 - (intOf i).toNat)
  case atStart => exact ⟨0, Nat.zero_le _, rfl, World.ownsRow_nil _ _ _ _, Below.refl _ _⟩
  case round =>
    obtain ⟨k, hk, rfl, hown, hL⟩ := hrel
    by_cases hlt : k < n0
    · have hlI : (k : Int) < (n0 : Int) := by omega
      obtain ⟨b', off', rfl, hb', e0, e1, e2, e3, e4, e5, e6, e7⟩ := (hz.below hL).at_ (show k < l0.length by omega)
      have HT := Lib.hid (FoldPlain.take_step (show k < l0.length by omega) Z8)
      generalize l0.getD k Z8 = s at *
      obtain ⟨s0, s1, s2, s3, s4, s5, s6, s7⟩ := s
      simp only at e0 e1 e2 e3 e4 e5 e6 e7
      have hs := hL.size
      have hL1 := hL.alloc hs (.cells #[.int .u64 s0, .int .u64 s1, .int .u64 s2, .int .u64 s3, .int .u64 s4, .bool s5, .bool s6, .int .i64 s7] 76)
      have ho1 := hown.alloc (.cells #[.int .u64 s0, .int .u64 s1, .int .u64 s2, .int .u64 s3, .int .u64 s4, .bool s5, .bool s6, .int .i64 s7] 76)
      have hs1 := hL1.size
      go_wp2_with (at_builtin; refine wpl_append_row _ rfl (.tmp 12) (.tmp 15) _ rfl w.heap.size 23 i0 _ 1 8 Tryz.underlying153 hi0 hz0 hz1 hz2 rfl (by omega) _ _ _ rfl (ho1.alloc _) (some ⟨(wr.alloc (.cells #[.int .u64 s0, .int .u64 s1, .int .u64 s2, .int .u64 s3, .int .u64 s4, .bool s5, .bool s6, .int .i64 s7] 76)).heap.size, 0, none⟩) 1 1 [.int .u64 s3] (by simp; rfl) rfl (Row.lit _ _ [.int .u64 s3]) (by simp [Value.oneCell']) (by unfold maxLen; omega) (by omega) (by simp; omega) ?_; intro v1 w1 hown1 hg1 hat1; have L1 : Below w.heap.size w w1 := (hL1.alloc hs1 _).grown hg1 (by simp; omega) (fun j hj => (hown.lt j hj).1))
      all_goals go_roundw
      case rel => exact ⟨k + 1, by omega, by go_num, by rw [HT.out]; unfold nonces at *; rw [List.map_append, List.map_append]; exact hown1, L1⟩
      case measure => simp [intOf]; omega
    · obtain rfl : k = n0 := by omega
      rw [List.take_of_length_le (by omega)] at hown
      obtain ⟨aQ, cQ, rfl, q1, q2, q3, q4⟩ := rowIn_of_own Nat.one_pos hown
      go_wp2
      go_ret
      exact ⟨_, _, rfl, q1, q4.row, hL⟩
end Go.Proofs.YtkiloaebokkjbaaGreat.Led

/-
  Contract of package proof's coins: two loops, the inner one cuts what is past off the marked row.
-/
set_option linter.unusedSimpArgs false
set_option linter.unusedVariables false
namespace Go.Proofs.YtkiloaebokkjbaaGreat.Led
set_option linter.unusedVariables false
set_option maxRecDepth 20000
open Go.ChangeShapes Go.WideShapes Go.ChangeAt Go.RowKit
open Go.Proofs.YtkiloaebokkjbaaGreat.Base Go.Proofs.YtkiloaebokkjbaaGreat.LedPlain Go.Proofs.YtkiloaebokkjbaaGreat.SpanPlain

def slLen : Value → Nat
  | .slice _ n _ => n
  | _ => 0
theorem has_head {c : Sp} {t : List Sp} {x : Int} (hg : good (c :: t) = true) (h : ¬ c.2 < x) : has (c :: t) x = decide (c.1 ≤ x) := by
  obtain ⟨g1, g2, g3, g4⟩ := goodFrom_cons.1 hg
  rw [has_cons, has_lt g4 (by omega), Bool.or_false, decide_eq_true (show x ≤ c.2 by omega), Bool.and_true]
theorem has_past {c : Sp} {t : List Sp} {x : Int} (h : c.2 < x) : has t x = has (c :: t) x := by
  rw [has_cons, decide_eq_false (show ¬ x ≤ c.2 by omega), Bool.and_false, Bool.false_or]
theorem own_below {w w' : World} {base size n : Nat} {e : TypeId} {v : Value} {xs : List Value} (h : w.ownsRow base e size v n xs) (hb : Below w.heap.size w w') : w'.ownsRow base e size v n xs := by
  obtain ⟨h1, h2⟩ := h
  refine ⟨h1, ?_⟩
  rcases h2 with h2 | ⟨g, cap, cur, hv, hg, hh, r⟩
  · exact Or.inl h2
  · exact Or.inr ⟨g, cap, cur, hv, hg, (hb.block g (lt_of_block hh)).trans hh, r⟩
set_option maxHeartbeats 4000000 in
theorem coins_any {l0 : List Sn} (z : Option Addr) (n0 c0 : Nat) (q : Option Addr) (m d : Nat) (mk : List Sp) (B : Int) (w : World) (hl0 : l0.length = n0) (hln : n0 ≤ 1000000) (hm : mk.length = m) (hm' : m ≤ 140737488355328) (hmd : m ≤ d) (hgd : good mk = true)
    (hpn : ∀ k, k < l0.length → (l0.getD k Z8).pn = B + k) (hB : 0 ≤ B) (hB' : B ≤ 4611686018427387904) (hz : Sents w z l0) (ht : Spans w q mk) :
    Calls Tryz.prog 138 #[.slice z n0 c0, .slice q m d] w fun e w' => ∃ p c, e = .returned (.slice p n0 c) ∧ n0 ≤ c ∧ Bools w' p (coins mk l0) ∧ Below w.heap.size w w' := by
  obtain ⟨i0, hi0, hz0, hz1, hz2⟩ := info_parts Fold.infob
  subst hm
  go_enter Tryz.func138, Tryz.ntmps138
  go_wp2
  go_loopw [5, 1, 11, 7, 8] (fun v mkv i _ _ wr => ∃ (k : Nat) (y : List Sp) (r : Option Addr) (e : Nat), k ≤ n0 ∧ i = .int .i64 k ∧ mkv = .slice r y.length e ∧ y.length ≤ e ∧ y.length ≤ 140737488355328 ∧ good y = true ∧ Spans w r y ∧ (∀ x, B + k ≤ x → has y x = has mk x) ∧ wr.ownsRow w.heap.size 4 1 v k ((coins mk (l0.take k)).map .bool) ∧ Below w.heap.size w wr) (fun _ _ i _ _ _ => n0 - (intOf i).toNat)
  case atStart => exact ⟨0, mk, q, d, Nat.zero_le _, rfl, rfl, hmd, hm', hgd, ht, fun _ _ => rfl, World.ownsRow_nil _ _ _ _, Below.refl _ _⟩
  case round =>
    obtain ⟨k, y, r, e, hk, rfl, rfl, hye, hyl, hyg, hys, hyh, hown, hL⟩ := hrel
    by_cases hlt : k < n0
    · have hlI : (k : Int) < (n0 : Int) := by omega
      obtain ⟨b', off', rfl, hb', e0, e1, e2, e3, e4, e5, e6, e7⟩ := (hz.below hL).at_ (show k < l0.length by omega)
      have HT := Lib.hid (FoldPlain.take_step (show k < l0.length by omega) Z8)
      have hp := hpn k (by omega)
      generalize l0.getD k Z8 = s at *
      obtain ⟨s0, s1, s2, s3, s4, s5, s6, s7⟩ := s
      simp only at e0 e1 e2 e3 e4 e5 e6 e7 hp
      have HP := Lib.hid hp
      have hs0 : 0 ≤ s0 := by omega
      have hs0' : s0 ≤ 18446744073709551615 := by omega
      clear hp
      have hs := hL.size
      have hL1 := hL.alloc hs (.cells #[.int .u64 s0, .int .u64 s1, .int .u64 s2, .int .u64 s3, .int .u64 s4, .bool s5, .bool s6, .int .i64 s7] 76)
      have ho1 := hown.alloc (.cells #[.int .u64 s0, .int .u64 s1, .int .u64 s2, .int .u64 s3, .int .u64 s4, .bool s5, .bool s6, .int .i64 s7] 76)
      have hS := Blk.new wr #[.int .u64 s0, .int .u64 s1, .int .u64 s2, .int .u64 s3, .int .u64 s4, .bool s5, .bool s6, .int .i64 s7] 76
      have hvb0 : ∀ j, _ → w.heap.size ≤ j := fun j hj => (ho1.lt j hj).1
      have hbw := hL1.size
      go_wp2
      generalize hW : wr.alloc (.cells #[.int .u64 s0, .int .u64 s1, .int .u64 s2, .int .u64 s3, .int .u64 s4, .bool s5, .bool s6, .int .i64 s7] 76) = W at *
      have HW := Lib.hid hW
      clear hW e0 e1 e2 e3 e4 e5 e6 e7 hb' hpn
      generalize wr.heap.size = sb at *
      clear HW hown hL hs
      go_loopw [1] (fun mkv wq => ∃ (y : List Sp) (r : Option Addr) (e : Nat), mkv = .slice r y.length e ∧ y.length ≤ e ∧ y.length ≤ 140737488355328 ∧ good y = true ∧ Spans w r y ∧ (∀ x, B + k ≤ x → has y x = has mk x) ∧ Below W.heap.size W wq) (fun mkv _ => slLen mkv)
      case atStart => exact ⟨y, r, e, rfl, hye, hyl, hyg, hys, hyh, Below.refl _ _⟩
      case round =>
        clear hye hyl hyg hys hyh
        obtain ⟨y, r, e, rfl, hye, hyl, hyg, hys, hyh, hLq⟩ := hrel
        have hLw : Below w.heap.size w wr := hL1.trans (hLq.mono hbw)
        have hSq := hS.below hLq hS.lt
        have ownN := fun (V : World) (hV : Below W.heap.size W V) => own_below ho1 hV
        have hvb := hvb0
        have q0 : wr.cell? ⟨sb, 0, none⟩ = some (.int .u64 s0) := hSq.cell 0
        have q5 : wr.cell? ⟨sb, 5, none⟩ = some (.bool s5) := hSq.cell 5
        have hsb := hSq.lt
        have hsw := hLw.size
        rcases y with _ | ⟨c, t⟩
        · have hhas : has mk s0 = false := by rw [← hyh s0 (by have := HP.out; omega)]; rfl
          rcases s5 with _ | _
          · have hval : (false && !has mk s0) = false := by rw [hhas]; rfl
            have HV := Lib.hid hval
            clear hval
            go_wp2
            go_quiet (fail)
            go_wp2
            go_quiet (fail)
            go_wp2_with (at_builtin; refine wpl_append_row _ rfl (.tmp 41) (.tmp 48) _ rfl w.heap.size 4 i0 _ 1 1 Tryz.underlying211 hi0 hz0 hz1 hz2 rfl (by omega) _ _ _ rfl ((ownN _ (Base.drawn hLq _)).alloc _) (some ⟨wr.heap.size, 0, none⟩) 1 1 [.bool false] rfl rfl (Row.lit _ _ [.bool false]) (by simp [Value.oneCell']) (by unfold maxLen; omega) (by omega) (by simp; omega) ?_; intro v1 w1 hown1 hg1 hat1; have L1 : Below w.heap.size w w1 := ((Base.drawn hLw _).alloc hsw _).grown hg1 (by simp; omega) (fun j hj => hvb j hj))
            all_goals go_roundw
            case rel => exact ⟨k + 1, [], _, e, by omega, by go_num, rfl, hye, hyl, hyg, hys, fun x hx => hyh x (by omega), by rw [HT.out]; unfold coins at *; rw [List.map_append, List.map_append, List.map_cons, List.map_nil, HV.out]; exact hown1, L1⟩
            case measure => simp [intOf]; omega
          · have hval : (true && !has mk s0) = true := by rw [hhas]; rfl
            have HV := Lib.hid hval
            clear hval
            go_wp2
            go_quiet (fail)
            go_wp2
            go_quiet (fail)
            go_wp2_with (at_builtin; refine wpl_append_row _ rfl (.tmp 41) (.tmp 48) _ rfl w.heap.size 4 i0 _ 1 1 Tryz.underlying211 hi0 hz0 hz1 hz2 rfl (by omega) _ _ _ rfl ((ownN _ (Base.drawn hLq _)).alloc _) (some ⟨wr.heap.size, 0, none⟩) 1 1 [.bool true] rfl rfl (Row.lit _ _ [.bool true]) (by simp [Value.oneCell']) (by unfold maxLen; omega) (by omega) (by simp; omega) ?_; intro v1 w1 hown1 hg1 hat1; have L1 : Below w.heap.size w w1 := ((Base.drawn hLw _).alloc hsw _).grown hg1 (by simp; omega) (fun j hj => hvb j hj))
            all_goals go_roundw
            case rel => exact ⟨k + 1, [], _, e, by omega, by go_num, rfl, hye, hyl, hyg, hys, fun x hx => hyh x (by omega), by rw [HT.out]; unfold coins at *; rw [List.map_append, List.map_append, List.map_cons, List.map_nil, HV.out]; exact hown1, L1⟩
            case measure => simp [intOf]; omega
        · obtain ⟨bq, oq, rfl, hbq, f0, f1⟩ := (hys.below hLw).at_ (i := 0) (by simp)
          obtain ⟨g1, g2, g3, g4⟩ := goodFrom_cons.1 hyg
          simp only [List.getD_cons_zero, Nat.zero_mul, Nat.add_zero] at f0 f1
          obtain ⟨x1, x2⟩ := c
          simp only at f0 f1 g1 g2 g3 g4
          unfold M at g3
          have hpos : (0 : Int) < ((t.length : Int) + 1) := by omega
          by_cases tp : x2 < s0
          · have tb : decide (x2 < s0) = true := by simpa using tp
            go_wp2
            go_quiet (fail)
            go_wp2
            all_goals go_roundw
            case rel =>
              have hye' : t.length + 1 ≤ e := hye
              have hyl' : t.length + 1 ≤ 140737488355328 := hyl
              have hp := HP.out
              refine ⟨t, _, e - 1, rfl, by omega, by omega, goodFrom_mono g4 (by omega), ?_, (fun x hx => by rw [has_past (c := (x1, x2)) (show x2 < x by omega)]; exact hyh x hx), Base.drawn hLq _⟩
              by_cases he : e = 1
              · have ht : t = [] := List.eq_nil_of_length_eq_zero (by omega)
                rw [ht]
                exact Spans.nil _ _
              · rw [if_neg he]
                exact hys.drop 1
            case measure => exact Nat.lt_succ_self _
          · have tb : decide (x2 < s0) = false := by simpa using tp
            have hh := hyh s0 (by have := HP.out; omega)
            rw [has_head hyg tp] at hh
            by_cases ta : x1 ≤ s0
            · have tc : decide (x1 ≤ s0) = true := by simpa using ta
              have hhas : has mk s0 = true := by rw [← hh]; simpa using ta
              rcases s5 with _ | _
              · have hval : (false && !has mk s0) = false := by rw [hhas]; rfl
                have HV := Lib.hid hval
                clear hval
                go_wp2
                go_quiet (fail)
                go_wp2
                go_quiet (fail)
                go_wp2_with (at_builtin; refine wpl_append_row _ rfl (.tmp 41) (.tmp 48) _ rfl w.heap.size 4 i0 _ 1 1 Tryz.underlying211 hi0 hz0 hz1 hz2 rfl (by omega) _ _ _ rfl ((ownN _ (Base.drawn hLq _)).alloc _) (some ⟨wr.heap.size, 0, none⟩) 1 1 [.bool false] rfl rfl (Row.lit _ _ [.bool false]) (by simp [Value.oneCell']) (by unfold maxLen; omega) (by omega) (by simp; omega) ?_; intro v1 w1 hown1 hg1 hat1; have L1 : Below w.heap.size w w1 := ((Base.drawn hLw _).alloc hsw _).grown hg1 (by simp; omega) (fun j hj => hvb j hj))
                all_goals go_roundw
                case rel => exact ⟨k + 1, ((x1, x2) :: t), _, e, by omega, by go_num, rfl, hye, hyl, hyg, hys, fun x hx => hyh x (by omega), by rw [HT.out]; unfold coins at *; rw [List.map_append, List.map_append, List.map_cons, List.map_nil, HV.out]; exact hown1, L1⟩
                case measure => simp [intOf]; omega
              · have hval : (true && !has mk s0) = false := by rw [hhas]; rfl
                have HV := Lib.hid hval
                clear hval
                go_wp2
                go_quiet (fail)
                go_wp2
                go_quiet (fail)
                go_wp2_with (at_builtin; refine wpl_append_row _ rfl (.tmp 41) (.tmp 48) _ rfl w.heap.size 4 i0 _ 1 1 Tryz.underlying211 hi0 hz0 hz1 hz2 rfl (by omega) _ _ _ rfl ((ownN _ (Base.drawn hLq _)).alloc _) (some ⟨wr.heap.size, 0, none⟩) 1 1 [.bool false] rfl rfl (Row.lit _ _ [.bool false]) (by simp [Value.oneCell']) (by unfold maxLen; omega) (by omega) (by simp; omega) ?_; intro v1 w1 hown1 hg1 hat1; have L1 : Below w.heap.size w w1 := ((Base.drawn hLw _).alloc hsw _).grown hg1 (by simp; omega) (fun j hj => hvb j hj))
                all_goals go_roundw
                case rel => exact ⟨k + 1, ((x1, x2) :: t), _, e, by omega, by go_num, rfl, hye, hyl, hyg, hys, fun x hx => hyh x (by omega), by rw [HT.out]; unfold coins at *; rw [List.map_append, List.map_append, List.map_cons, List.map_nil, HV.out]; exact hown1, L1⟩
                case measure => simp [intOf]; omega
            · have tc : decide (x1 ≤ s0) = false := by simpa using ta
              have hhas : has mk s0 = false := by rw [← hh]; simpa using ta
              rcases s5 with _ | _
              · have hval : (false && !has mk s0) = false := by rw [hhas]; rfl
                have HV := Lib.hid hval
                clear hval
                go_wp2
                go_quiet (fail)
                go_wp2
                go_quiet (fail)
                go_wp2_with (at_builtin; refine wpl_append_row _ rfl (.tmp 41) (.tmp 48) _ rfl w.heap.size 4 i0 _ 1 1 Tryz.underlying211 hi0 hz0 hz1 hz2 rfl (by omega) _ _ _ rfl ((ownN _ (Base.drawn hLq _)).alloc _) (some ⟨wr.heap.size, 0, none⟩) 1 1 [.bool false] rfl rfl (Row.lit _ _ [.bool false]) (by simp [Value.oneCell']) (by unfold maxLen; omega) (by omega) (by simp; omega) ?_; intro v1 w1 hown1 hg1 hat1; have L1 : Below w.heap.size w w1 := ((Base.drawn hLw _).alloc hsw _).grown hg1 (by simp; omega) (fun j hj => hvb j hj))
                all_goals go_roundw
                case rel => exact ⟨k + 1, ((x1, x2) :: t), _, e, by omega, by go_num, rfl, hye, hyl, hyg, hys, fun x hx => hyh x (by omega), by rw [HT.out]; unfold coins at *; rw [List.map_append, List.map_append, List.map_cons, List.map_nil, HV.out]; exact hown1, L1⟩
                case measure => simp [intOf]; omega
              · have hval : (true && !has mk s0) = true := by rw [hhas]; rfl
                have HV := Lib.hid hval
                clear hval
                go_wp2
                go_quiet (fail)
                go_wp2
                go_quiet (fail)
                go_wp2_with (at_builtin; refine wpl_append_row _ rfl (.tmp 41) (.tmp 48) _ rfl w.heap.size 4 i0 _ 1 1 Tryz.underlying211 hi0 hz0 hz1 hz2 rfl (by omega) _ _ _ rfl ((ownN _ (Base.drawn hLq _)).alloc _) (some ⟨wr.heap.size, 0, none⟩) 1 1 [.bool true] rfl rfl (Row.lit _ _ [.bool true]) (by simp [Value.oneCell']) (by unfold maxLen; omega) (by omega) (by simp; omega) ?_; intro v1 w1 hown1 hg1 hat1; have L1 : Below w.heap.size w w1 := ((Base.drawn hLw _).alloc hsw _).grown hg1 (by simp; omega) (fun j hj => hvb j hj))
                all_goals go_roundw
                case rel => exact ⟨k + 1, ((x1, x2) :: t), _, e, by omega, by go_num, rfl, hye, hyl, hyg, hys, fun x hx => hyh x (by omega), by rw [HT.out]; unfold coins at *; rw [List.map_append, List.map_append, List.map_cons, List.map_nil, HV.out]; exact hown1, L1⟩
                case measure => simp [intOf]; omega
    · obtain rfl : k = n0 := by omega
      rw [List.take_of_length_le (by omega)] at hown
      obtain ⟨aQ, cQ, rfl, q1, q2, q3, q4⟩ := rowIn_of_own Nat.one_pos hown
      go_wp2
      go_ret
      exact ⟨_, _, rfl, q1, q4.row, hL⟩
end Go.Proofs.YtkiloaebokkjbaaGreat.Led
