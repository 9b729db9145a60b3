/-
  A ledger of the program's and the reference's beside it: Two's methods by contract.
-/
import Derived.Test.YtoncominjgkjoaaLed
import Derived.Test.YtoncominjgkjoaaTail
set_option linter.unusedSimpArgs false
set_option linter.unusedVariables false
namespace Go.Proofs.Ytoncominjgkjoaa.Led
set_option linter.unusedVariables false
set_option maxRecDepth 20000
open Go.ChangeShapes Go.WideShapes Go.ChangeAt Go.RowKit
open Go.Proofs.Ytoncominjgkjoaa.Base Go.Proofs.Ytoncominjgkjoaa.LedPlain

/-- The program's ledger at a and the reference's in block b are both g; what they are made of lies in S, apart from each other. -/
structure Pair (S : Nat → Prop) (w : World) (a : Addr) (b : Nat) (g : Lg) : Prop where
  two : ∃ S1 S2 : Nat → Prop, Led S1 w a g ∧ Rf S2 w b g ∧ (∀ k, S1 k → S k) ∧ (∀ k, S2 k → S k) ∧ ∀ k, S1 k → ¬ S2 k
  lt : ∀ k, S k → k < w.heap.size
theorem Pair.kept {S T : Nat → Prop} {w w' : World} {a : Addr} {b : Nat} {g : Lg} (h : Pair S w a b g) (hf : Fr T w w') (hn : ∀ k, S k → ¬ T k) : Pair S w' a b g := by
  obtain ⟨S1, S2, hP, hR, h1, h2, h3⟩ := h.two
  exact ⟨⟨S1, S2, hP.kept hf fun k hk => hn k (h1 k hk), hR.kept hf fun k hk => hn k (h2 k hk), h1, h2, h3⟩, fun k hk => Nat.lt_of_lt_of_le (h.lt k hk) hf.size⟩
theorem Pair.below {S : Nat → Prop} {w w' : World} {a : Addr} {b : Nat} {g : Lg} (h : Pair S w a b g) (hb : Below w.heap.size w w') : Pair S w' a b g := h.kept (T := fun _ => False) (Fr.of_below hb) fun _ _ h => h
theorem Pair.led {S : Nat → Prop} {w : World} {a : Addr} {b : Nat} {g : Lg} (h : Pair S w a b g) : Led S w a g := by
  obtain ⟨S1, S2, hP, hR, h1, h2, h3⟩ := h.two
  exact hP.mono h1
theorem Pair.rf {S : Nat → Prop} {w : World} {a : Addr} {b : Nat} {g : Lg} (h : Pair S w a b g) : Rf S w b g := by
  obtain ⟨S1, S2, hP, hR, h1, h2, h3⟩ := h.two
  exact hR.mono h2
theorem Pair.ok {S : Nat → Prop} {w : World} {a : Addr} {b : Nat} {g : Lg} (h : Pair S w a b g) : Ok g := h.rf.ok

section
variable {ρ : Operand → Value} {o : Oper} {u : World}
theorem ld_led (x : Operand) (ho : o.op = .load 24 x) {g i : Nat} {v : Option Addr} (hx : ρ x = .pointer (some ⟨g, i, none⟩)) (hc : u.cell? ⟨g, i, none⟩ = some (.pointer v)) : (execOp ρ o).run Try.prog u = .ok (.value (.pointer v)) u := by
  unfold execOp
  rw [ho]
  simp [hx, go_sem, hc]
theorem ld_ref (x : Operand) (ho : o.op = .load 25 x) {g i : Nat} {v : Option Addr} (hx : ρ x = .pointer (some ⟨g, i, none⟩)) (hc : u.cell? ⟨g, i, none⟩ = some (.pointer v)) : (execOp ρ o).run Try.prog u = .ok (.value (.pointer v)) u := by
  unfold execOp
  rw [ho]
  simp [hx, go_sem, hc]
theorem enter2 {P : Program} {F : FuncId} {X Y : Value} (x y : Operand) (ts : Array TypeId) (ho : o.op = .call { callee := .value (.func F), args := #[x, y], argTypes := ts })
    (hf : ρ (.func F) = .func (.func F) #[] #[]) (hx : ρ x = X) (hy : ρ y = Y) (hc : (callFunc F #[X, Y]).run P u = .ok (.enter F #[X, Y]) u) : (execOp ρ o).run P u = .ok (.enter F #[X, Y]) u := by
  unfold execOp
  rw [ho]
  simp [hf, hx, hy, go_sem]
  exact hc
end
set_option maxHeartbeats 2000000 in
theorem two_same {S : Nat → Prop} {w : World} {a : Addr} {b : Nat} {g : Lg} (h : Pair S w a b g) (hn : g.l.length ≤ 1000000) :
    Calls Try.prog 13 #[.agg #[.pointer (some a), .pointer (some ⟨b, 0, none⟩)]] w fun e w' => e = .returned (.bool true) ∧ Below w.heap.size w w' := by
  have hlow := low_le g
  have hls := least_le g
  have hfl := flight_bd h.ok
  have hrm := room_ge h.ok
  have hrm2 := room_le h.ok
  have hr1 := h.ok.r1
  have hnl : (g.l.length : Int) ≤ 4611686018427387904 := by have := h.ok.n1; have := h.ok.l1; omega
  go_enter Try.func13, Try.ntmps13
  go_upto_region 1 with fail
  have hB := Blk.new w #[.pointer (some a), .pointer (some ⟨b, 0, none⟩)] 27
  have hL : Below w.heap.size w (w.alloc (.cells #[.pointer (some a), .pointer (some ⟨b, 0, none⟩)] 27)) := (Below.refl _ _).alloc (Nat.le_refl _) _
  have hP := h.below hL
  generalize w.alloc (.cells #[.pointer (some a), .pointer (some ⟨b, 0, none⟩)] 27) = W at hB hL hP ⊢
  have c0 : W.cell? ⟨w.heap.size, 0, none⟩ = some (.pointer (some a)) := hB.cell 0
  have c1 : W.cell? ⟨w.heap.size, 1, none⟩ = some (.pointer (some ⟨b, 0, none⟩)) := hB.cell 1
  have e0 := fun p : In (Lt W) => inCell p c0
  have e1 := fun p : In (Lt W) => inCell p c1
  have P1 := fun p : In (Lt W) => low_any (hP.below p.h).led
  have P2 := fun p : In (Lt W) => next_any (hP.below p.h).led
  have P3 := fun p : In (Lt W) => least_any (hP.below p.h).led
  have P4 := fun p : In (Lt W) => room_any (hP.below p.h).led
  have P5 := fun p : In (Lt W) => flight_any (hP.below p.h).led
  have R1 := fun p : In (Lt W) => ref_low (hP.below p.h).rf
  have R2 := fun p : In (Lt W) => ref_next (hP.below p.h).rf
  have R3 := fun p : In (Lt W) => ref_least (hP.below p.h).rf
  have R4 := fun p : In (Lt W) => ref_room (hP.below p.h).rf
  have R5 := fun p : In (Lt W) => ref_flight (hP.below p.h).rf
  generalize (lowN g : Int) = low at P1 R1
  generalize hnx : (g.l.length : Int) = nx at P2 R2
  generalize (leastN g : Int) = ls at P3 R3
  generalize roomI g = rm at P4 R4
  generalize flight g = fl at P5 R5
  refine wp_region_tail (C := fun w' => ∃ p : In (Lt W), w' = p.w) 49 48 9 (by kernel_rfl) (by kernel_rfl) (by kernel_rfl) (by kernel_rfl) (by kernel_rfl) ⟨⟨W.drew, Lt.drew W⟩, rfl⟩ ?_
  simp only [List.take_succ_cons, List.take_zero]
  repeat (go_big_quiet_step (first
    | (go_at_call 27; refine in_below (v := .int .u64 low) ?_; exact P1 _)
    | (go_at_call 29; refine in_below (v := .int .u64 nx) ?_; exact P2 _)
    | (go_at_call 30; refine in_below (v := .int .u64 ls) ?_; exact P3 _)
    | (go_at_call 32; refine in_below (v := .int .i64 rm) ?_; exact P4 _)
    | (go_at_call 34; refine in_below (v := .int .u64 fl) ?_; exact P5 _)
    | (go_at_call 28; refine in_below (v := .int .u64 low) ?_; exact R1 _)
    | (go_at_call 9; refine in_same (v := .int .u64 nx) ?_; exact R2 _)
    | (go_at_call 31; refine in_below (v := .int .u64 ls) ?_; exact R3 _)
    | (go_at_call 33; refine in_below (v := .int .i64 rm) ?_; exact R4 _)
    | (go_at_call 35; refine in_below (v := .int .u64 fl) ?_; exact R5 _)))
  refine wpQuiet_nil ?_
  rintro w1 ⟨⟨_, hw1⟩, rfl⟩
  clear P1 P2 P3 P4 P5 R1 R2 R3 R4 R5 e0 e1
  have hw1 : Below W.heap.size W w1 := hw1
  have hlen : (allS g).length = g.l.length - lowN g := kept_len g
  refine wpAny_of_held (S := fun u => Below W.heap.size W u) _ _ _ _ ?_
  refine held_take (i := 49) (v := .pointer (some ⟨w.heap.size, 0, none⟩)) rfl (by kernel_rfl) (by kernel_rfl) (by kernel_rfl) (fun _ _ _ h => h) (by kernel_rfl) hw1 (fun _ hu => by kernel_rfl) ?_
  refine held_take (i := 50) (v := .pointer (some a)) rfl (by kernel_rfl) (by kernel_rfl) (by kernel_rfl) (fun _ _ _ h => h) (by kernel_rfl) hw1 (fun _ hu => ld_led (.tmp 52) rfl (by kernel_rfl) (keepCell hu c0)) ?_
  refine held_take (i := 52) (v := .pointer (some ⟨w.heap.size, 1, none⟩)) rfl (by kernel_rfl) (by kernel_rfl) (by kernel_rfl) (fun _ _ _ h => h) (by kernel_rfl) hw1 (fun _ hu => by kernel_rfl) ?_
  refine held_take (i := 53) (v := .pointer (some ⟨b, 0, none⟩)) rfl (by kernel_rfl) (by kernel_rfl) (by kernel_rfl) (fun _ _ _ h => h) (by kernel_rfl) hw1 (fun _ hu => ld_ref (.tmp 55) rfl (by kernel_rfl) (keepCell hu c1)) ?_
  refine held_call (i := 51) (f := 21) (args := #[.pointer (some a)]) rfl (by kernel_rfl) (by kernel_rfl) (enter1 (.tmp 53) _ rfl (by kernel_rfl) (by kernel_rfl) (by rfl)) ?_
  refine (all_any (hP.below hw1).led hn).mono ?_
  rintro e w2 ⟨p, cap, rfl, k1, k2, hp, L2⟩
  have M2 := Base.next hw1 L2
  refine ⟨_, rfl, M2, ?_⟩
  refine held_call (i := 54) (f := 16) (args := #[.pointer (some ⟨b, 0, none⟩)]) rfl (by kernel_rfl) (by kernel_rfl) (enter1 (.tmp 56) _ rfl (by kernel_rfl) (by kernel_rfl) (by rfl)) ?_
  refine (ref_all (hP.below M2).rf hn).mono ?_
  rintro e w3 ⟨v3, rfl, O3, L3⟩
  obtain ⟨p3, cap3, rfl, q1, q2, q3, _, _⟩ := O3.read
  have M3 := Base.next M2 L3
  have hp3 : Sents w3 p (allS g) := Row.below (RowIn.row hp) L3
  refine ⟨_, rfl, M3, ?_⟩
  refine held_call (i := 55) (f := 36) (args := #[.slice p (allS g).length cap, .slice p3 (allS g).length cap3]) rfl (by kernel_rfl) (by kernel_rfl) (enter2 (.tmp 54) (.tmp 57) _ rfl (by kernel_rfl) (by kernel_rfl) (by kernel_rfl) (by rfl)) ?_
  refine (ref_same p p3 _ cap cap3 (allS g) w3 rfl (by omega) hp3 q3).mono ?_
  rintro e w4 ⟨rfl, L4⟩
  have M4 := Base.next M3 L4
  refine ⟨_, rfl, M4, ?_⟩
  refine held_take (i := 56) (v := .bool true) rfl (by kernel_rfl) (by kernel_rfl) (by kernel_rfl) (fun _ _ _ h => h) (by kernel_rfl) M4 (fun _ hu => by kernel_rfl) ?_
  refine held_take (i := 57) (v := .bool true) rfl (by kernel_rfl) (by kernel_rfl) (by kernel_rfl) (fun _ _ _ h => h) (by kernel_rfl) M4 (fun _ hu => by kernel_rfl) ?_
  refine held_end 2 (.bool true) (by kernel_rfl) (by kernel_rfl) (by kernel_rfl) fun a' hd hv => ?_
  go_wp2
  refine bodyPost_ret (results_tmp rfl _ _ _) hd ?_
  rw [hv]
  exact ⟨rfl, Base.next hL M4⟩
end Go.Proofs.Ytoncominjgkjoaa.Led
