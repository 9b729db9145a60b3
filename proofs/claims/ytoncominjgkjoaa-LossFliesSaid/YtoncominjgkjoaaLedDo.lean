/-
  Two's Do by contract: a deed on both, whatever it is; both answer the same.
-/
import Derived.Test.YtoncominjgkjoaaLedTwo
set_option linter.unusedSimpArgs false
set_option linter.unusedVariables false
namespace Go.Proofs.Ytoncominjgkjoaa.Led
set_option linter.unusedVariables false
set_option maxRecDepth 20000
open Go.ChangeShapes Go.WideShapes Go.ChangeAt Go.RowKit
open Go.Proofs.Ytoncominjgkjoaa.Base Go.Proofs.Ytoncominjgkjoaa.LedPlain

/-- What is sent, of a deed's numbers. -/
def sOf (raw : Bool) (A B : Int) : Sn :=
  if raw then ⟨7, B, A, bits .xor .u64 A B, B, bits .and .u64 A 1 == 1, bits .and .u64 B 1 == 1, wrap64 (bits .and .u64 A 7)⟩
  else ⟨7, B % 1000, 1 + A % 40, bits .and .u64 (B / 1048576) 7, B % 5000, bits .and .u64 A 1 == 1, bits .and .u64 B 1 == 1, wrap64 (bits .and .u64 A 7)⟩
def pnOf (g : Lg) (raw : Bool) (A : Int) : Int := if raw then A else A % ((g.l.length : Int) + 2)
def stOf (raw : Bool) (B : Int) : Int := if raw then wrap64 B else 1 + B % 4
/-- The ledger behind a deed. -/
def doG (g : Lg) (raw : Bool) (k A B : Int) : Lg :=
  if k = 1 ∨ k = 2 ∨ k = 3 then sendG g (sOf raw A B) else if k = 4 then skipG g else if k = 5 ∨ k = 6 then settleG g (pnOf g raw A) (stOf raw B) else if k = 7 then useG g (pnOf g raw A) else g
theorem bits_lo (op : BinOp) (A B : Int) : 0 ≤ bits op .u64 A B := by
  unfold bits
  simp [IntKind.wrap, IntKind.bits, IntKind.signed]
  omega
theorem bits_hi (op : BinOp) (A B : Int) : bits op .u64 A B ≤ 18446744073709551615 := by
  unfold bits
  simp [IntKind.wrap, IntKind.bits, IntKind.signed]
  omega
theorem wrap64_lo (x : Int) : -9223372036854775808 ≤ wrap64 x := by
  simp [wrap64, IntKind.wrap, IntKind.bits, IntKind.signed]
  omega
theorem wrap64_hi (x : Int) : wrap64 x ≤ 9223372036854775807 := by
  simp [wrap64, IntKind.wrap, IntKind.bits, IntKind.signed]
  omega
theorem sOf_words (raw : Bool) {A B : Int} (a0 : 0 ≤ A) (a1 : A ≤ 18446744073709551615) (b0 : 0 ≤ B) (b1 : B ≤ 18446744073709551615) : Words (sOf raw A B) := by
  have h1 := bits_lo .xor A B
  have h2 := bits_hi .xor A B
  have h3 := bits_lo .and (B / 1048576) 7
  have h4 := bits_hi .and (B / 1048576) 7
  have h5 := wrap64_lo (bits .and .u64 A 7)
  have h6 := wrap64_hi (bits .and .u64 A 7)
  unfold sOf Words
  cases raw
  · simp only [Bool.false_eq_true, if_false]
    omega
  · simp only [if_true]
    omega
theorem pnOf_bd (g : Lg) (hn : g.l.length ≤ 1000000) (raw : Bool) {A : Int} (a0 : 0 ≤ A) (a1 : A ≤ 18446744073709551615) : 0 ≤ pnOf g raw A ∧ pnOf g raw A ≤ 18446744073709551615 := by
  unfold pnOf
  have h1 := Int.emod_nonneg A (show ((g.l.length : Int) + 2) ≠ 0 by omega)
  have h2 := Int.emod_lt_of_pos A (show (0 : Int) < (g.l.length : Int) + 2 by omega)
  cases raw
  · simp only [Bool.false_eq_true, if_false]
    omega
  · simp only [if_true]
    omega
theorem stOf_bd (raw : Bool) (B : Int) : -9223372036854775808 ≤ stOf raw B ∧ stOf raw B ≤ 9223372036854775807 := by
  unfold stOf
  have h5 := wrap64_lo B
  have h6 := wrap64_hi B
  cases raw
  · simp only [Bool.false_eq_true, if_false]
    omega
  · simp only [if_true]
    omega
theorem doG_len (g : Lg) (raw : Bool) (k A B : Int) : (doG g raw k A B).l.length ≤ g.l.length + 1 := by
  unfold doG
  split
  · exact send_len _ _
  · split
    · exact skip_len _
    · split
      · rw [settle_len]
        omega
      · split
        · rw [use_len]
          omega
        · omega
theorem blk_drewN {w : World} {b : Nat} {cs : Array Value} {T : TypeId} (h : Blk w b cs T) (n : Nat) : Blk (w.drewN n) b cs T := h
theorem enter3 {P : Program} {ρ : Operand → Value} {o : Oper} {u : World} {F : FuncId} {X Y Z : Value} (x y z : Operand) (ts : Array TypeId) (ho : o.op = .call { callee := .value (.func F), args := #[x, y, z], argTypes := ts })
    (hf : ρ (.func F) = .func (.func F) #[] #[]) (hx : ρ x = X) (hy : ρ y = Y) (hz : ρ z = Z) (hc : (callFunc F #[X, Y, Z]).run P u = .ok (.enter F #[X, Y, Z]) u) : (execOp ρ o).run P u = .ok (.enter F #[X, Y, Z]) u := by
  unfold execOp
  rw [ho]
  simp [hf, hx, hy, hz, go_sem]
  exact hc
theorem eq_bool {ρ : Operand → Value} {o : Oper} {u : World} {c : Bool} (x y : Operand) (ho : o.op = .binOp .eql 4 x y 4) (hx : ρ x = .bool c) (hy : ρ y = .bool c) : (execOp ρ o).run Try.prog u = .ok (.value (.bool true)) u := by
  unfold execOp
  rw [ho]
  simp [hx, hy, go_sem]
theorem at_world {P : Program} {c : Code} {Q : Exit → Act → World → Prop} {a : Act} {w : World} (h : ∀ W, W = w → c.wp P Q a W) : c.wp P Q a w := h w rfl
theorem Rf.drewN {S : Nat → Prop} {w : World} {b : Nat} {g : Lg} (h : Rf S w b g) (n : Nat) : Rf S (w.drewN n) b g := ⟨h.ok, h.inB, h.ex⟩
theorem pair_plus {S : Nat → Prop} {w w' : World} {a : Addr} {b : Nat} {g : Lg} (h : Pair S w' a b g) : Pair (Plus S w w') w' a b g := by
  obtain ⟨S1, S2, hP, hR, h1, h2, h3⟩ := h.two
  refine ⟨⟨S1, S2, hP, hR, fun k hk => .inl (h1 k hk), fun k hk => .inl (h2 k hk), h3⟩, fun k hk => ?_⟩
  rcases hk with hk | hk
  · exact h.lt k hk
  · exact hk.2
theorem pair_join {S S1 S2 : Nat → Prop} {w W w1 w2 : World} {a : Addr} {b : Nat} {g : Lg} (hlt : ∀ k, S k → k < w.heap.size) (hw : w.heap.size ≤ W.heap.size) (s1 : ∀ k, S1 k → S k) (s2 : ∀ k, S2 k → S k) (dis : ∀ k, S1 k → ¬ S2 k)
    (F1 : Fr S1 W w1) (F2 : Fr S2 w1 w2) (P1 : Led (Plus S1 W w1) w1 a g) (R2 : Rf (Plus S2 w1 w2) w2 b g) (hB : Below w.heap.size w W) : Pair (Plus S w w2) w2 a b g ∧ Fr S w w2 := by
  have z1 := F1.size
  have z2 := F2.size
  refine ⟨⟨⟨Plus S1 W w1, Plus S2 w1 w2, P1.kept F2 fun k hk h2 => ?_, R2, fun k hk => ?_, fun k hk => ?_, fun k hk h2 => ?_⟩, fun k hk => ?_⟩, ?_⟩
  · rcases hk with hk | hk
    · exact dis k hk h2
    · have := hlt k (s2 k h2)
      omega
  · rcases hk with hk | hk
    · exact .inl (s1 k hk)
    · exact .inr ⟨by omega, by omega⟩
  · rcases hk with hk | hk
    · exact .inl (s2 k hk)
    · exact .inr ⟨by omega, by omega⟩
  · rcases hk with hk | hk
    · rcases h2 with h2 | h2
      · exact dis k hk h2
      · have := hlt k (s1 k hk)
        omega
    · rcases h2 with h2 | h2
      · have := hlt k (s2 k h2)
        omega
      · omega
  · rcases hk with hk | hk
    · have := hlt k hk
      omega
    · exact hk.2
  · exact ((Fr.of_below hB).trans F1 fun i _ hi => s1 i hi).trans F2 fun i _ hi => s2 i hi
/-- Three blocks laid one behind the other. -/
theorem laid3 (w : World) (T D X : Array Value) (t d x : TypeId) : Blk (((w.alloc (.cells T t)).alloc (.cells D d)).alloc (.cells X x)) w.heap.size T t ∧ Blk (((w.alloc (.cells T t)).alloc (.cells D d)).alloc (.cells X x)) (w.heap.size + 1) D d ∧
    Blk (((w.alloc (.cells T t)).alloc (.cells D d)).alloc (.cells X x)) (w.heap.size + 1 + 1) X x ∧ Below w.heap.size w (((w.alloc (.cells T t)).alloc (.cells D d)).alloc (.cells X x)) := by
  have h1 := Blk.new w T t
  have h2 := Blk.new (w.alloc (.cells T t)) D d
  have h3 := Blk.new ((w.alloc (.cells T t)).alloc (.cells D d)) X x
  rw [World.size_alloc] at h2
  rw [World.size_alloc, World.size_alloc] at h3
  exact ⟨(h1.alloc _).alloc _, h2.alloc _, h3, (((Below.refl _ _).alloc (Nat.le_refl _) _).alloc (by simp) _).alloc (by simp; omega) _⟩
set_option maxHeartbeats 1000000 in
theorem two_do_raw_1 {S : Nat → Prop} {w : World} {a : Addr} {b : Nat} {g : Lg} (h : Pair S w a b g) (hn : g.l.length ≤ 1000000) (A B : Int) (a0 : 0 ≤ A) (a1 : A ≤ 18446744073709551615) (b0 : 0 ≤ B) (b1 : B ≤ 18446744073709551615) :
    Calls Try.prog 19 #[.agg #[.pointer (some a), .pointer (some ⟨b, 0, none⟩)], .agg #[.int .i64 1, .int .u64 A, .int .u64 B], .bool true] w fun e w' => e = .returned (.bool true) ∧ Pair (Plus S w w') w' a b (sendG g (sOf true A B)) ∧ Fr S w w' := by
  have hs := sOf_words true a0 a1 b0 b1
  obtain ⟨p0, p1⟩ := pnOf_bd g hn true a0 a1
  obtain ⟨q0, q1⟩ := stOf_bd true B
  generalize hsS : sOf true A B = s at *
  generalize hpS : pnOf g true A = pn at *
  generalize hqS : stOf true B = st at *
  go_enter Try.func19, Try.ntmps19
  go_upto_region 2 with fail
  go_quiet (fail)
  go_upto_region 10 with fail
  refine at_world ?_
  intro W hW
  obtain ⟨T0, D0, X0, hL⟩ : Blk W w.heap.size #[.pointer (some a), .pointer (some ⟨b, 0, none⟩)] 27 ∧ Blk W (w.heap.size + 1) #[.int .i64 1, .int .u64 A, .int .u64 B] 52 ∧ Blk W (w.heap.size + 1 + 1) #[.int .u64 s.pn, .int .u64 s.off, .int .u64 s.len, .int .u64 s.nonce, .int .u64 s.time, .bool s.coin, .bool s.used, .int .i64 s.state] 42 ∧ Below w.heap.size w W := by
    subst hW
    subst hsS
    have := laid3 w #[.pointer (some a), .pointer (some ⟨b, 0, none⟩)] #[.int .i64 1, .int .u64 A, .int .u64 B] #[.int .u64 ((sOf true A B)).pn, .int .u64 ((sOf true A B)).off, .int .u64 ((sOf true A B)).len, .int .u64 ((sOf true A B)).nonce, .int .u64 ((sOf true A B)).time, .bool ((sOf true A B)).coin, .bool ((sOf true A B)).used, .int .i64 ((sOf true A B)).state] 27 52 42
    exact ⟨this.1, this.2.1, this.2.2.1, Base.drawn this.2.2.2 _⟩
  clear hW hsS
  obtain rfl : A = pn := hpS
  obtain rfl : wrap64 B = st := hqS
  have hlt := h.lt
  have hP := h.below hL
  obtain ⟨S1, S2, P0, R0, i1, i2, dis⟩ := hP.two
  have dis' : ∀ k, S2 k → ¬ S1 k := fun k h2 h1 => dis k h1 h2
  have nT1 : ¬ S1 w.heap.size := fun e => by have := hlt _ (i1 _ e); omega
  have nT2 : ¬ S2 w.heap.size := fun e => by have := hlt _ (i2 _ e); omega
  have nX1 : ¬ S1 (w.heap.size + 1 + 1) := fun e => by have := hlt _ (i1 _ e); omega
  have d00 : W.cell? ⟨w.heap.size + 1, 0, none⟩ = some (.int .i64 1) := D0.cell 0
  have t00 : W.cell? ⟨w.heap.size, 0, none⟩ = some (.pointer (some a)) := T0.cell 0
  have t10 : W.cell? ⟨w.heap.size, 1, none⟩ = some (.pointer (some ⟨b, 0, none⟩)) := T0.cell 1
  have x00 : W.cell? ⟨w.heap.size + 1 + 1, 0, none⟩ = some (.int .u64 s.pn) := X0.cell 0
  have x10 : W.cell? ⟨w.heap.size + 1 + 1, 1, none⟩ = some (.int .u64 s.off) := X0.cell 1
  have x20 : W.cell? ⟨w.heap.size + 1 + 1, 2, none⟩ = some (.int .u64 s.len) := X0.cell 2
  have x30 : W.cell? ⟨w.heap.size + 1 + 1, 3, none⟩ = some (.int .u64 s.nonce) := X0.cell 3
  have x40 : W.cell? ⟨w.heap.size + 1 + 1, 4, none⟩ = some (.int .u64 s.time) := X0.cell 4
  have x50 : W.cell? ⟨w.heap.size + 1 + 1, 5, none⟩ = some (.bool s.coin) := X0.cell 5
  have x60 : W.cell? ⟨w.heap.size + 1 + 1, 6, none⟩ = some (.bool s.used) := X0.cell 6
  have x70 : W.cell? ⟨w.heap.size + 1 + 1, 7, none⟩ = some (.int .i64 s.state) := X0.cell 7
  go_wp2_with (first | (go_at_call 20; refine (send_any P0 s hs hn).mono ?_; rintro e w1 ⟨rfl, P1, F1⟩; have T1 := T0.kept F1 nT1; have X1 := X0.kept F1 nX1; have t01 : w1.cell? ⟨w.heap.size, 0, none⟩ = some (.pointer (some a)) := T1.cell 0; have t11 : w1.cell? ⟨w.heap.size, 1, none⟩ = some (.pointer (some ⟨b, 0, none⟩)) := T1.cell 1; have x01 : w1.cell? ⟨w.heap.size + 1 + 1, 0, none⟩ = some (.int .u64 s.pn) := X1.cell 0; have x11 : w1.cell? ⟨w.heap.size + 1 + 1, 1, none⟩ = some (.int .u64 s.off) := X1.cell 1; have x21 : w1.cell? ⟨w.heap.size + 1 + 1, 2, none⟩ = some (.int .u64 s.len) := X1.cell 2; have x31 : w1.cell? ⟨w.heap.size + 1 + 1, 3, none⟩ = some (.int .u64 s.nonce) := X1.cell 3; have x41 : w1.cell? ⟨w.heap.size + 1 + 1, 4, none⟩ = some (.int .u64 s.time) := X1.cell 4; have x51 : w1.cell? ⟨w.heap.size + 1 + 1, 5, none⟩ = some (.bool s.coin) := X1.cell 5; have x61 : w1.cell? ⟨w.heap.size + 1 + 1, 6, none⟩ = some (.bool s.used) := X1.cell 6; have x71 : w1.cell? ⟨w.heap.size + 1 + 1, 7, none⟩ = some (.int .i64 s.state) := X1.cell 7; have R1 := R0.kept F1 dis') | (go_at_call 38; refine (ref_send R1 s hs hn).mono ?_; rintro e w2 ⟨rfl, R2, F2⟩; clear T1 X1 t01 t11 x01 x11 x21 x31 x41 x51 x61 x71))
  all_goals go_ret
  all_goals exact ⟨by simp, pair_join hlt hL.size i1 i2 dis F1 F2 P1 R2 hL⟩
set_option maxHeartbeats 1000000 in
theorem two_do_fit_1 {S : Nat → Prop} {w : World} {a : Addr} {b : Nat} {g : Lg} (h : Pair S w a b g) (hn : g.l.length ≤ 1000000) (A B : Int) (a0 : 0 ≤ A) (a1 : A ≤ 18446744073709551615) (b0 : 0 ≤ B) (b1 : B ≤ 18446744073709551615) :
    Calls Try.prog 19 #[.agg #[.pointer (some a), .pointer (some ⟨b, 0, none⟩)], .agg #[.int .i64 1, .int .u64 A, .int .u64 B], .bool false] w fun e w' => e = .returned (.bool true) ∧ Pair (Plus S w w') w' a b (sendG g (sOf false A B)) ∧ Fr S w w' := by
  have hs := sOf_words false a0 a1 b0 b1
  obtain ⟨p0, p1⟩ := pnOf_bd g hn false a0 a1
  obtain ⟨q0, q1⟩ := stOf_bd false B
  generalize hsS : sOf false A B = s at *
  generalize hpS : pnOf g false A = pn at *
  generalize hqS : stOf false B = st at *
  go_enter Try.func19, Try.ntmps19
  go_upto_region 2 with fail
  go_quiet (fail)
  go_upto_region 8 with fail
  refine at_world ?_
  intro V hV
  obtain ⟨T0, D0, X0, hL⟩ : Blk V w.heap.size #[.pointer (some a), .pointer (some ⟨b, 0, none⟩)] 27 ∧ Blk V (w.heap.size + 1) #[.int .i64 1, .int .u64 A, .int .u64 B] 52 ∧ Blk V (w.heap.size + 1 + 1) #[.int .u64 s.pn, .int .u64 s.off, .int .u64 s.len, .int .u64 s.nonce, .int .u64 s.time, .bool s.coin, .bool s.used, .int .i64 s.state] 42 ∧ Below w.heap.size w V := by
    subst hV
    subst hsS
    have := laid3 w #[.pointer (some a), .pointer (some ⟨b, 0, none⟩)] #[.int .i64 1, .int .u64 A, .int .u64 B] #[.int .u64 ((sOf true A B)).pn, .int .u64 ((sOf true A B)).off, .int .u64 ((sOf true A B)).len, .int .u64 ((sOf true A B)).nonce, .int .u64 ((sOf true A B)).time, .bool ((sOf true A B)).coin, .bool ((sOf true A B)).used, .int .i64 ((sOf true A B)).state] 27 52 42
    refine ⟨?_, ?_, ?_, ?_⟩
    · exact ((((blk_drewN this.1 _).other (by simp; omega) _).other (by simp; omega) _).other (by simp; omega) _).other (by simp; omega) _
    · exact ((((blk_drewN this.2.1 _).other (by simp) _).other (by simp) _).other (by simp) _).other (by simp) _
    · exact ((((blk_drewN this.2.2.1 _).set 2 _).set 1 _).set 3 _).set 4 _
    · exact ((((Base.drawn this.2.2.2 _).setCell (by simp; omega) _).setCell (by simp; omega) _).setCell (by simp; omega) _).setCell (by simp; omega) _
  clear hV hsS
  have hR8 := (h.below hL).rf
  have v00 : V.cell? ⟨w.heap.size, 1, none⟩ = some (.pointer (some ⟨b, 0, none⟩)) := T0.cell 1
  have v01 : V.cell? ⟨w.heap.size + 1, 1, none⟩ = some (.int .u64 A) := D0.cell 1
  have v02 : V.cell? ⟨w.heap.size + 1, 2, none⟩ = some (.int .u64 B) := D0.cell 2
  have CN := fun p : In (Lt V) => ref_next (hR8.below p.h)
  have z0 := fun p : In (Lt V) => inCell p v00
  have z1 := fun p : In (Lt V) => inCell p v01
  generalize hnx : (g.l.length : Int) = nx at CN
  have hn1 : 0 ≤ nx ∧ nx ≤ 1000000 := by omega
  have hpn : A.tmod (nx + 2) = pn := by rw [Int.tmod_eq_emod_of_nonneg a0, ← hpS, ← hnx]; rfl
  refine wp_region_in (Lt V) (Lt.drew V) (by kernel_rfl) (by kernel_rfl) ?_
  repeat (go_big_quiet_step ((go_at_call 9; refine in_same (v := .int .u64 nx) ?_; exact CN _)))
  refine wpQuiet_nil ?_
  rintro W ⟨⟨_, hW⟩, rfl⟩
  have hW : Below V.heap.size V W := hW
  have w02 := keepCell hW v02
  go_upto_region 10 with fail
  rw [show 1 + B % 4 = st from hqS]
  replace T0 := T0.below hW T0.lt
  replace D0 := D0.below hW D0.lt
  replace X0 := X0.below hW X0.lt
  replace hL := Base.next hL hW
  clear hR8 v00 v01 v02 z0 z1 CN hpn hnx w02 hpS hqS
  have hlt := h.lt
  have hP := h.below hL
  obtain ⟨S1, S2, P0, R0, i1, i2, dis⟩ := hP.two
  have dis' : ∀ k, S2 k → ¬ S1 k := fun k h2 h1 => dis k h1 h2
  have nT1 : ¬ S1 w.heap.size := fun e => by have := hlt _ (i1 _ e); omega
  have nT2 : ¬ S2 w.heap.size := fun e => by have := hlt _ (i2 _ e); omega
  have nX1 : ¬ S1 (w.heap.size + 1 + 1) := fun e => by have := hlt _ (i1 _ e); omega
  have d00 : W.cell? ⟨w.heap.size + 1, 0, none⟩ = some (.int .i64 1) := D0.cell 0
  have t00 : W.cell? ⟨w.heap.size, 0, none⟩ = some (.pointer (some a)) := T0.cell 0
  have t10 : W.cell? ⟨w.heap.size, 1, none⟩ = some (.pointer (some ⟨b, 0, none⟩)) := T0.cell 1
  have x00 : W.cell? ⟨w.heap.size + 1 + 1, 0, none⟩ = some (.int .u64 s.pn) := X0.cell 0
  have x10 : W.cell? ⟨w.heap.size + 1 + 1, 1, none⟩ = some (.int .u64 s.off) := X0.cell 1
  have x20 : W.cell? ⟨w.heap.size + 1 + 1, 2, none⟩ = some (.int .u64 s.len) := X0.cell 2
  have x30 : W.cell? ⟨w.heap.size + 1 + 1, 3, none⟩ = some (.int .u64 s.nonce) := X0.cell 3
  have x40 : W.cell? ⟨w.heap.size + 1 + 1, 4, none⟩ = some (.int .u64 s.time) := X0.cell 4
  have x50 : W.cell? ⟨w.heap.size + 1 + 1, 5, none⟩ = some (.bool s.coin) := X0.cell 5
  have x60 : W.cell? ⟨w.heap.size + 1 + 1, 6, none⟩ = some (.bool s.used) := X0.cell 6
  have x70 : W.cell? ⟨w.heap.size + 1 + 1, 7, none⟩ = some (.int .i64 s.state) := X0.cell 7
  go_wp2_with (first | (go_at_call 20; refine (send_any P0 s hs hn).mono ?_; rintro e w1 ⟨rfl, P1, F1⟩; have T1 := T0.kept F1 nT1; have X1 := X0.kept F1 nX1; have t01 : w1.cell? ⟨w.heap.size, 0, none⟩ = some (.pointer (some a)) := T1.cell 0; have t11 : w1.cell? ⟨w.heap.size, 1, none⟩ = some (.pointer (some ⟨b, 0, none⟩)) := T1.cell 1; have x01 : w1.cell? ⟨w.heap.size + 1 + 1, 0, none⟩ = some (.int .u64 s.pn) := X1.cell 0; have x11 : w1.cell? ⟨w.heap.size + 1 + 1, 1, none⟩ = some (.int .u64 s.off) := X1.cell 1; have x21 : w1.cell? ⟨w.heap.size + 1 + 1, 2, none⟩ = some (.int .u64 s.len) := X1.cell 2; have x31 : w1.cell? ⟨w.heap.size + 1 + 1, 3, none⟩ = some (.int .u64 s.nonce) := X1.cell 3; have x41 : w1.cell? ⟨w.heap.size + 1 + 1, 4, none⟩ = some (.int .u64 s.time) := X1.cell 4; have x51 : w1.cell? ⟨w.heap.size + 1 + 1, 5, none⟩ = some (.bool s.coin) := X1.cell 5; have x61 : w1.cell? ⟨w.heap.size + 1 + 1, 6, none⟩ = some (.bool s.used) := X1.cell 6; have x71 : w1.cell? ⟨w.heap.size + 1 + 1, 7, none⟩ = some (.int .i64 s.state) := X1.cell 7; have R1 := R0.kept F1 dis') | (go_at_call 38; refine (ref_send R1 s hs hn).mono ?_; rintro e w2 ⟨rfl, R2, F2⟩; clear T1 X1 t01 t11 x01 x11 x21 x31 x41 x51 x61 x71))
  all_goals go_ret
  all_goals exact ⟨by simp, pair_join hlt hL.size i1 i2 dis F1 F2 P1 R2 hL⟩
set_option maxHeartbeats 1000000 in
theorem two_do_raw_2 {S : Nat → Prop} {w : World} {a : Addr} {b : Nat} {g : Lg} (h : Pair S w a b g) (hn : g.l.length ≤ 1000000) (A B : Int) (a0 : 0 ≤ A) (a1 : A ≤ 18446744073709551615) (b0 : 0 ≤ B) (b1 : B ≤ 18446744073709551615) :
    Calls Try.prog 19 #[.agg #[.pointer (some a), .pointer (some ⟨b, 0, none⟩)], .agg #[.int .i64 2, .int .u64 A, .int .u64 B], .bool true] w fun e w' => e = .returned (.bool true) ∧ Pair (Plus S w w') w' a b (sendG g (sOf true A B)) ∧ Fr S w w' := by
  have hs := sOf_words true a0 a1 b0 b1
  obtain ⟨p0, p1⟩ := pnOf_bd g hn true a0 a1
  obtain ⟨q0, q1⟩ := stOf_bd true B
  generalize hsS : sOf true A B = s at *
  generalize hpS : pnOf g true A = pn at *
  generalize hqS : stOf true B = st at *
  go_enter Try.func19, Try.ntmps19
  go_upto_region 2 with fail
  go_quiet (fail)
  go_upto_region 10 with fail
  refine at_world ?_
  intro W hW
  obtain ⟨T0, D0, X0, hL⟩ : Blk W w.heap.size #[.pointer (some a), .pointer (some ⟨b, 0, none⟩)] 27 ∧ Blk W (w.heap.size + 1) #[.int .i64 2, .int .u64 A, .int .u64 B] 52 ∧ Blk W (w.heap.size + 1 + 1) #[.int .u64 s.pn, .int .u64 s.off, .int .u64 s.len, .int .u64 s.nonce, .int .u64 s.time, .bool s.coin, .bool s.used, .int .i64 s.state] 42 ∧ Below w.heap.size w W := by
    subst hW
    subst hsS
    have := laid3 w #[.pointer (some a), .pointer (some ⟨b, 0, none⟩)] #[.int .i64 2, .int .u64 A, .int .u64 B] #[.int .u64 ((sOf true A B)).pn, .int .u64 ((sOf true A B)).off, .int .u64 ((sOf true A B)).len, .int .u64 ((sOf true A B)).nonce, .int .u64 ((sOf true A B)).time, .bool ((sOf true A B)).coin, .bool ((sOf true A B)).used, .int .i64 ((sOf true A B)).state] 27 52 42
    exact ⟨this.1, this.2.1, this.2.2.1, Base.drawn this.2.2.2 _⟩
  clear hW hsS
  obtain rfl : A = pn := hpS
  obtain rfl : wrap64 B = st := hqS
  have hlt := h.lt
  have hP := h.below hL
  obtain ⟨S1, S2, P0, R0, i1, i2, dis⟩ := hP.two
  have dis' : ∀ k, S2 k → ¬ S1 k := fun k h2 h1 => dis k h1 h2
  have nT1 : ¬ S1 w.heap.size := fun e => by have := hlt _ (i1 _ e); omega
  have nT2 : ¬ S2 w.heap.size := fun e => by have := hlt _ (i2 _ e); omega
  have nX1 : ¬ S1 (w.heap.size + 1 + 1) := fun e => by have := hlt _ (i1 _ e); omega
  have d00 : W.cell? ⟨w.heap.size + 1, 0, none⟩ = some (.int .i64 2) := D0.cell 0
  have t00 : W.cell? ⟨w.heap.size, 0, none⟩ = some (.pointer (some a)) := T0.cell 0
  have t10 : W.cell? ⟨w.heap.size, 1, none⟩ = some (.pointer (some ⟨b, 0, none⟩)) := T0.cell 1
  have x00 : W.cell? ⟨w.heap.size + 1 + 1, 0, none⟩ = some (.int .u64 s.pn) := X0.cell 0
  have x10 : W.cell? ⟨w.heap.size + 1 + 1, 1, none⟩ = some (.int .u64 s.off) := X0.cell 1
  have x20 : W.cell? ⟨w.heap.size + 1 + 1, 2, none⟩ = some (.int .u64 s.len) := X0.cell 2
  have x30 : W.cell? ⟨w.heap.size + 1 + 1, 3, none⟩ = some (.int .u64 s.nonce) := X0.cell 3
  have x40 : W.cell? ⟨w.heap.size + 1 + 1, 4, none⟩ = some (.int .u64 s.time) := X0.cell 4
  have x50 : W.cell? ⟨w.heap.size + 1 + 1, 5, none⟩ = some (.bool s.coin) := X0.cell 5
  have x60 : W.cell? ⟨w.heap.size + 1 + 1, 6, none⟩ = some (.bool s.used) := X0.cell 6
  have x70 : W.cell? ⟨w.heap.size + 1 + 1, 7, none⟩ = some (.int .i64 s.state) := X0.cell 7
  go_wp2_with (first | (go_at_call 20; refine (send_any P0 s hs hn).mono ?_; rintro e w1 ⟨rfl, P1, F1⟩; have T1 := T0.kept F1 nT1; have X1 := X0.kept F1 nX1; have t01 : w1.cell? ⟨w.heap.size, 0, none⟩ = some (.pointer (some a)) := T1.cell 0; have t11 : w1.cell? ⟨w.heap.size, 1, none⟩ = some (.pointer (some ⟨b, 0, none⟩)) := T1.cell 1; have x01 : w1.cell? ⟨w.heap.size + 1 + 1, 0, none⟩ = some (.int .u64 s.pn) := X1.cell 0; have x11 : w1.cell? ⟨w.heap.size + 1 + 1, 1, none⟩ = some (.int .u64 s.off) := X1.cell 1; have x21 : w1.cell? ⟨w.heap.size + 1 + 1, 2, none⟩ = some (.int .u64 s.len) := X1.cell 2; have x31 : w1.cell? ⟨w.heap.size + 1 + 1, 3, none⟩ = some (.int .u64 s.nonce) := X1.cell 3; have x41 : w1.cell? ⟨w.heap.size + 1 + 1, 4, none⟩ = some (.int .u64 s.time) := X1.cell 4; have x51 : w1.cell? ⟨w.heap.size + 1 + 1, 5, none⟩ = some (.bool s.coin) := X1.cell 5; have x61 : w1.cell? ⟨w.heap.size + 1 + 1, 6, none⟩ = some (.bool s.used) := X1.cell 6; have x71 : w1.cell? ⟨w.heap.size + 1 + 1, 7, none⟩ = some (.int .i64 s.state) := X1.cell 7; have R1 := R0.kept F1 dis') | (go_at_call 38; refine (ref_send R1 s hs hn).mono ?_; rintro e w2 ⟨rfl, R2, F2⟩; clear T1 X1 t01 t11 x01 x11 x21 x31 x41 x51 x61 x71))
  all_goals go_ret
  all_goals exact ⟨by simp, pair_join hlt hL.size i1 i2 dis F1 F2 P1 R2 hL⟩
set_option maxHeartbeats 1000000 in
theorem two_do_fit_2 {S : Nat → Prop} {w : World} {a : Addr} {b : Nat} {g : Lg} (h : Pair S w a b g) (hn : g.l.length ≤ 1000000) (A B : Int) (a0 : 0 ≤ A) (a1 : A ≤ 18446744073709551615) (b0 : 0 ≤ B) (b1 : B ≤ 18446744073709551615) :
    Calls Try.prog 19 #[.agg #[.pointer (some a), .pointer (some ⟨b, 0, none⟩)], .agg #[.int .i64 2, .int .u64 A, .int .u64 B], .bool false] w fun e w' => e = .returned (.bool true) ∧ Pair (Plus S w w') w' a b (sendG g (sOf false A B)) ∧ Fr S w w' := by
  have hs := sOf_words false a0 a1 b0 b1
  obtain ⟨p0, p1⟩ := pnOf_bd g hn false a0 a1
  obtain ⟨q0, q1⟩ := stOf_bd false B
  generalize hsS : sOf false A B = s at *
  generalize hpS : pnOf g false A = pn at *
  generalize hqS : stOf false B = st at *
  go_enter Try.func19, Try.ntmps19
  go_upto_region 2 with fail
  go_quiet (fail)
  go_upto_region 8 with fail
  refine at_world ?_
  intro V hV
  obtain ⟨T0, D0, X0, hL⟩ : Blk V w.heap.size #[.pointer (some a), .pointer (some ⟨b, 0, none⟩)] 27 ∧ Blk V (w.heap.size + 1) #[.int .i64 2, .int .u64 A, .int .u64 B] 52 ∧ Blk V (w.heap.size + 1 + 1) #[.int .u64 s.pn, .int .u64 s.off, .int .u64 s.len, .int .u64 s.nonce, .int .u64 s.time, .bool s.coin, .bool s.used, .int .i64 s.state] 42 ∧ Below w.heap.size w V := by
    subst hV
    subst hsS
    have := laid3 w #[.pointer (some a), .pointer (some ⟨b, 0, none⟩)] #[.int .i64 2, .int .u64 A, .int .u64 B] #[.int .u64 ((sOf true A B)).pn, .int .u64 ((sOf true A B)).off, .int .u64 ((sOf true A B)).len, .int .u64 ((sOf true A B)).nonce, .int .u64 ((sOf true A B)).time, .bool ((sOf true A B)).coin, .bool ((sOf true A B)).used, .int .i64 ((sOf true A B)).state] 27 52 42
    refine ⟨?_, ?_, ?_, ?_⟩
    · exact ((((blk_drewN this.1 _).other (by simp; omega) _).other (by simp; omega) _).other (by simp; omega) _).other (by simp; omega) _
    · exact ((((blk_drewN this.2.1 _).other (by simp) _).other (by simp) _).other (by simp) _).other (by simp) _
    · exact ((((blk_drewN this.2.2.1 _).set 2 _).set 1 _).set 3 _).set 4 _
    · exact ((((Base.drawn this.2.2.2 _).setCell (by simp; omega) _).setCell (by simp; omega) _).setCell (by simp; omega) _).setCell (by simp; omega) _
  clear hV hsS
  have hR8 := (h.below hL).rf
  have v00 : V.cell? ⟨w.heap.size, 1, none⟩ = some (.pointer (some ⟨b, 0, none⟩)) := T0.cell 1
  have v01 : V.cell? ⟨w.heap.size + 1, 1, none⟩ = some (.int .u64 A) := D0.cell 1
  have v02 : V.cell? ⟨w.heap.size + 1, 2, none⟩ = some (.int .u64 B) := D0.cell 2
  have CN := fun p : In (Lt V) => ref_next (hR8.below p.h)
  have z0 := fun p : In (Lt V) => inCell p v00
  have z1 := fun p : In (Lt V) => inCell p v01
  generalize hnx : (g.l.length : Int) = nx at CN
  have hn1 : 0 ≤ nx ∧ nx ≤ 1000000 := by omega
  have hpn : A.tmod (nx + 2) = pn := by rw [Int.tmod_eq_emod_of_nonneg a0, ← hpS, ← hnx]; rfl
  refine wp_region_in (Lt V) (Lt.drew V) (by kernel_rfl) (by kernel_rfl) ?_
  repeat (go_big_quiet_step ((go_at_call 9; refine in_same (v := .int .u64 nx) ?_; exact CN _)))
  refine wpQuiet_nil ?_
  rintro W ⟨⟨_, hW⟩, rfl⟩
  have hW : Below V.heap.size V W := hW
  have w02 := keepCell hW v02
  go_upto_region 10 with fail
  rw [show 1 + B % 4 = st from hqS]
  replace T0 := T0.below hW T0.lt
  replace D0 := D0.below hW D0.lt
  replace X0 := X0.below hW X0.lt
  replace hL := Base.next hL hW
  clear hR8 v00 v01 v02 z0 z1 CN hpn hnx w02 hpS hqS
  have hlt := h.lt
  have hP := h.below hL
  obtain ⟨S1, S2, P0, R0, i1, i2, dis⟩ := hP.two
  have dis' : ∀ k, S2 k → ¬ S1 k := fun k h2 h1 => dis k h1 h2
  have nT1 : ¬ S1 w.heap.size := fun e => by have := hlt _ (i1 _ e); omega
  have nT2 : ¬ S2 w.heap.size := fun e => by have := hlt _ (i2 _ e); omega
  have nX1 : ¬ S1 (w.heap.size + 1 + 1) := fun e => by have := hlt _ (i1 _ e); omega
  have d00 : W.cell? ⟨w.heap.size + 1, 0, none⟩ = some (.int .i64 2) := D0.cell 0
  have t00 : W.cell? ⟨w.heap.size, 0, none⟩ = some (.pointer (some a)) := T0.cell 0
  have t10 : W.cell? ⟨w.heap.size, 1, none⟩ = some (.pointer (some ⟨b, 0, none⟩)) := T0.cell 1
  have x00 : W.cell? ⟨w.heap.size + 1 + 1, 0, none⟩ = some (.int .u64 s.pn) := X0.cell 0
  have x10 : W.cell? ⟨w.heap.size + 1 + 1, 1, none⟩ = some (.int .u64 s.off) := X0.cell 1
  have x20 : W.cell? ⟨w.heap.size + 1 + 1, 2, none⟩ = some (.int .u64 s.len) := X0.cell 2
  have x30 : W.cell? ⟨w.heap.size + 1 + 1, 3, none⟩ = some (.int .u64 s.nonce) := X0.cell 3
  have x40 : W.cell? ⟨w.heap.size + 1 + 1, 4, none⟩ = some (.int .u64 s.time) := X0.cell 4
  have x50 : W.cell? ⟨w.heap.size + 1 + 1, 5, none⟩ = some (.bool s.coin) := X0.cell 5
  have x60 : W.cell? ⟨w.heap.size + 1 + 1, 6, none⟩ = some (.bool s.used) := X0.cell 6
  have x70 : W.cell? ⟨w.heap.size + 1 + 1, 7, none⟩ = some (.int .i64 s.state) := X0.cell 7
  go_wp2_with (first | (go_at_call 20; refine (send_any P0 s hs hn).mono ?_; rintro e w1 ⟨rfl, P1, F1⟩; have T1 := T0.kept F1 nT1; have X1 := X0.kept F1 nX1; have t01 : w1.cell? ⟨w.heap.size, 0, none⟩ = some (.pointer (some a)) := T1.cell 0; have t11 : w1.cell? ⟨w.heap.size, 1, none⟩ = some (.pointer (some ⟨b, 0, none⟩)) := T1.cell 1; have x01 : w1.cell? ⟨w.heap.size + 1 + 1, 0, none⟩ = some (.int .u64 s.pn) := X1.cell 0; have x11 : w1.cell? ⟨w.heap.size + 1 + 1, 1, none⟩ = some (.int .u64 s.off) := X1.cell 1; have x21 : w1.cell? ⟨w.heap.size + 1 + 1, 2, none⟩ = some (.int .u64 s.len) := X1.cell 2; have x31 : w1.cell? ⟨w.heap.size + 1 + 1, 3, none⟩ = some (.int .u64 s.nonce) := X1.cell 3; have x41 : w1.cell? ⟨w.heap.size + 1 + 1, 4, none⟩ = some (.int .u64 s.time) := X1.cell 4; have x51 : w1.cell? ⟨w.heap.size + 1 + 1, 5, none⟩ = some (.bool s.coin) := X1.cell 5; have x61 : w1.cell? ⟨w.heap.size + 1 + 1, 6, none⟩ = some (.bool s.used) := X1.cell 6; have x71 : w1.cell? ⟨w.heap.size + 1 + 1, 7, none⟩ = some (.int .i64 s.state) := X1.cell 7; have R1 := R0.kept F1 dis') | (go_at_call 38; refine (ref_send R1 s hs hn).mono ?_; rintro e w2 ⟨rfl, R2, F2⟩; clear T1 X1 t01 t11 x01 x11 x21 x31 x41 x51 x61 x71))
  all_goals go_ret
  all_goals exact ⟨by simp, pair_join hlt hL.size i1 i2 dis F1 F2 P1 R2 hL⟩
set_option maxHeartbeats 1000000 in
theorem two_do_raw_3 {S : Nat → Prop} {w : World} {a : Addr} {b : Nat} {g : Lg} (h : Pair S w a b g) (hn : g.l.length ≤ 1000000) (A B : Int) (a0 : 0 ≤ A) (a1 : A ≤ 18446744073709551615) (b0 : 0 ≤ B) (b1 : B ≤ 18446744073709551615) :
    Calls Try.prog 19 #[.agg #[.pointer (some a), .pointer (some ⟨b, 0, none⟩)], .agg #[.int .i64 3, .int .u64 A, .int .u64 B], .bool true] w fun e w' => e = .returned (.bool true) ∧ Pair (Plus S w w') w' a b (sendG g (sOf true A B)) ∧ Fr S w w' := by
  have hs := sOf_words true a0 a1 b0 b1
  obtain ⟨p0, p1⟩ := pnOf_bd g hn true a0 a1
  obtain ⟨q0, q1⟩ := stOf_bd true B
  generalize hsS : sOf true A B = s at *
  generalize hpS : pnOf g true A = pn at *
  generalize hqS : stOf true B = st at *
  go_enter Try.func19, Try.ntmps19
  go_upto_region 2 with fail
  go_quiet (fail)
  go_upto_region 10 with fail
  refine at_world ?_
  intro W hW
  obtain ⟨T0, D0, X0, hL⟩ : Blk W w.heap.size #[.pointer (some a), .pointer (some ⟨b, 0, none⟩)] 27 ∧ Blk W (w.heap.size + 1) #[.int .i64 3, .int .u64 A, .int .u64 B] 52 ∧ Blk W (w.heap.size + 1 + 1) #[.int .u64 s.pn, .int .u64 s.off, .int .u64 s.len, .int .u64 s.nonce, .int .u64 s.time, .bool s.coin, .bool s.used, .int .i64 s.state] 42 ∧ Below w.heap.size w W := by
    subst hW
    subst hsS
    have := laid3 w #[.pointer (some a), .pointer (some ⟨b, 0, none⟩)] #[.int .i64 3, .int .u64 A, .int .u64 B] #[.int .u64 ((sOf true A B)).pn, .int .u64 ((sOf true A B)).off, .int .u64 ((sOf true A B)).len, .int .u64 ((sOf true A B)).nonce, .int .u64 ((sOf true A B)).time, .bool ((sOf true A B)).coin, .bool ((sOf true A B)).used, .int .i64 ((sOf true A B)).state] 27 52 42
    exact ⟨this.1, this.2.1, this.2.2.1, Base.drawn this.2.2.2 _⟩
  clear hW hsS
  obtain rfl : A = pn := hpS
  obtain rfl : wrap64 B = st := hqS
  have hlt := h.lt
  have hP := h.below hL
  obtain ⟨S1, S2, P0, R0, i1, i2, dis⟩ := hP.two
  have dis' : ∀ k, S2 k → ¬ S1 k := fun k h2 h1 => dis k h1 h2
  have nT1 : ¬ S1 w.heap.size := fun e => by have := hlt _ (i1 _ e); omega
  have nT2 : ¬ S2 w.heap.size := fun e => by have := hlt _ (i2 _ e); omega
  have nX1 : ¬ S1 (w.heap.size + 1 + 1) := fun e => by have := hlt _ (i1 _ e); omega
  have d00 : W.cell? ⟨w.heap.size + 1, 0, none⟩ = some (.int .i64 3) := D0.cell 0
  have t00 : W.cell? ⟨w.heap.size, 0, none⟩ = some (.pointer (some a)) := T0.cell 0
  have t10 : W.cell? ⟨w.heap.size, 1, none⟩ = some (.pointer (some ⟨b, 0, none⟩)) := T0.cell 1
  have x00 : W.cell? ⟨w.heap.size + 1 + 1, 0, none⟩ = some (.int .u64 s.pn) := X0.cell 0
  have x10 : W.cell? ⟨w.heap.size + 1 + 1, 1, none⟩ = some (.int .u64 s.off) := X0.cell 1
  have x20 : W.cell? ⟨w.heap.size + 1 + 1, 2, none⟩ = some (.int .u64 s.len) := X0.cell 2
  have x30 : W.cell? ⟨w.heap.size + 1 + 1, 3, none⟩ = some (.int .u64 s.nonce) := X0.cell 3
  have x40 : W.cell? ⟨w.heap.size + 1 + 1, 4, none⟩ = some (.int .u64 s.time) := X0.cell 4
  have x50 : W.cell? ⟨w.heap.size + 1 + 1, 5, none⟩ = some (.bool s.coin) := X0.cell 5
  have x60 : W.cell? ⟨w.heap.size + 1 + 1, 6, none⟩ = some (.bool s.used) := X0.cell 6
  have x70 : W.cell? ⟨w.heap.size + 1 + 1, 7, none⟩ = some (.int .i64 s.state) := X0.cell 7
  go_wp2_with (first | (go_at_call 20; refine (send_any P0 s hs hn).mono ?_; rintro e w1 ⟨rfl, P1, F1⟩; have T1 := T0.kept F1 nT1; have X1 := X0.kept F1 nX1; have t01 : w1.cell? ⟨w.heap.size, 0, none⟩ = some (.pointer (some a)) := T1.cell 0; have t11 : w1.cell? ⟨w.heap.size, 1, none⟩ = some (.pointer (some ⟨b, 0, none⟩)) := T1.cell 1; have x01 : w1.cell? ⟨w.heap.size + 1 + 1, 0, none⟩ = some (.int .u64 s.pn) := X1.cell 0; have x11 : w1.cell? ⟨w.heap.size + 1 + 1, 1, none⟩ = some (.int .u64 s.off) := X1.cell 1; have x21 : w1.cell? ⟨w.heap.size + 1 + 1, 2, none⟩ = some (.int .u64 s.len) := X1.cell 2; have x31 : w1.cell? ⟨w.heap.size + 1 + 1, 3, none⟩ = some (.int .u64 s.nonce) := X1.cell 3; have x41 : w1.cell? ⟨w.heap.size + 1 + 1, 4, none⟩ = some (.int .u64 s.time) := X1.cell 4; have x51 : w1.cell? ⟨w.heap.size + 1 + 1, 5, none⟩ = some (.bool s.coin) := X1.cell 5; have x61 : w1.cell? ⟨w.heap.size + 1 + 1, 6, none⟩ = some (.bool s.used) := X1.cell 6; have x71 : w1.cell? ⟨w.heap.size + 1 + 1, 7, none⟩ = some (.int .i64 s.state) := X1.cell 7; have R1 := R0.kept F1 dis') | (go_at_call 38; refine (ref_send R1 s hs hn).mono ?_; rintro e w2 ⟨rfl, R2, F2⟩; clear T1 X1 t01 t11 x01 x11 x21 x31 x41 x51 x61 x71))
  all_goals go_ret
  all_goals exact ⟨by simp, pair_join hlt hL.size i1 i2 dis F1 F2 P1 R2 hL⟩
set_option maxHeartbeats 1000000 in
theorem two_do_fit_3 {S : Nat → Prop} {w : World} {a : Addr} {b : Nat} {g : Lg} (h : Pair S w a b g) (hn : g.l.length ≤ 1000000) (A B : Int) (a0 : 0 ≤ A) (a1 : A ≤ 18446744073709551615) (b0 : 0 ≤ B) (b1 : B ≤ 18446744073709551615) :
    Calls Try.prog 19 #[.agg #[.pointer (some a), .pointer (some ⟨b, 0, none⟩)], .agg #[.int .i64 3, .int .u64 A, .int .u64 B], .bool false] w fun e w' => e = .returned (.bool true) ∧ Pair (Plus S w w') w' a b (sendG g (sOf false A B)) ∧ Fr S w w' := by
  have hs := sOf_words false a0 a1 b0 b1
  obtain ⟨p0, p1⟩ := pnOf_bd g hn false a0 a1
  obtain ⟨q0, q1⟩ := stOf_bd false B
  generalize hsS : sOf false A B = s at *
  generalize hpS : pnOf g false A = pn at *
  generalize hqS : stOf false B = st at *
  go_enter Try.func19, Try.ntmps19
  go_upto_region 2 with fail
  go_quiet (fail)
  go_upto_region 8 with fail
  refine at_world ?_
  intro V hV
  obtain ⟨T0, D0, X0, hL⟩ : Blk V w.heap.size #[.pointer (some a), .pointer (some ⟨b, 0, none⟩)] 27 ∧ Blk V (w.heap.size + 1) #[.int .i64 3, .int .u64 A, .int .u64 B] 52 ∧ Blk V (w.heap.size + 1 + 1) #[.int .u64 s.pn, .int .u64 s.off, .int .u64 s.len, .int .u64 s.nonce, .int .u64 s.time, .bool s.coin, .bool s.used, .int .i64 s.state] 42 ∧ Below w.heap.size w V := by
    subst hV
    subst hsS
    have := laid3 w #[.pointer (some a), .pointer (some ⟨b, 0, none⟩)] #[.int .i64 3, .int .u64 A, .int .u64 B] #[.int .u64 ((sOf true A B)).pn, .int .u64 ((sOf true A B)).off, .int .u64 ((sOf true A B)).len, .int .u64 ((sOf true A B)).nonce, .int .u64 ((sOf true A B)).time, .bool ((sOf true A B)).coin, .bool ((sOf true A B)).used, .int .i64 ((sOf true A B)).state] 27 52 42
    refine ⟨?_, ?_, ?_, ?_⟩
    · exact ((((blk_drewN this.1 _).other (by simp; omega) _).other (by simp; omega) _).other (by simp; omega) _).other (by simp; omega) _
    · exact ((((blk_drewN this.2.1 _).other (by simp) _).other (by simp) _).other (by simp) _).other (by simp) _
    · exact ((((blk_drewN this.2.2.1 _).set 2 _).set 1 _).set 3 _).set 4 _
    · exact ((((Base.drawn this.2.2.2 _).setCell (by simp; omega) _).setCell (by simp; omega) _).setCell (by simp; omega) _).setCell (by simp; omega) _
  clear hV hsS
  have hR8 := (h.below hL).rf
  have v00 : V.cell? ⟨w.heap.size, 1, none⟩ = some (.pointer (some ⟨b, 0, none⟩)) := T0.cell 1
  have v01 : V.cell? ⟨w.heap.size + 1, 1, none⟩ = some (.int .u64 A) := D0.cell 1
  have v02 : V.cell? ⟨w.heap.size + 1, 2, none⟩ = some (.int .u64 B) := D0.cell 2
  have CN := fun p : In (Lt V) => ref_next (hR8.below p.h)
  have z0 := fun p : In (Lt V) => inCell p v00
  have z1 := fun p : In (Lt V) => inCell p v01
  generalize hnx : (g.l.length : Int) = nx at CN
  have hn1 : 0 ≤ nx ∧ nx ≤ 1000000 := by omega
  have hpn : A.tmod (nx + 2) = pn := by rw [Int.tmod_eq_emod_of_nonneg a0, ← hpS, ← hnx]; rfl
  refine wp_region_in (Lt V) (Lt.drew V) (by kernel_rfl) (by kernel_rfl) ?_
  repeat (go_big_quiet_step ((go_at_call 9; refine in_same (v := .int .u64 nx) ?_; exact CN _)))
  refine wpQuiet_nil ?_
  rintro W ⟨⟨_, hW⟩, rfl⟩
  have hW : Below V.heap.size V W := hW
  have w02 := keepCell hW v02
  go_upto_region 10 with fail
  rw [show 1 + B % 4 = st from hqS]
  replace T0 := T0.below hW T0.lt
  replace D0 := D0.below hW D0.lt
  replace X0 := X0.below hW X0.lt
  replace hL := Base.next hL hW
  clear hR8 v00 v01 v02 z0 z1 CN hpn hnx w02 hpS hqS
  have hlt := h.lt
  have hP := h.below hL
  obtain ⟨S1, S2, P0, R0, i1, i2, dis⟩ := hP.two
  have dis' : ∀ k, S2 k → ¬ S1 k := fun k h2 h1 => dis k h1 h2
  have nT1 : ¬ S1 w.heap.size := fun e => by have := hlt _ (i1 _ e); omega
  have nT2 : ¬ S2 w.heap.size := fun e => by have := hlt _ (i2 _ e); omega
  have nX1 : ¬ S1 (w.heap.size + 1 + 1) := fun e => by have := hlt _ (i1 _ e); omega
  have d00 : W.cell? ⟨w.heap.size + 1, 0, none⟩ = some (.int .i64 3) := D0.cell 0
  have t00 : W.cell? ⟨w.heap.size, 0, none⟩ = some (.pointer (some a)) := T0.cell 0
  have t10 : W.cell? ⟨w.heap.size, 1, none⟩ = some (.pointer (some ⟨b, 0, none⟩)) := T0.cell 1
  have x00 : W.cell? ⟨w.heap.size + 1 + 1, 0, none⟩ = some (.int .u64 s.pn) := X0.cell 0
  have x10 : W.cell? ⟨w.heap.size + 1 + 1, 1, none⟩ = some (.int .u64 s.off) := X0.cell 1
  have x20 : W.cell? ⟨w.heap.size + 1 + 1, 2, none⟩ = some (.int .u64 s.len) := X0.cell 2
  have x30 : W.cell? ⟨w.heap.size + 1 + 1, 3, none⟩ = some (.int .u64 s.nonce) := X0.cell 3
  have x40 : W.cell? ⟨w.heap.size + 1 + 1, 4, none⟩ = some (.int .u64 s.time) := X0.cell 4
  have x50 : W.cell? ⟨w.heap.size + 1 + 1, 5, none⟩ = some (.bool s.coin) := X0.cell 5
  have x60 : W.cell? ⟨w.heap.size + 1 + 1, 6, none⟩ = some (.bool s.used) := X0.cell 6
  have x70 : W.cell? ⟨w.heap.size + 1 + 1, 7, none⟩ = some (.int .i64 s.state) := X0.cell 7
  go_wp2_with (first | (go_at_call 20; refine (send_any P0 s hs hn).mono ?_; rintro e w1 ⟨rfl, P1, F1⟩; have T1 := T0.kept F1 nT1; have X1 := X0.kept F1 nX1; have t01 : w1.cell? ⟨w.heap.size, 0, none⟩ = some (.pointer (some a)) := T1.cell 0; have t11 : w1.cell? ⟨w.heap.size, 1, none⟩ = some (.pointer (some ⟨b, 0, none⟩)) := T1.cell 1; have x01 : w1.cell? ⟨w.heap.size + 1 + 1, 0, none⟩ = some (.int .u64 s.pn) := X1.cell 0; have x11 : w1.cell? ⟨w.heap.size + 1 + 1, 1, none⟩ = some (.int .u64 s.off) := X1.cell 1; have x21 : w1.cell? ⟨w.heap.size + 1 + 1, 2, none⟩ = some (.int .u64 s.len) := X1.cell 2; have x31 : w1.cell? ⟨w.heap.size + 1 + 1, 3, none⟩ = some (.int .u64 s.nonce) := X1.cell 3; have x41 : w1.cell? ⟨w.heap.size + 1 + 1, 4, none⟩ = some (.int .u64 s.time) := X1.cell 4; have x51 : w1.cell? ⟨w.heap.size + 1 + 1, 5, none⟩ = some (.bool s.coin) := X1.cell 5; have x61 : w1.cell? ⟨w.heap.size + 1 + 1, 6, none⟩ = some (.bool s.used) := X1.cell 6; have x71 : w1.cell? ⟨w.heap.size + 1 + 1, 7, none⟩ = some (.int .i64 s.state) := X1.cell 7; have R1 := R0.kept F1 dis') | (go_at_call 38; refine (ref_send R1 s hs hn).mono ?_; rintro e w2 ⟨rfl, R2, F2⟩; clear T1 X1 t01 t11 x01 x11 x21 x31 x41 x51 x61 x71))
  all_goals go_ret
  all_goals exact ⟨by simp, pair_join hlt hL.size i1 i2 dis F1 F2 P1 R2 hL⟩
set_option maxHeartbeats 1000000 in
theorem two_do_raw_4 {S : Nat → Prop} {w : World} {a : Addr} {b : Nat} {g : Lg} (h : Pair S w a b g) (hn : g.l.length ≤ 1000000) (A B : Int) (a0 : 0 ≤ A) (a1 : A ≤ 18446744073709551615) (b0 : 0 ≤ B) (b1 : B ≤ 18446744073709551615) :
    Calls Try.prog 19 #[.agg #[.pointer (some a), .pointer (some ⟨b, 0, none⟩)], .agg #[.int .i64 4, .int .u64 A, .int .u64 B], .bool true] w fun e w' => e = .returned (.bool true) ∧ Pair (Plus S w w') w' a b (skipG g) ∧ Fr S w w' := by
  have hs := sOf_words true a0 a1 b0 b1
  obtain ⟨p0, p1⟩ := pnOf_bd g hn true a0 a1
  obtain ⟨q0, q1⟩ := stOf_bd true B
  generalize hsS : sOf true A B = s at *
  generalize hpS : pnOf g true A = pn at *
  generalize hqS : stOf true B = st at *
  go_enter Try.func19, Try.ntmps19
  go_upto_region 2 with fail
  go_quiet (fail)
  go_upto_region 10 with fail
  refine at_world ?_
  intro W hW
  obtain ⟨T0, D0, X0, hL⟩ : Blk W w.heap.size #[.pointer (some a), .pointer (some ⟨b, 0, none⟩)] 27 ∧ Blk W (w.heap.size + 1) #[.int .i64 4, .int .u64 A, .int .u64 B] 52 ∧ Blk W (w.heap.size + 1 + 1) #[.int .u64 s.pn, .int .u64 s.off, .int .u64 s.len, .int .u64 s.nonce, .int .u64 s.time, .bool s.coin, .bool s.used, .int .i64 s.state] 42 ∧ Below w.heap.size w W := by
    subst hW
    subst hsS
    have := laid3 w #[.pointer (some a), .pointer (some ⟨b, 0, none⟩)] #[.int .i64 4, .int .u64 A, .int .u64 B] #[.int .u64 ((sOf true A B)).pn, .int .u64 ((sOf true A B)).off, .int .u64 ((sOf true A B)).len, .int .u64 ((sOf true A B)).nonce, .int .u64 ((sOf true A B)).time, .bool ((sOf true A B)).coin, .bool ((sOf true A B)).used, .int .i64 ((sOf true A B)).state] 27 52 42
    exact ⟨this.1, this.2.1, this.2.2.1, Base.drawn this.2.2.2 _⟩
  clear hW hsS
  obtain rfl : A = pn := hpS
  obtain rfl : wrap64 B = st := hqS
  have hlt := h.lt
  have hP := h.below hL
  obtain ⟨S1, S2, P0, R0, i1, i2, dis⟩ := hP.two
  have dis' : ∀ k, S2 k → ¬ S1 k := fun k h2 h1 => dis k h1 h2
  have nT1 : ¬ S1 w.heap.size := fun e => by have := hlt _ (i1 _ e); omega
  have nT2 : ¬ S2 w.heap.size := fun e => by have := hlt _ (i2 _ e); omega
  have nX1 : ¬ S1 (w.heap.size + 1 + 1) := fun e => by have := hlt _ (i1 _ e); omega
  have d00 : W.cell? ⟨w.heap.size + 1, 0, none⟩ = some (.int .i64 4) := D0.cell 0
  have t00 : W.cell? ⟨w.heap.size, 0, none⟩ = some (.pointer (some a)) := T0.cell 0
  have t10 : W.cell? ⟨w.heap.size, 1, none⟩ = some (.pointer (some ⟨b, 0, none⟩)) := T0.cell 1
  have x00 : W.cell? ⟨w.heap.size + 1 + 1, 0, none⟩ = some (.int .u64 s.pn) := X0.cell 0
  have x10 : W.cell? ⟨w.heap.size + 1 + 1, 1, none⟩ = some (.int .u64 s.off) := X0.cell 1
  have x20 : W.cell? ⟨w.heap.size + 1 + 1, 2, none⟩ = some (.int .u64 s.len) := X0.cell 2
  have x30 : W.cell? ⟨w.heap.size + 1 + 1, 3, none⟩ = some (.int .u64 s.nonce) := X0.cell 3
  have x40 : W.cell? ⟨w.heap.size + 1 + 1, 4, none⟩ = some (.int .u64 s.time) := X0.cell 4
  have x50 : W.cell? ⟨w.heap.size + 1 + 1, 5, none⟩ = some (.bool s.coin) := X0.cell 5
  have x60 : W.cell? ⟨w.heap.size + 1 + 1, 6, none⟩ = some (.bool s.used) := X0.cell 6
  have x70 : W.cell? ⟨w.heap.size + 1 + 1, 7, none⟩ = some (.int .i64 s.state) := X0.cell 7
  go_wp2_with (first | (go_at_call 39; refine (skip_any P0 hn).mono ?_; rintro e w1 ⟨rfl, P1, F1⟩; have T1 := T0.kept F1 nT1; have X1 := X0.kept F1 nX1; have t01 : w1.cell? ⟨w.heap.size, 0, none⟩ = some (.pointer (some a)) := T1.cell 0; have t11 : w1.cell? ⟨w.heap.size, 1, none⟩ = some (.pointer (some ⟨b, 0, none⟩)) := T1.cell 1; have x01 : w1.cell? ⟨w.heap.size + 1 + 1, 0, none⟩ = some (.int .u64 s.pn) := X1.cell 0; have x11 : w1.cell? ⟨w.heap.size + 1 + 1, 1, none⟩ = some (.int .u64 s.off) := X1.cell 1; have x21 : w1.cell? ⟨w.heap.size + 1 + 1, 2, none⟩ = some (.int .u64 s.len) := X1.cell 2; have x31 : w1.cell? ⟨w.heap.size + 1 + 1, 3, none⟩ = some (.int .u64 s.nonce) := X1.cell 3; have x41 : w1.cell? ⟨w.heap.size + 1 + 1, 4, none⟩ = some (.int .u64 s.time) := X1.cell 4; have x51 : w1.cell? ⟨w.heap.size + 1 + 1, 5, none⟩ = some (.bool s.coin) := X1.cell 5; have x61 : w1.cell? ⟨w.heap.size + 1 + 1, 6, none⟩ = some (.bool s.used) := X1.cell 6; have x71 : w1.cell? ⟨w.heap.size + 1 + 1, 7, none⟩ = some (.int .i64 s.state) := X1.cell 7; have R1 := R0.kept F1 dis') | (go_at_call 40; refine (ref_skip R1 hn).mono ?_; rintro e w2 ⟨rfl, R2, F2⟩; clear T1 X1 t01 t11 x01 x11 x21 x31 x41 x51 x61 x71))
  all_goals go_ret
  all_goals exact ⟨by simp, pair_join hlt hL.size i1 i2 dis F1 F2 P1 R2 hL⟩
set_option maxHeartbeats 1000000 in
theorem two_do_fit_4 {S : Nat → Prop} {w : World} {a : Addr} {b : Nat} {g : Lg} (h : Pair S w a b g) (hn : g.l.length ≤ 1000000) (A B : Int) (a0 : 0 ≤ A) (a1 : A ≤ 18446744073709551615) (b0 : 0 ≤ B) (b1 : B ≤ 18446744073709551615) :
    Calls Try.prog 19 #[.agg #[.pointer (some a), .pointer (some ⟨b, 0, none⟩)], .agg #[.int .i64 4, .int .u64 A, .int .u64 B], .bool false] w fun e w' => e = .returned (.bool true) ∧ Pair (Plus S w w') w' a b (skipG g) ∧ Fr S w w' := by
  have hs := sOf_words false a0 a1 b0 b1
  obtain ⟨p0, p1⟩ := pnOf_bd g hn false a0 a1
  obtain ⟨q0, q1⟩ := stOf_bd false B
  generalize hsS : sOf false A B = s at *
  generalize hpS : pnOf g false A = pn at *
  generalize hqS : stOf false B = st at *
  go_enter Try.func19, Try.ntmps19
  go_upto_region 2 with fail
  go_quiet (fail)
  go_upto_region 8 with fail
  refine at_world ?_
  intro V hV
  obtain ⟨T0, D0, X0, hL⟩ : Blk V w.heap.size #[.pointer (some a), .pointer (some ⟨b, 0, none⟩)] 27 ∧ Blk V (w.heap.size + 1) #[.int .i64 4, .int .u64 A, .int .u64 B] 52 ∧ Blk V (w.heap.size + 1 + 1) #[.int .u64 s.pn, .int .u64 s.off, .int .u64 s.len, .int .u64 s.nonce, .int .u64 s.time, .bool s.coin, .bool s.used, .int .i64 s.state] 42 ∧ Below w.heap.size w V := by
    subst hV
    subst hsS
    have := laid3 w #[.pointer (some a), .pointer (some ⟨b, 0, none⟩)] #[.int .i64 4, .int .u64 A, .int .u64 B] #[.int .u64 ((sOf true A B)).pn, .int .u64 ((sOf true A B)).off, .int .u64 ((sOf true A B)).len, .int .u64 ((sOf true A B)).nonce, .int .u64 ((sOf true A B)).time, .bool ((sOf true A B)).coin, .bool ((sOf true A B)).used, .int .i64 ((sOf true A B)).state] 27 52 42
    refine ⟨?_, ?_, ?_, ?_⟩
    · exact ((((blk_drewN this.1 _).other (by simp; omega) _).other (by simp; omega) _).other (by simp; omega) _).other (by simp; omega) _
    · exact ((((blk_drewN this.2.1 _).other (by simp) _).other (by simp) _).other (by simp) _).other (by simp) _
    · exact ((((blk_drewN this.2.2.1 _).set 2 _).set 1 _).set 3 _).set 4 _
    · exact ((((Base.drawn this.2.2.2 _).setCell (by simp; omega) _).setCell (by simp; omega) _).setCell (by simp; omega) _).setCell (by simp; omega) _
  clear hV hsS
  have hR8 := (h.below hL).rf
  have v00 : V.cell? ⟨w.heap.size, 1, none⟩ = some (.pointer (some ⟨b, 0, none⟩)) := T0.cell 1
  have v01 : V.cell? ⟨w.heap.size + 1, 1, none⟩ = some (.int .u64 A) := D0.cell 1
  have v02 : V.cell? ⟨w.heap.size + 1, 2, none⟩ = some (.int .u64 B) := D0.cell 2
  have CN := fun p : In (Lt V) => ref_next (hR8.below p.h)
  have z0 := fun p : In (Lt V) => inCell p v00
  have z1 := fun p : In (Lt V) => inCell p v01
  generalize hnx : (g.l.length : Int) = nx at CN
  have hn1 : 0 ≤ nx ∧ nx ≤ 1000000 := by omega
  have hpn : A.tmod (nx + 2) = pn := by rw [Int.tmod_eq_emod_of_nonneg a0, ← hpS, ← hnx]; rfl
  refine wp_region_in (Lt V) (Lt.drew V) (by kernel_rfl) (by kernel_rfl) ?_
  repeat (go_big_quiet_step ((go_at_call 9; refine in_same (v := .int .u64 nx) ?_; exact CN _)))
  refine wpQuiet_nil ?_
  rintro W ⟨⟨_, hW⟩, rfl⟩
  have hW : Below V.heap.size V W := hW
  have w02 := keepCell hW v02
  go_upto_region 10 with fail
  rw [show 1 + B % 4 = st from hqS]
  replace T0 := T0.below hW T0.lt
  replace D0 := D0.below hW D0.lt
  replace X0 := X0.below hW X0.lt
  replace hL := Base.next hL hW
  clear hR8 v00 v01 v02 z0 z1 CN hpn hnx w02 hpS hqS
  have hlt := h.lt
  have hP := h.below hL
  obtain ⟨S1, S2, P0, R0, i1, i2, dis⟩ := hP.two
  have dis' : ∀ k, S2 k → ¬ S1 k := fun k h2 h1 => dis k h1 h2
  have nT1 : ¬ S1 w.heap.size := fun e => by have := hlt _ (i1 _ e); omega
  have nT2 : ¬ S2 w.heap.size := fun e => by have := hlt _ (i2 _ e); omega
  have nX1 : ¬ S1 (w.heap.size + 1 + 1) := fun e => by have := hlt _ (i1 _ e); omega
  have d00 : W.cell? ⟨w.heap.size + 1, 0, none⟩ = some (.int .i64 4) := D0.cell 0
  have t00 : W.cell? ⟨w.heap.size, 0, none⟩ = some (.pointer (some a)) := T0.cell 0
  have t10 : W.cell? ⟨w.heap.size, 1, none⟩ = some (.pointer (some ⟨b, 0, none⟩)) := T0.cell 1
  have x00 : W.cell? ⟨w.heap.size + 1 + 1, 0, none⟩ = some (.int .u64 s.pn) := X0.cell 0
  have x10 : W.cell? ⟨w.heap.size + 1 + 1, 1, none⟩ = some (.int .u64 s.off) := X0.cell 1
  have x20 : W.cell? ⟨w.heap.size + 1 + 1, 2, none⟩ = some (.int .u64 s.len) := X0.cell 2
  have x30 : W.cell? ⟨w.heap.size + 1 + 1, 3, none⟩ = some (.int .u64 s.nonce) := X0.cell 3
  have x40 : W.cell? ⟨w.heap.size + 1 + 1, 4, none⟩ = some (.int .u64 s.time) := X0.cell 4
  have x50 : W.cell? ⟨w.heap.size + 1 + 1, 5, none⟩ = some (.bool s.coin) := X0.cell 5
  have x60 : W.cell? ⟨w.heap.size + 1 + 1, 6, none⟩ = some (.bool s.used) := X0.cell 6
  have x70 : W.cell? ⟨w.heap.size + 1 + 1, 7, none⟩ = some (.int .i64 s.state) := X0.cell 7
  go_wp2_with (first | (go_at_call 39; refine (skip_any P0 hn).mono ?_; rintro e w1 ⟨rfl, P1, F1⟩; have T1 := T0.kept F1 nT1; have X1 := X0.kept F1 nX1; have t01 : w1.cell? ⟨w.heap.size, 0, none⟩ = some (.pointer (some a)) := T1.cell 0; have t11 : w1.cell? ⟨w.heap.size, 1, none⟩ = some (.pointer (some ⟨b, 0, none⟩)) := T1.cell 1; have x01 : w1.cell? ⟨w.heap.size + 1 + 1, 0, none⟩ = some (.int .u64 s.pn) := X1.cell 0; have x11 : w1.cell? ⟨w.heap.size + 1 + 1, 1, none⟩ = some (.int .u64 s.off) := X1.cell 1; have x21 : w1.cell? ⟨w.heap.size + 1 + 1, 2, none⟩ = some (.int .u64 s.len) := X1.cell 2; have x31 : w1.cell? ⟨w.heap.size + 1 + 1, 3, none⟩ = some (.int .u64 s.nonce) := X1.cell 3; have x41 : w1.cell? ⟨w.heap.size + 1 + 1, 4, none⟩ = some (.int .u64 s.time) := X1.cell 4; have x51 : w1.cell? ⟨w.heap.size + 1 + 1, 5, none⟩ = some (.bool s.coin) := X1.cell 5; have x61 : w1.cell? ⟨w.heap.size + 1 + 1, 6, none⟩ = some (.bool s.used) := X1.cell 6; have x71 : w1.cell? ⟨w.heap.size + 1 + 1, 7, none⟩ = some (.int .i64 s.state) := X1.cell 7; have R1 := R0.kept F1 dis') | (go_at_call 40; refine (ref_skip R1 hn).mono ?_; rintro e w2 ⟨rfl, R2, F2⟩; clear T1 X1 t01 t11 x01 x11 x21 x31 x41 x51 x61 x71))
  all_goals go_ret
  all_goals exact ⟨by simp, pair_join hlt hL.size i1 i2 dis F1 F2 P1 R2 hL⟩
set_option maxHeartbeats 1000000 in
theorem two_do_raw_5 {S : Nat → Prop} {w : World} {a : Addr} {b : Nat} {g : Lg} (h : Pair S w a b g) (hn : g.l.length ≤ 1000000) (A B : Int) (a0 : 0 ≤ A) (a1 : A ≤ 18446744073709551615) (b0 : 0 ≤ B) (b1 : B ≤ 18446744073709551615) :
    Calls Try.prog 19 #[.agg #[.pointer (some a), .pointer (some ⟨b, 0, none⟩)], .agg #[.int .i64 5, .int .u64 A, .int .u64 B], .bool true] w fun e w' => e = .returned (.bool true) ∧ Pair (Plus S w w') w' a b (settleG g (pnOf g true A) (stOf true B)) ∧ Fr S w w' := by
  have hs := sOf_words true a0 a1 b0 b1
  obtain ⟨p0, p1⟩ := pnOf_bd g hn true a0 a1
  obtain ⟨q0, q1⟩ := stOf_bd true B
  generalize hsS : sOf true A B = s at *
  generalize hpS : pnOf g true A = pn at *
  generalize hqS : stOf true B = st at *
  go_enter Try.func19, Try.ntmps19
  go_upto_region 2 with fail
  go_quiet (fail)
  go_upto_region 10 with fail
  refine at_world ?_
  intro W hW
  obtain ⟨T0, D0, X0, hL⟩ : Blk W w.heap.size #[.pointer (some a), .pointer (some ⟨b, 0, none⟩)] 27 ∧ Blk W (w.heap.size + 1) #[.int .i64 5, .int .u64 A, .int .u64 B] 52 ∧ Blk W (w.heap.size + 1 + 1) #[.int .u64 s.pn, .int .u64 s.off, .int .u64 s.len, .int .u64 s.nonce, .int .u64 s.time, .bool s.coin, .bool s.used, .int .i64 s.state] 42 ∧ Below w.heap.size w W := by
    subst hW
    subst hsS
    have := laid3 w #[.pointer (some a), .pointer (some ⟨b, 0, none⟩)] #[.int .i64 5, .int .u64 A, .int .u64 B] #[.int .u64 ((sOf true A B)).pn, .int .u64 ((sOf true A B)).off, .int .u64 ((sOf true A B)).len, .int .u64 ((sOf true A B)).nonce, .int .u64 ((sOf true A B)).time, .bool ((sOf true A B)).coin, .bool ((sOf true A B)).used, .int .i64 ((sOf true A B)).state] 27 52 42
    exact ⟨this.1, this.2.1, this.2.2.1, Base.drawn this.2.2.2 _⟩
  clear hW hsS
  obtain rfl : A = pn := hpS
  obtain rfl : wrap64 B = st := hqS
  have hlt := h.lt
  have hP := h.below hL
  obtain ⟨S1, S2, P0, R0, i1, i2, dis⟩ := hP.two
  have dis' : ∀ k, S2 k → ¬ S1 k := fun k h2 h1 => dis k h1 h2
  have nT1 : ¬ S1 w.heap.size := fun e => by have := hlt _ (i1 _ e); omega
  have nT2 : ¬ S2 w.heap.size := fun e => by have := hlt _ (i2 _ e); omega
  have nX1 : ¬ S1 (w.heap.size + 1 + 1) := fun e => by have := hlt _ (i1 _ e); omega
  have d00 : W.cell? ⟨w.heap.size + 1, 0, none⟩ = some (.int .i64 5) := D0.cell 0
  have t00 : W.cell? ⟨w.heap.size, 0, none⟩ = some (.pointer (some a)) := T0.cell 0
  have t10 : W.cell? ⟨w.heap.size, 1, none⟩ = some (.pointer (some ⟨b, 0, none⟩)) := T0.cell 1
  have x00 : W.cell? ⟨w.heap.size + 1 + 1, 0, none⟩ = some (.int .u64 s.pn) := X0.cell 0
  have x10 : W.cell? ⟨w.heap.size + 1 + 1, 1, none⟩ = some (.int .u64 s.off) := X0.cell 1
  have x20 : W.cell? ⟨w.heap.size + 1 + 1, 2, none⟩ = some (.int .u64 s.len) := X0.cell 2
  have x30 : W.cell? ⟨w.heap.size + 1 + 1, 3, none⟩ = some (.int .u64 s.nonce) := X0.cell 3
  have x40 : W.cell? ⟨w.heap.size + 1 + 1, 4, none⟩ = some (.int .u64 s.time) := X0.cell 4
  have x50 : W.cell? ⟨w.heap.size + 1 + 1, 5, none⟩ = some (.bool s.coin) := X0.cell 5
  have x60 : W.cell? ⟨w.heap.size + 1 + 1, 6, none⟩ = some (.bool s.used) := X0.cell 6
  have x70 : W.cell? ⟨w.heap.size + 1 + 1, 7, none⟩ = some (.int .i64 s.state) := X0.cell 7
  go_upto_region 23 with fail
  have U0 : Below W.heap.size W W.drew := Base.drew1 (Below.refl _ _)
  have hS0 : (fun u : World => u.cell? ⟨w.heap.size, 0, none⟩ = some (.pointer (some a)) ∧ u.cell? ⟨w.heap.size, 1, none⟩ = some (.pointer (some ⟨b, 0, none⟩))) W.drew := ⟨t00, t10⟩
  refine held_start (fun u => u.cell? ⟨w.heap.size, 0, none⟩ = some (.pointer (some a)) ∧ u.cell? ⟨w.heap.size, 1, none⟩ = some (.pointer (some ⟨b, 0, none⟩))) (by kernel_rfl) ?_
  refine held_take (i := 0) (v := .pointer (some ⟨w.heap.size, 0, none⟩)) rfl (by kernel_rfl) (by kernel_rfl) (by kernel_rfl) (fun _ _ _ h => h) (by kernel_rfl) hS0 (fun _ hu => by kernel_rfl) ?_
  refine held_take (i := 1) (v := .pointer (some a)) rfl (by kernel_rfl) (by kernel_rfl) (by kernel_rfl) (fun _ _ _ h => h) (by kernel_rfl) hS0 (fun _ hu => ld_led (.tmp 136) rfl (by kernel_rfl) hu.1) ?_
  refine held_take (i := 2) (v := .int .u64 A) rfl (by kernel_rfl) (by kernel_rfl) (by kernel_rfl) (fun _ _ _ h => h) (by kernel_rfl) hS0 (fun _ hu => by kernel_rfl) ?_
  refine held_take (i := 3) (v := .int .i64 (wrap64 B)) rfl (by kernel_rfl) (by kernel_rfl) (by kernel_rfl) (fun _ _ _ h => h) (by kernel_rfl) hS0 (fun _ hu => by kernel_rfl) ?_
  refine held_take (i := 5) (v := .pointer (some ⟨w.heap.size, 1, none⟩)) rfl (by kernel_rfl) (by kernel_rfl) (by kernel_rfl) (fun _ _ _ h => h) (by kernel_rfl) hS0 (fun _ hu => by kernel_rfl) ?_
  refine held_take (i := 6) (v := .pointer (some ⟨b, 0, none⟩)) rfl (by kernel_rfl) (by kernel_rfl) (by kernel_rfl) (fun _ _ _ h => h) (by kernel_rfl) hS0 (fun _ hu => ld_ref (.tmp 141) rfl (by kernel_rfl) hu.2) ?_
  refine held_take (i := 7) (v := .int .u64 A) rfl (by kernel_rfl) (by kernel_rfl) (by kernel_rfl) (fun _ _ _ h => h) (by kernel_rfl) hS0 (fun _ hu => by kernel_rfl) ?_
  refine held_take (i := 8) (v := .int .i64 (wrap64 B)) rfl (by kernel_rfl) (by kernel_rfl) (by kernel_rfl) (fun _ _ _ h => h) (by kernel_rfl) hS0 (fun _ hu => by kernel_rfl) ?_
  refine held_call (i := 4) (f := 41) (args := #[.pointer (some a), .int .u64 A, .int .i64 (wrap64 B)]) rfl (by kernel_rfl) (by kernel_rfl) (enter3 (.tmp 137) (.tmp 138) (.tmp 139) _ rfl (by kernel_rfl) (by kernel_rfl) (by kernel_rfl) (by kernel_rfl) (by rfl)) ?_
  refine (settle_any (P0.kept (Fr.of_below (S := fun _ => False) U0) (fun _ _ h => h)) A (wrap64 B) p0 p1 q0 q1).mono ?_
  rintro e w1 ⟨rfl, P1, F1⟩
  replace F1 := F1.undrew
  have T1 := T0.kept F1 nT1
  have t01 : w1.cell? ⟨w.heap.size, 0, none⟩ = some (.pointer (some a)) := T1.cell 0
  have t11 : w1.cell? ⟨w.heap.size, 1, none⟩ = some (.pointer (some ⟨b, 0, none⟩)) := T1.cell 1
  have R1 := R0.kept F1 dis'
  refine ⟨_, rfl, ⟨t01, t11⟩, ?_⟩
  refine held_call (i := 9) (f := 42) (args := #[.pointer (some ⟨b, 0, none⟩), .int .u64 A, .int .i64 (wrap64 B)]) rfl (by kernel_rfl) (by kernel_rfl) (enter3 (.tmp 142) (.tmp 143) (.tmp 144) _ rfl (by kernel_rfl) (by kernel_rfl) (by kernel_rfl) (by kernel_rfl) (by rfl)) ?_
  refine (ref_settle R1 A (wrap64 B) p0 p1).mono ?_
  rintro e w2 ⟨rfl, R2', F2⟩
  have R2 := R2'.plus (w1 := w1) (w2 := w2)
  have T2 := T1.kept F2 nT2
  have t02 : w2.cell? ⟨w.heap.size, 0, none⟩ = some (.pointer (some a)) := T2.cell 0
  have t12 : w2.cell? ⟨w.heap.size, 1, none⟩ = some (.pointer (some ⟨b, 0, none⟩)) := T2.cell 1
  refine ⟨_, rfl, ⟨t02, t12⟩, ?_⟩
  refine held_take (i := 10) (v := .bool true) rfl (by kernel_rfl) (by kernel_rfl) (by kernel_rfl) (fun _ _ _ h => h) (by kernel_rfl) ⟨t02, t12⟩ (fun _ hu => eq_bool (c := settleB g A (wrap64 B)) (.tmp 140) (.tmp 145) rfl (by kernel_rfl) (by kernel_rfl)) ?_
  refine held_take (i := 11) (v := .bool true) rfl (by kernel_rfl) (by kernel_rfl) (by kernel_rfl) (fun _ _ _ h => h) (by kernel_rfl) ⟨t02, t12⟩ (fun _ hu => by kernel_rfl) ?_
  refine held_end 6 (.bool true) (by kernel_rfl) (by kernel_rfl) (by kernel_rfl) fun a' hd hv => ?_
  go_wp2
  refine bodyPost_ret (results_tmp rfl _ _ _) hd ?_
  rw [hv]
  exact ⟨rfl, pair_join hlt hL.size i1 i2 dis F1 F2 P1 R2 hL⟩
set_option maxHeartbeats 1000000 in
theorem two_do_fit_5 {S : Nat → Prop} {w : World} {a : Addr} {b : Nat} {g : Lg} (h : Pair S w a b g) (hn : g.l.length ≤ 1000000) (A B : Int) (a0 : 0 ≤ A) (a1 : A ≤ 18446744073709551615) (b0 : 0 ≤ B) (b1 : B ≤ 18446744073709551615) :
    Calls Try.prog 19 #[.agg #[.pointer (some a), .pointer (some ⟨b, 0, none⟩)], .agg #[.int .i64 5, .int .u64 A, .int .u64 B], .bool false] w fun e w' => e = .returned (.bool true) ∧ Pair (Plus S w w') w' a b (settleG g (pnOf g false A) (stOf false B)) ∧ Fr S w w' := by
  have hs := sOf_words false a0 a1 b0 b1
  obtain ⟨p0, p1⟩ := pnOf_bd g hn false a0 a1
  obtain ⟨q0, q1⟩ := stOf_bd false B
  generalize hsS : sOf false A B = s at *
  generalize hpS : pnOf g false A = pn at *
  generalize hqS : stOf false B = st at *
  go_enter Try.func19, Try.ntmps19
  go_upto_region 2 with fail
  go_quiet (fail)
  go_upto_region 8 with fail
  refine at_world ?_
  intro V hV
  obtain ⟨T0, D0, X0, hL⟩ : Blk V w.heap.size #[.pointer (some a), .pointer (some ⟨b, 0, none⟩)] 27 ∧ Blk V (w.heap.size + 1) #[.int .i64 5, .int .u64 A, .int .u64 B] 52 ∧ Blk V (w.heap.size + 1 + 1) #[.int .u64 s.pn, .int .u64 s.off, .int .u64 s.len, .int .u64 s.nonce, .int .u64 s.time, .bool s.coin, .bool s.used, .int .i64 s.state] 42 ∧ Below w.heap.size w V := by
    subst hV
    subst hsS
    have := laid3 w #[.pointer (some a), .pointer (some ⟨b, 0, none⟩)] #[.int .i64 5, .int .u64 A, .int .u64 B] #[.int .u64 ((sOf true A B)).pn, .int .u64 ((sOf true A B)).off, .int .u64 ((sOf true A B)).len, .int .u64 ((sOf true A B)).nonce, .int .u64 ((sOf true A B)).time, .bool ((sOf true A B)).coin, .bool ((sOf true A B)).used, .int .i64 ((sOf true A B)).state] 27 52 42
    refine ⟨?_, ?_, ?_, ?_⟩
    · exact ((((blk_drewN this.1 _).other (by simp; omega) _).other (by simp; omega) _).other (by simp; omega) _).other (by simp; omega) _
    · exact ((((blk_drewN this.2.1 _).other (by simp) _).other (by simp) _).other (by simp) _).other (by simp) _
    · exact ((((blk_drewN this.2.2.1 _).set 2 _).set 1 _).set 3 _).set 4 _
    · exact ((((Base.drawn this.2.2.2 _).setCell (by simp; omega) _).setCell (by simp; omega) _).setCell (by simp; omega) _).setCell (by simp; omega) _
  clear hV hsS
  have hR8 := (h.below hL).rf
  have v00 : V.cell? ⟨w.heap.size, 1, none⟩ = some (.pointer (some ⟨b, 0, none⟩)) := T0.cell 1
  have v01 : V.cell? ⟨w.heap.size + 1, 1, none⟩ = some (.int .u64 A) := D0.cell 1
  have v02 : V.cell? ⟨w.heap.size + 1, 2, none⟩ = some (.int .u64 B) := D0.cell 2
  have CN := fun p : In (Lt V) => ref_next (hR8.below p.h)
  have z0 := fun p : In (Lt V) => inCell p v00
  have z1 := fun p : In (Lt V) => inCell p v01
  generalize hnx : (g.l.length : Int) = nx at CN
  have hn1 : 0 ≤ nx ∧ nx ≤ 1000000 := by omega
  have hpn : A.tmod (nx + 2) = pn := by rw [Int.tmod_eq_emod_of_nonneg a0, ← hpS, ← hnx]; rfl
  refine wp_region_in (Lt V) (Lt.drew V) (by kernel_rfl) (by kernel_rfl) ?_
  repeat (go_big_quiet_step ((go_at_call 9; refine in_same (v := .int .u64 nx) ?_; exact CN _)))
  refine wpQuiet_nil ?_
  rintro W ⟨⟨_, hW⟩, rfl⟩
  have hW : Below V.heap.size V W := hW
  have w02 := keepCell hW v02
  go_upto_region 10 with fail
  rw [show 1 + B % 4 = st from hqS]
  replace T0 := T0.below hW T0.lt
  replace D0 := D0.below hW D0.lt
  replace X0 := X0.below hW X0.lt
  replace hL := Base.next hL hW
  clear hR8 v00 v01 v02 z0 z1 CN hpn hnx w02 hpS hqS
  have hlt := h.lt
  have hP := h.below hL
  obtain ⟨S1, S2, P0, R0, i1, i2, dis⟩ := hP.two
  have dis' : ∀ k, S2 k → ¬ S1 k := fun k h2 h1 => dis k h1 h2
  have nT1 : ¬ S1 w.heap.size := fun e => by have := hlt _ (i1 _ e); omega
  have nT2 : ¬ S2 w.heap.size := fun e => by have := hlt _ (i2 _ e); omega
  have nX1 : ¬ S1 (w.heap.size + 1 + 1) := fun e => by have := hlt _ (i1 _ e); omega
  have d00 : W.cell? ⟨w.heap.size + 1, 0, none⟩ = some (.int .i64 5) := D0.cell 0
  have t00 : W.cell? ⟨w.heap.size, 0, none⟩ = some (.pointer (some a)) := T0.cell 0
  have t10 : W.cell? ⟨w.heap.size, 1, none⟩ = some (.pointer (some ⟨b, 0, none⟩)) := T0.cell 1
  have x00 : W.cell? ⟨w.heap.size + 1 + 1, 0, none⟩ = some (.int .u64 s.pn) := X0.cell 0
  have x10 : W.cell? ⟨w.heap.size + 1 + 1, 1, none⟩ = some (.int .u64 s.off) := X0.cell 1
  have x20 : W.cell? ⟨w.heap.size + 1 + 1, 2, none⟩ = some (.int .u64 s.len) := X0.cell 2
  have x30 : W.cell? ⟨w.heap.size + 1 + 1, 3, none⟩ = some (.int .u64 s.nonce) := X0.cell 3
  have x40 : W.cell? ⟨w.heap.size + 1 + 1, 4, none⟩ = some (.int .u64 s.time) := X0.cell 4
  have x50 : W.cell? ⟨w.heap.size + 1 + 1, 5, none⟩ = some (.bool s.coin) := X0.cell 5
  have x60 : W.cell? ⟨w.heap.size + 1 + 1, 6, none⟩ = some (.bool s.used) := X0.cell 6
  have x70 : W.cell? ⟨w.heap.size + 1 + 1, 7, none⟩ = some (.int .i64 s.state) := X0.cell 7
  go_upto_region 23 with fail
  have U0 : Below W.heap.size W W.drew := Base.drew1 (Below.refl _ _)
  have hS0 : (fun u : World => u.cell? ⟨w.heap.size, 0, none⟩ = some (.pointer (some a)) ∧ u.cell? ⟨w.heap.size, 1, none⟩ = some (.pointer (some ⟨b, 0, none⟩))) W.drew := ⟨t00, t10⟩
  refine held_start (fun u => u.cell? ⟨w.heap.size, 0, none⟩ = some (.pointer (some a)) ∧ u.cell? ⟨w.heap.size, 1, none⟩ = some (.pointer (some ⟨b, 0, none⟩))) (by kernel_rfl) ?_
  refine held_take (i := 0) (v := .pointer (some ⟨w.heap.size, 0, none⟩)) rfl (by kernel_rfl) (by kernel_rfl) (by kernel_rfl) (fun _ _ _ h => h) (by kernel_rfl) hS0 (fun _ hu => by kernel_rfl) ?_
  refine held_take (i := 1) (v := .pointer (some a)) rfl (by kernel_rfl) (by kernel_rfl) (by kernel_rfl) (fun _ _ _ h => h) (by kernel_rfl) hS0 (fun _ hu => ld_led (.tmp 136) rfl (by kernel_rfl) hu.1) ?_
  refine held_take (i := 2) (v := .int .u64 pn) rfl (by kernel_rfl) (by kernel_rfl) (by kernel_rfl) (fun _ _ _ h => h) (by kernel_rfl) hS0 (fun _ hu => by kernel_rfl) ?_
  refine held_take (i := 3) (v := .int .i64 st) rfl (by kernel_rfl) (by kernel_rfl) (by kernel_rfl) (fun _ _ _ h => h) (by kernel_rfl) hS0 (fun _ hu => by kernel_rfl) ?_
  refine held_take (i := 5) (v := .pointer (some ⟨w.heap.size, 1, none⟩)) rfl (by kernel_rfl) (by kernel_rfl) (by kernel_rfl) (fun _ _ _ h => h) (by kernel_rfl) hS0 (fun _ hu => by kernel_rfl) ?_
  refine held_take (i := 6) (v := .pointer (some ⟨b, 0, none⟩)) rfl (by kernel_rfl) (by kernel_rfl) (by kernel_rfl) (fun _ _ _ h => h) (by kernel_rfl) hS0 (fun _ hu => ld_ref (.tmp 141) rfl (by kernel_rfl) hu.2) ?_
  refine held_take (i := 7) (v := .int .u64 pn) rfl (by kernel_rfl) (by kernel_rfl) (by kernel_rfl) (fun _ _ _ h => h) (by kernel_rfl) hS0 (fun _ hu => by kernel_rfl) ?_
  refine held_take (i := 8) (v := .int .i64 st) rfl (by kernel_rfl) (by kernel_rfl) (by kernel_rfl) (fun _ _ _ h => h) (by kernel_rfl) hS0 (fun _ hu => by kernel_rfl) ?_
  refine held_call (i := 4) (f := 41) (args := #[.pointer (some a), .int .u64 pn, .int .i64 st]) rfl (by kernel_rfl) (by kernel_rfl) (enter3 (.tmp 137) (.tmp 138) (.tmp 139) _ rfl (by kernel_rfl) (by kernel_rfl) (by kernel_rfl) (by kernel_rfl) (by rfl)) ?_
  refine (settle_any (P0.kept (Fr.of_below (S := fun _ => False) U0) (fun _ _ h => h)) pn st p0 p1 q0 q1).mono ?_
  rintro e w1 ⟨rfl, P1, F1⟩
  replace F1 := F1.undrew
  have T1 := T0.kept F1 nT1
  have t01 : w1.cell? ⟨w.heap.size, 0, none⟩ = some (.pointer (some a)) := T1.cell 0
  have t11 : w1.cell? ⟨w.heap.size, 1, none⟩ = some (.pointer (some ⟨b, 0, none⟩)) := T1.cell 1
  have R1 := R0.kept F1 dis'
  refine ⟨_, rfl, ⟨t01, t11⟩, ?_⟩
  refine held_call (i := 9) (f := 42) (args := #[.pointer (some ⟨b, 0, none⟩), .int .u64 pn, .int .i64 st]) rfl (by kernel_rfl) (by kernel_rfl) (enter3 (.tmp 142) (.tmp 143) (.tmp 144) _ rfl (by kernel_rfl) (by kernel_rfl) (by kernel_rfl) (by kernel_rfl) (by rfl)) ?_
  refine (ref_settle R1 pn st p0 p1).mono ?_
  rintro e w2 ⟨rfl, R2', F2⟩
  have R2 := R2'.plus (w1 := w1) (w2 := w2)
  have T2 := T1.kept F2 nT2
  have t02 : w2.cell? ⟨w.heap.size, 0, none⟩ = some (.pointer (some a)) := T2.cell 0
  have t12 : w2.cell? ⟨w.heap.size, 1, none⟩ = some (.pointer (some ⟨b, 0, none⟩)) := T2.cell 1
  refine ⟨_, rfl, ⟨t02, t12⟩, ?_⟩
  refine held_take (i := 10) (v := .bool true) rfl (by kernel_rfl) (by kernel_rfl) (by kernel_rfl) (fun _ _ _ h => h) (by kernel_rfl) ⟨t02, t12⟩ (fun _ hu => eq_bool (c := settleB g pn st) (.tmp 140) (.tmp 145) rfl (by kernel_rfl) (by kernel_rfl)) ?_
  refine held_take (i := 11) (v := .bool true) rfl (by kernel_rfl) (by kernel_rfl) (by kernel_rfl) (fun _ _ _ h => h) (by kernel_rfl) ⟨t02, t12⟩ (fun _ hu => by kernel_rfl) ?_
  refine held_end 6 (.bool true) (by kernel_rfl) (by kernel_rfl) (by kernel_rfl) fun a' hd hv => ?_
  go_wp2
  refine bodyPost_ret (results_tmp rfl _ _ _) hd ?_
  rw [hv]
  exact ⟨rfl, pair_join hlt hL.size i1 i2 dis F1 F2 P1 R2 hL⟩
set_option maxHeartbeats 1000000 in
theorem two_do_raw_6 {S : Nat → Prop} {w : World} {a : Addr} {b : Nat} {g : Lg} (h : Pair S w a b g) (hn : g.l.length ≤ 1000000) (A B : Int) (a0 : 0 ≤ A) (a1 : A ≤ 18446744073709551615) (b0 : 0 ≤ B) (b1 : B ≤ 18446744073709551615) :
    Calls Try.prog 19 #[.agg #[.pointer (some a), .pointer (some ⟨b, 0, none⟩)], .agg #[.int .i64 6, .int .u64 A, .int .u64 B], .bool true] w fun e w' => e = .returned (.bool true) ∧ Pair (Plus S w w') w' a b (settleG g (pnOf g true A) (stOf true B)) ∧ Fr S w w' := by
  have hs := sOf_words true a0 a1 b0 b1
  obtain ⟨p0, p1⟩ := pnOf_bd g hn true a0 a1
  obtain ⟨q0, q1⟩ := stOf_bd true B
  generalize hsS : sOf true A B = s at *
  generalize hpS : pnOf g true A = pn at *
  generalize hqS : stOf true B = st at *
  go_enter Try.func19, Try.ntmps19
  go_upto_region 2 with fail
  go_quiet (fail)
  go_upto_region 10 with fail
  refine at_world ?_
  intro W hW
  obtain ⟨T0, D0, X0, hL⟩ : Blk W w.heap.size #[.pointer (some a), .pointer (some ⟨b, 0, none⟩)] 27 ∧ Blk W (w.heap.size + 1) #[.int .i64 6, .int .u64 A, .int .u64 B] 52 ∧ Blk W (w.heap.size + 1 + 1) #[.int .u64 s.pn, .int .u64 s.off, .int .u64 s.len, .int .u64 s.nonce, .int .u64 s.time, .bool s.coin, .bool s.used, .int .i64 s.state] 42 ∧ Below w.heap.size w W := by
    subst hW
    subst hsS
    have := laid3 w #[.pointer (some a), .pointer (some ⟨b, 0, none⟩)] #[.int .i64 6, .int .u64 A, .int .u64 B] #[.int .u64 ((sOf true A B)).pn, .int .u64 ((sOf true A B)).off, .int .u64 ((sOf true A B)).len, .int .u64 ((sOf true A B)).nonce, .int .u64 ((sOf true A B)).time, .bool ((sOf true A B)).coin, .bool ((sOf true A B)).used, .int .i64 ((sOf true A B)).state] 27 52 42
    exact ⟨this.1, this.2.1, this.2.2.1, Base.drawn this.2.2.2 _⟩
  clear hW hsS
  obtain rfl : A = pn := hpS
  obtain rfl : wrap64 B = st := hqS
  have hlt := h.lt
  have hP := h.below hL
  obtain ⟨S1, S2, P0, R0, i1, i2, dis⟩ := hP.two
  have dis' : ∀ k, S2 k → ¬ S1 k := fun k h2 h1 => dis k h1 h2
  have nT1 : ¬ S1 w.heap.size := fun e => by have := hlt _ (i1 _ e); omega
  have nT2 : ¬ S2 w.heap.size := fun e => by have := hlt _ (i2 _ e); omega
  have nX1 : ¬ S1 (w.heap.size + 1 + 1) := fun e => by have := hlt _ (i1 _ e); omega
  have d00 : W.cell? ⟨w.heap.size + 1, 0, none⟩ = some (.int .i64 6) := D0.cell 0
  have t00 : W.cell? ⟨w.heap.size, 0, none⟩ = some (.pointer (some a)) := T0.cell 0
  have t10 : W.cell? ⟨w.heap.size, 1, none⟩ = some (.pointer (some ⟨b, 0, none⟩)) := T0.cell 1
  have x00 : W.cell? ⟨w.heap.size + 1 + 1, 0, none⟩ = some (.int .u64 s.pn) := X0.cell 0
  have x10 : W.cell? ⟨w.heap.size + 1 + 1, 1, none⟩ = some (.int .u64 s.off) := X0.cell 1
  have x20 : W.cell? ⟨w.heap.size + 1 + 1, 2, none⟩ = some (.int .u64 s.len) := X0.cell 2
  have x30 : W.cell? ⟨w.heap.size + 1 + 1, 3, none⟩ = some (.int .u64 s.nonce) := X0.cell 3
  have x40 : W.cell? ⟨w.heap.size + 1 + 1, 4, none⟩ = some (.int .u64 s.time) := X0.cell 4
  have x50 : W.cell? ⟨w.heap.size + 1 + 1, 5, none⟩ = some (.bool s.coin) := X0.cell 5
  have x60 : W.cell? ⟨w.heap.size + 1 + 1, 6, none⟩ = some (.bool s.used) := X0.cell 6
  have x70 : W.cell? ⟨w.heap.size + 1 + 1, 7, none⟩ = some (.int .i64 s.state) := X0.cell 7
  go_upto_region 23 with fail
  have U0 : Below W.heap.size W W.drew := Base.drew1 (Below.refl _ _)
  have hS0 : (fun u : World => u.cell? ⟨w.heap.size, 0, none⟩ = some (.pointer (some a)) ∧ u.cell? ⟨w.heap.size, 1, none⟩ = some (.pointer (some ⟨b, 0, none⟩))) W.drew := ⟨t00, t10⟩
  refine held_start (fun u => u.cell? ⟨w.heap.size, 0, none⟩ = some (.pointer (some a)) ∧ u.cell? ⟨w.heap.size, 1, none⟩ = some (.pointer (some ⟨b, 0, none⟩))) (by kernel_rfl) ?_
  refine held_take (i := 0) (v := .pointer (some ⟨w.heap.size, 0, none⟩)) rfl (by kernel_rfl) (by kernel_rfl) (by kernel_rfl) (fun _ _ _ h => h) (by kernel_rfl) hS0 (fun _ hu => by kernel_rfl) ?_
  refine held_take (i := 1) (v := .pointer (some a)) rfl (by kernel_rfl) (by kernel_rfl) (by kernel_rfl) (fun _ _ _ h => h) (by kernel_rfl) hS0 (fun _ hu => ld_led (.tmp 136) rfl (by kernel_rfl) hu.1) ?_
  refine held_take (i := 2) (v := .int .u64 A) rfl (by kernel_rfl) (by kernel_rfl) (by kernel_rfl) (fun _ _ _ h => h) (by kernel_rfl) hS0 (fun _ hu => by kernel_rfl) ?_
  refine held_take (i := 3) (v := .int .i64 (wrap64 B)) rfl (by kernel_rfl) (by kernel_rfl) (by kernel_rfl) (fun _ _ _ h => h) (by kernel_rfl) hS0 (fun _ hu => by kernel_rfl) ?_
  refine held_take (i := 5) (v := .pointer (some ⟨w.heap.size, 1, none⟩)) rfl (by kernel_rfl) (by kernel_rfl) (by kernel_rfl) (fun _ _ _ h => h) (by kernel_rfl) hS0 (fun _ hu => by kernel_rfl) ?_
  refine held_take (i := 6) (v := .pointer (some ⟨b, 0, none⟩)) rfl (by kernel_rfl) (by kernel_rfl) (by kernel_rfl) (fun _ _ _ h => h) (by kernel_rfl) hS0 (fun _ hu => ld_ref (.tmp 141) rfl (by kernel_rfl) hu.2) ?_
  refine held_take (i := 7) (v := .int .u64 A) rfl (by kernel_rfl) (by kernel_rfl) (by kernel_rfl) (fun _ _ _ h => h) (by kernel_rfl) hS0 (fun _ hu => by kernel_rfl) ?_
  refine held_take (i := 8) (v := .int .i64 (wrap64 B)) rfl (by kernel_rfl) (by kernel_rfl) (by kernel_rfl) (fun _ _ _ h => h) (by kernel_rfl) hS0 (fun _ hu => by kernel_rfl) ?_
  refine held_call (i := 4) (f := 41) (args := #[.pointer (some a), .int .u64 A, .int .i64 (wrap64 B)]) rfl (by kernel_rfl) (by kernel_rfl) (enter3 (.tmp 137) (.tmp 138) (.tmp 139) _ rfl (by kernel_rfl) (by kernel_rfl) (by kernel_rfl) (by kernel_rfl) (by rfl)) ?_
  refine (settle_any (P0.kept (Fr.of_below (S := fun _ => False) U0) (fun _ _ h => h)) A (wrap64 B) p0 p1 q0 q1).mono ?_
  rintro e w1 ⟨rfl, P1, F1⟩
  replace F1 := F1.undrew
  have T1 := T0.kept F1 nT1
  have t01 : w1.cell? ⟨w.heap.size, 0, none⟩ = some (.pointer (some a)) := T1.cell 0
  have t11 : w1.cell? ⟨w.heap.size, 1, none⟩ = some (.pointer (some ⟨b, 0, none⟩)) := T1.cell 1
  have R1 := R0.kept F1 dis'
  refine ⟨_, rfl, ⟨t01, t11⟩, ?_⟩
  refine held_call (i := 9) (f := 42) (args := #[.pointer (some ⟨b, 0, none⟩), .int .u64 A, .int .i64 (wrap64 B)]) rfl (by kernel_rfl) (by kernel_rfl) (enter3 (.tmp 142) (.tmp 143) (.tmp 144) _ rfl (by kernel_rfl) (by kernel_rfl) (by kernel_rfl) (by kernel_rfl) (by rfl)) ?_
  refine (ref_settle R1 A (wrap64 B) p0 p1).mono ?_
  rintro e w2 ⟨rfl, R2', F2⟩
  have R2 := R2'.plus (w1 := w1) (w2 := w2)
  have T2 := T1.kept F2 nT2
  have t02 : w2.cell? ⟨w.heap.size, 0, none⟩ = some (.pointer (some a)) := T2.cell 0
  have t12 : w2.cell? ⟨w.heap.size, 1, none⟩ = some (.pointer (some ⟨b, 0, none⟩)) := T2.cell 1
  refine ⟨_, rfl, ⟨t02, t12⟩, ?_⟩
  refine held_take (i := 10) (v := .bool true) rfl (by kernel_rfl) (by kernel_rfl) (by kernel_rfl) (fun _ _ _ h => h) (by kernel_rfl) ⟨t02, t12⟩ (fun _ hu => eq_bool (c := settleB g A (wrap64 B)) (.tmp 140) (.tmp 145) rfl (by kernel_rfl) (by kernel_rfl)) ?_
  refine held_take (i := 11) (v := .bool true) rfl (by kernel_rfl) (by kernel_rfl) (by kernel_rfl) (fun _ _ _ h => h) (by kernel_rfl) ⟨t02, t12⟩ (fun _ hu => by kernel_rfl) ?_
  refine held_end 6 (.bool true) (by kernel_rfl) (by kernel_rfl) (by kernel_rfl) fun a' hd hv => ?_
  go_wp2
  refine bodyPost_ret (results_tmp rfl _ _ _) hd ?_
  rw [hv]
  exact ⟨rfl, pair_join hlt hL.size i1 i2 dis F1 F2 P1 R2 hL⟩
set_option maxHeartbeats 1000000 in
theorem two_do_fit_6 {S : Nat → Prop} {w : World} {a : Addr} {b : Nat} {g : Lg} (h : Pair S w a b g) (hn : g.l.length ≤ 1000000) (A B : Int) (a0 : 0 ≤ A) (a1 : A ≤ 18446744073709551615) (b0 : 0 ≤ B) (b1 : B ≤ 18446744073709551615) :
    Calls Try.prog 19 #[.agg #[.pointer (some a), .pointer (some ⟨b, 0, none⟩)], .agg #[.int .i64 6, .int .u64 A, .int .u64 B], .bool false] w fun e w' => e = .returned (.bool true) ∧ Pair (Plus S w w') w' a b (settleG g (pnOf g false A) (stOf false B)) ∧ Fr S w w' := by
  have hs := sOf_words false a0 a1 b0 b1
  obtain ⟨p0, p1⟩ := pnOf_bd g hn false a0 a1
  obtain ⟨q0, q1⟩ := stOf_bd false B
  generalize hsS : sOf false A B = s at *
  generalize hpS : pnOf g false A = pn at *
  generalize hqS : stOf false B = st at *
  go_enter Try.func19, Try.ntmps19
  go_upto_region 2 with fail
  go_quiet (fail)
  go_upto_region 8 with fail
  refine at_world ?_
  intro V hV
  obtain ⟨T0, D0, X0, hL⟩ : Blk V w.heap.size #[.pointer (some a), .pointer (some ⟨b, 0, none⟩)] 27 ∧ Blk V (w.heap.size + 1) #[.int .i64 6, .int .u64 A, .int .u64 B] 52 ∧ Blk V (w.heap.size + 1 + 1) #[.int .u64 s.pn, .int .u64 s.off, .int .u64 s.len, .int .u64 s.nonce, .int .u64 s.time, .bool s.coin, .bool s.used, .int .i64 s.state] 42 ∧ Below w.heap.size w V := by
    subst hV
    subst hsS
    have := laid3 w #[.pointer (some a), .pointer (some ⟨b, 0, none⟩)] #[.int .i64 6, .int .u64 A, .int .u64 B] #[.int .u64 ((sOf true A B)).pn, .int .u64 ((sOf true A B)).off, .int .u64 ((sOf true A B)).len, .int .u64 ((sOf true A B)).nonce, .int .u64 ((sOf true A B)).time, .bool ((sOf true A B)).coin, .bool ((sOf true A B)).used, .int .i64 ((sOf true A B)).state] 27 52 42
    refine ⟨?_, ?_, ?_, ?_⟩
    · exact ((((blk_drewN this.1 _).other (by simp; omega) _).other (by simp; omega) _).other (by simp; omega) _).other (by simp; omega) _
    · exact ((((blk_drewN this.2.1 _).other (by simp) _).other (by simp) _).other (by simp) _).other (by simp) _
    · exact ((((blk_drewN this.2.2.1 _).set 2 _).set 1 _).set 3 _).set 4 _
    · exact ((((Base.drawn this.2.2.2 _).setCell (by simp; omega) _).setCell (by simp; omega) _).setCell (by simp; omega) _).setCell (by simp; omega) _
  clear hV hsS
  have hR8 := (h.below hL).rf
  have v00 : V.cell? ⟨w.heap.size, 1, none⟩ = some (.pointer (some ⟨b, 0, none⟩)) := T0.cell 1
  have v01 : V.cell? ⟨w.heap.size + 1, 1, none⟩ = some (.int .u64 A) := D0.cell 1
  have v02 : V.cell? ⟨w.heap.size + 1, 2, none⟩ = some (.int .u64 B) := D0.cell 2
  have CN := fun p : In (Lt V) => ref_next (hR8.below p.h)
  have z0 := fun p : In (Lt V) => inCell p v00
  have z1 := fun p : In (Lt V) => inCell p v01
  generalize hnx : (g.l.length : Int) = nx at CN
  have hn1 : 0 ≤ nx ∧ nx ≤ 1000000 := by omega
  have hpn : A.tmod (nx + 2) = pn := by rw [Int.tmod_eq_emod_of_nonneg a0, ← hpS, ← hnx]; rfl
  refine wp_region_in (Lt V) (Lt.drew V) (by kernel_rfl) (by kernel_rfl) ?_
  repeat (go_big_quiet_step ((go_at_call 9; refine in_same (v := .int .u64 nx) ?_; exact CN _)))
  refine wpQuiet_nil ?_
  rintro W ⟨⟨_, hW⟩, rfl⟩
  have hW : Below V.heap.size V W := hW
  have w02 := keepCell hW v02
  go_upto_region 10 with fail
  rw [show 1 + B % 4 = st from hqS]
  replace T0 := T0.below hW T0.lt
  replace D0 := D0.below hW D0.lt
  replace X0 := X0.below hW X0.lt
  replace hL := Base.next hL hW
  clear hR8 v00 v01 v02 z0 z1 CN hpn hnx w02 hpS hqS
  have hlt := h.lt
  have hP := h.below hL
  obtain ⟨S1, S2, P0, R0, i1, i2, dis⟩ := hP.two
  have dis' : ∀ k, S2 k → ¬ S1 k := fun k h2 h1 => dis k h1 h2
  have nT1 : ¬ S1 w.heap.size := fun e => by have := hlt _ (i1 _ e); omega
  have nT2 : ¬ S2 w.heap.size := fun e => by have := hlt _ (i2 _ e); omega
  have nX1 : ¬ S1 (w.heap.size + 1 + 1) := fun e => by have := hlt _ (i1 _ e); omega
  have d00 : W.cell? ⟨w.heap.size + 1, 0, none⟩ = some (.int .i64 6) := D0.cell 0
  have t00 : W.cell? ⟨w.heap.size, 0, none⟩ = some (.pointer (some a)) := T0.cell 0
  have t10 : W.cell? ⟨w.heap.size, 1, none⟩ = some (.pointer (some ⟨b, 0, none⟩)) := T0.cell 1
  have x00 : W.cell? ⟨w.heap.size + 1 + 1, 0, none⟩ = some (.int .u64 s.pn) := X0.cell 0
  have x10 : W.cell? ⟨w.heap.size + 1 + 1, 1, none⟩ = some (.int .u64 s.off) := X0.cell 1
  have x20 : W.cell? ⟨w.heap.size + 1 + 1, 2, none⟩ = some (.int .u64 s.len) := X0.cell 2
  have x30 : W.cell? ⟨w.heap.size + 1 + 1, 3, none⟩ = some (.int .u64 s.nonce) := X0.cell 3
  have x40 : W.cell? ⟨w.heap.size + 1 + 1, 4, none⟩ = some (.int .u64 s.time) := X0.cell 4
  have x50 : W.cell? ⟨w.heap.size + 1 + 1, 5, none⟩ = some (.bool s.coin) := X0.cell 5
  have x60 : W.cell? ⟨w.heap.size + 1 + 1, 6, none⟩ = some (.bool s.used) := X0.cell 6
  have x70 : W.cell? ⟨w.heap.size + 1 + 1, 7, none⟩ = some (.int .i64 s.state) := X0.cell 7
  go_upto_region 23 with fail
  have U0 : Below W.heap.size W W.drew := Base.drew1 (Below.refl _ _)
  have hS0 : (fun u : World => u.cell? ⟨w.heap.size, 0, none⟩ = some (.pointer (some a)) ∧ u.cell? ⟨w.heap.size, 1, none⟩ = some (.pointer (some ⟨b, 0, none⟩))) W.drew := ⟨t00, t10⟩
  refine held_start (fun u => u.cell? ⟨w.heap.size, 0, none⟩ = some (.pointer (some a)) ∧ u.cell? ⟨w.heap.size, 1, none⟩ = some (.pointer (some ⟨b, 0, none⟩))) (by kernel_rfl) ?_
  refine held_take (i := 0) (v := .pointer (some ⟨w.heap.size, 0, none⟩)) rfl (by kernel_rfl) (by kernel_rfl) (by kernel_rfl) (fun _ _ _ h => h) (by kernel_rfl) hS0 (fun _ hu => by kernel_rfl) ?_
  refine held_take (i := 1) (v := .pointer (some a)) rfl (by kernel_rfl) (by kernel_rfl) (by kernel_rfl) (fun _ _ _ h => h) (by kernel_rfl) hS0 (fun _ hu => ld_led (.tmp 136) rfl (by kernel_rfl) hu.1) ?_
  refine held_take (i := 2) (v := .int .u64 pn) rfl (by kernel_rfl) (by kernel_rfl) (by kernel_rfl) (fun _ _ _ h => h) (by kernel_rfl) hS0 (fun _ hu => by kernel_rfl) ?_
  refine held_take (i := 3) (v := .int .i64 st) rfl (by kernel_rfl) (by kernel_rfl) (by kernel_rfl) (fun _ _ _ h => h) (by kernel_rfl) hS0 (fun _ hu => by kernel_rfl) ?_
  refine held_take (i := 5) (v := .pointer (some ⟨w.heap.size, 1, none⟩)) rfl (by kernel_rfl) (by kernel_rfl) (by kernel_rfl) (fun _ _ _ h => h) (by kernel_rfl) hS0 (fun _ hu => by kernel_rfl) ?_
  refine held_take (i := 6) (v := .pointer (some ⟨b, 0, none⟩)) rfl (by kernel_rfl) (by kernel_rfl) (by kernel_rfl) (fun _ _ _ h => h) (by kernel_rfl) hS0 (fun _ hu => ld_ref (.tmp 141) rfl (by kernel_rfl) hu.2) ?_
  refine held_take (i := 7) (v := .int .u64 pn) rfl (by kernel_rfl) (by kernel_rfl) (by kernel_rfl) (fun _ _ _ h => h) (by kernel_rfl) hS0 (fun _ hu => by kernel_rfl) ?_
  refine held_take (i := 8) (v := .int .i64 st) rfl (by kernel_rfl) (by kernel_rfl) (by kernel_rfl) (fun _ _ _ h => h) (by kernel_rfl) hS0 (fun _ hu => by kernel_rfl) ?_
  refine held_call (i := 4) (f := 41) (args := #[.pointer (some a), .int .u64 pn, .int .i64 st]) rfl (by kernel_rfl) (by kernel_rfl) (enter3 (.tmp 137) (.tmp 138) (.tmp 139) _ rfl (by kernel_rfl) (by kernel_rfl) (by kernel_rfl) (by kernel_rfl) (by rfl)) ?_
  refine (settle_any (P0.kept (Fr.of_below (S := fun _ => False) U0) (fun _ _ h => h)) pn st p0 p1 q0 q1).mono ?_
  rintro e w1 ⟨rfl, P1, F1⟩
  replace F1 := F1.undrew
  have T1 := T0.kept F1 nT1
  have t01 : w1.cell? ⟨w.heap.size, 0, none⟩ = some (.pointer (some a)) := T1.cell 0
  have t11 : w1.cell? ⟨w.heap.size, 1, none⟩ = some (.pointer (some ⟨b, 0, none⟩)) := T1.cell 1
  have R1 := R0.kept F1 dis'
  refine ⟨_, rfl, ⟨t01, t11⟩, ?_⟩
  refine held_call (i := 9) (f := 42) (args := #[.pointer (some ⟨b, 0, none⟩), .int .u64 pn, .int .i64 st]) rfl (by kernel_rfl) (by kernel_rfl) (enter3 (.tmp 142) (.tmp 143) (.tmp 144) _ rfl (by kernel_rfl) (by kernel_rfl) (by kernel_rfl) (by kernel_rfl) (by rfl)) ?_
  refine (ref_settle R1 pn st p0 p1).mono ?_
  rintro e w2 ⟨rfl, R2', F2⟩
  have R2 := R2'.plus (w1 := w1) (w2 := w2)
  have T2 := T1.kept F2 nT2
  have t02 : w2.cell? ⟨w.heap.size, 0, none⟩ = some (.pointer (some a)) := T2.cell 0
  have t12 : w2.cell? ⟨w.heap.size, 1, none⟩ = some (.pointer (some ⟨b, 0, none⟩)) := T2.cell 1
  refine ⟨_, rfl, ⟨t02, t12⟩, ?_⟩
  refine held_take (i := 10) (v := .bool true) rfl (by kernel_rfl) (by kernel_rfl) (by kernel_rfl) (fun _ _ _ h => h) (by kernel_rfl) ⟨t02, t12⟩ (fun _ hu => eq_bool (c := settleB g pn st) (.tmp 140) (.tmp 145) rfl (by kernel_rfl) (by kernel_rfl)) ?_
  refine held_take (i := 11) (v := .bool true) rfl (by kernel_rfl) (by kernel_rfl) (by kernel_rfl) (fun _ _ _ h => h) (by kernel_rfl) ⟨t02, t12⟩ (fun _ hu => by kernel_rfl) ?_
  refine held_end 6 (.bool true) (by kernel_rfl) (by kernel_rfl) (by kernel_rfl) fun a' hd hv => ?_
  go_wp2
  refine bodyPost_ret (results_tmp rfl _ _ _) hd ?_
  rw [hv]
  exact ⟨rfl, pair_join hlt hL.size i1 i2 dis F1 F2 P1 R2 hL⟩
set_option maxHeartbeats 1000000 in
theorem two_do_raw_7 {S : Nat → Prop} {w : World} {a : Addr} {b : Nat} {g : Lg} (h : Pair S w a b g) (hn : g.l.length ≤ 1000000) (A B : Int) (a0 : 0 ≤ A) (a1 : A ≤ 18446744073709551615) (b0 : 0 ≤ B) (b1 : B ≤ 18446744073709551615) :
    Calls Try.prog 19 #[.agg #[.pointer (some a), .pointer (some ⟨b, 0, none⟩)], .agg #[.int .i64 7, .int .u64 A, .int .u64 B], .bool true] w fun e w' => e = .returned (.bool true) ∧ Pair (Plus S w w') w' a b (useG g (pnOf g true A)) ∧ Fr S w w' := by
  have hs := sOf_words true a0 a1 b0 b1
  obtain ⟨p0, p1⟩ := pnOf_bd g hn true a0 a1
  obtain ⟨q0, q1⟩ := stOf_bd true B
  generalize hsS : sOf true A B = s at *
  generalize hpS : pnOf g true A = pn at *
  generalize hqS : stOf true B = st at *
  go_enter Try.func19, Try.ntmps19
  go_upto_region 2 with fail
  go_quiet (fail)
  go_upto_region 10 with fail
  refine at_world ?_
  intro W hW
  obtain ⟨T0, D0, X0, hL⟩ : Blk W w.heap.size #[.pointer (some a), .pointer (some ⟨b, 0, none⟩)] 27 ∧ Blk W (w.heap.size + 1) #[.int .i64 7, .int .u64 A, .int .u64 B] 52 ∧ Blk W (w.heap.size + 1 + 1) #[.int .u64 s.pn, .int .u64 s.off, .int .u64 s.len, .int .u64 s.nonce, .int .u64 s.time, .bool s.coin, .bool s.used, .int .i64 s.state] 42 ∧ Below w.heap.size w W := by
    subst hW
    subst hsS
    have := laid3 w #[.pointer (some a), .pointer (some ⟨b, 0, none⟩)] #[.int .i64 7, .int .u64 A, .int .u64 B] #[.int .u64 ((sOf true A B)).pn, .int .u64 ((sOf true A B)).off, .int .u64 ((sOf true A B)).len, .int .u64 ((sOf true A B)).nonce, .int .u64 ((sOf true A B)).time, .bool ((sOf true A B)).coin, .bool ((sOf true A B)).used, .int .i64 ((sOf true A B)).state] 27 52 42
    exact ⟨this.1, this.2.1, this.2.2.1, Base.drawn this.2.2.2 _⟩
  clear hW hsS
  obtain rfl : A = pn := hpS
  obtain rfl : wrap64 B = st := hqS
  have hlt := h.lt
  have hP := h.below hL
  obtain ⟨S1, S2, P0, R0, i1, i2, dis⟩ := hP.two
  have dis' : ∀ k, S2 k → ¬ S1 k := fun k h2 h1 => dis k h1 h2
  have nT1 : ¬ S1 w.heap.size := fun e => by have := hlt _ (i1 _ e); omega
  have nT2 : ¬ S2 w.heap.size := fun e => by have := hlt _ (i2 _ e); omega
  have nX1 : ¬ S1 (w.heap.size + 1 + 1) := fun e => by have := hlt _ (i1 _ e); omega
  have d00 : W.cell? ⟨w.heap.size + 1, 0, none⟩ = some (.int .i64 7) := D0.cell 0
  have t00 : W.cell? ⟨w.heap.size, 0, none⟩ = some (.pointer (some a)) := T0.cell 0
  have t10 : W.cell? ⟨w.heap.size, 1, none⟩ = some (.pointer (some ⟨b, 0, none⟩)) := T0.cell 1
  have x00 : W.cell? ⟨w.heap.size + 1 + 1, 0, none⟩ = some (.int .u64 s.pn) := X0.cell 0
  have x10 : W.cell? ⟨w.heap.size + 1 + 1, 1, none⟩ = some (.int .u64 s.off) := X0.cell 1
  have x20 : W.cell? ⟨w.heap.size + 1 + 1, 2, none⟩ = some (.int .u64 s.len) := X0.cell 2
  have x30 : W.cell? ⟨w.heap.size + 1 + 1, 3, none⟩ = some (.int .u64 s.nonce) := X0.cell 3
  have x40 : W.cell? ⟨w.heap.size + 1 + 1, 4, none⟩ = some (.int .u64 s.time) := X0.cell 4
  have x50 : W.cell? ⟨w.heap.size + 1 + 1, 5, none⟩ = some (.bool s.coin) := X0.cell 5
  have x60 : W.cell? ⟨w.heap.size + 1 + 1, 6, none⟩ = some (.bool s.used) := X0.cell 6
  have x70 : W.cell? ⟨w.heap.size + 1 + 1, 7, none⟩ = some (.int .i64 s.state) := X0.cell 7
  go_upto_region 25 with fail
  have U0 : Below W.heap.size W W.drew := Base.drew1 (Below.refl _ _)
  have hS0 : (fun u : World => u.cell? ⟨w.heap.size, 0, none⟩ = some (.pointer (some a)) ∧ u.cell? ⟨w.heap.size, 1, none⟩ = some (.pointer (some ⟨b, 0, none⟩))) W.drew := ⟨t00, t10⟩
  refine held_start (fun u => u.cell? ⟨w.heap.size, 0, none⟩ = some (.pointer (some a)) ∧ u.cell? ⟨w.heap.size, 1, none⟩ = some (.pointer (some ⟨b, 0, none⟩))) (by kernel_rfl) ?_
  refine held_take (i := 0) (v := .pointer (some ⟨w.heap.size, 0, none⟩)) rfl (by kernel_rfl) (by kernel_rfl) (by kernel_rfl) (fun _ _ _ h => h) (by kernel_rfl) hS0 (fun _ hu => by kernel_rfl) ?_
  refine held_take (i := 1) (v := .pointer (some a)) rfl (by kernel_rfl) (by kernel_rfl) (by kernel_rfl) (fun _ _ _ h => h) (by kernel_rfl) hS0 (fun _ hu => ld_led (.tmp 149) rfl (by kernel_rfl) hu.1) ?_
  refine held_take (i := 2) (v := .int .u64 A) rfl (by kernel_rfl) (by kernel_rfl) (by kernel_rfl) (fun _ _ _ h => h) (by kernel_rfl) hS0 (fun _ hu => by kernel_rfl) ?_
  refine held_take (i := 4) (v := .pointer (some ⟨w.heap.size, 1, none⟩)) rfl (by kernel_rfl) (by kernel_rfl) (by kernel_rfl) (fun _ _ _ h => h) (by kernel_rfl) hS0 (fun _ hu => by kernel_rfl) ?_
  refine held_take (i := 5) (v := .pointer (some ⟨b, 0, none⟩)) rfl (by kernel_rfl) (by kernel_rfl) (by kernel_rfl) (fun _ _ _ h => h) (by kernel_rfl) hS0 (fun _ hu => ld_ref (.tmp 153) rfl (by kernel_rfl) hu.2) ?_
  refine held_take (i := 6) (v := .int .u64 A) rfl (by kernel_rfl) (by kernel_rfl) (by kernel_rfl) (fun _ _ _ h => h) (by kernel_rfl) hS0 (fun _ hu => by kernel_rfl) ?_
  refine held_call (i := 3) (f := 43) (args := #[.pointer (some a), .int .u64 A]) rfl (by kernel_rfl) (by kernel_rfl) (enter2 (.tmp 150) (.tmp 151) _ rfl (by kernel_rfl) (by kernel_rfl) (by kernel_rfl) (by rfl)) ?_
  refine (use_any (P0.kept (Fr.of_below (S := fun _ => False) U0) (fun _ _ h => h)) A p0 p1).mono ?_
  rintro e w1 ⟨rfl, P1, F1⟩
  replace F1 := F1.undrew
  have T1 := T0.kept F1 nT1
  have t01 : w1.cell? ⟨w.heap.size, 0, none⟩ = some (.pointer (some a)) := T1.cell 0
  have t11 : w1.cell? ⟨w.heap.size, 1, none⟩ = some (.pointer (some ⟨b, 0, none⟩)) := T1.cell 1
  have R1 := R0.kept F1 dis'
  refine ⟨_, rfl, ⟨t01, t11⟩, ?_⟩
  refine held_call (i := 7) (f := 44) (args := #[.pointer (some ⟨b, 0, none⟩), .int .u64 A]) rfl (by kernel_rfl) (by kernel_rfl) (enter2 (.tmp 154) (.tmp 155) _ rfl (by kernel_rfl) (by kernel_rfl) (by kernel_rfl) (by rfl)) ?_
  refine (ref_use R1 A p0 p1).mono ?_
  rintro e w2 ⟨rfl, R2', F2⟩
  have R2 := R2'.plus (w1 := w1) (w2 := w2)
  have T2 := T1.kept F2 nT2
  have t02 : w2.cell? ⟨w.heap.size, 0, none⟩ = some (.pointer (some a)) := T2.cell 0
  have t12 : w2.cell? ⟨w.heap.size, 1, none⟩ = some (.pointer (some ⟨b, 0, none⟩)) := T2.cell 1
  refine ⟨_, rfl, ⟨t02, t12⟩, ?_⟩
  refine held_take (i := 8) (v := .bool true) rfl (by kernel_rfl) (by kernel_rfl) (by kernel_rfl) (fun _ _ _ h => h) (by kernel_rfl) ⟨t02, t12⟩ (fun _ hu => eq_bool (c := useB g A) (.tmp 152) (.tmp 156) rfl (by kernel_rfl) (by kernel_rfl)) ?_
  refine held_take (i := 9) (v := .bool true) rfl (by kernel_rfl) (by kernel_rfl) (by kernel_rfl) (fun _ _ _ h => h) (by kernel_rfl) ⟨t02, t12⟩ (fun _ hu => by kernel_rfl) ?_
  refine held_end 6 (.bool true) (by kernel_rfl) (by kernel_rfl) (by kernel_rfl) fun a' hd hv => ?_
  go_wp2
  refine bodyPost_ret (results_tmp rfl _ _ _) hd ?_
  rw [hv]
  exact ⟨rfl, pair_join hlt hL.size i1 i2 dis F1 F2 P1 R2 hL⟩
set_option maxHeartbeats 1000000 in
theorem two_do_fit_7 {S : Nat → Prop} {w : World} {a : Addr} {b : Nat} {g : Lg} (h : Pair S w a b g) (hn : g.l.length ≤ 1000000) (A B : Int) (a0 : 0 ≤ A) (a1 : A ≤ 18446744073709551615) (b0 : 0 ≤ B) (b1 : B ≤ 18446744073709551615) :
    Calls Try.prog 19 #[.agg #[.pointer (some a), .pointer (some ⟨b, 0, none⟩)], .agg #[.int .i64 7, .int .u64 A, .int .u64 B], .bool false] w fun e w' => e = .returned (.bool true) ∧ Pair (Plus S w w') w' a b (useG g (pnOf g false A)) ∧ Fr S w w' := by
  have hs := sOf_words false a0 a1 b0 b1
  obtain ⟨p0, p1⟩ := pnOf_bd g hn false a0 a1
  obtain ⟨q0, q1⟩ := stOf_bd false B
  generalize hsS : sOf false A B = s at *
  generalize hpS : pnOf g false A = pn at *
  generalize hqS : stOf false B = st at *
  go_enter Try.func19, Try.ntmps19
  go_upto_region 2 with fail
  go_quiet (fail)
  go_upto_region 8 with fail
  refine at_world ?_
  intro V hV
  obtain ⟨T0, D0, X0, hL⟩ : Blk V w.heap.size #[.pointer (some a), .pointer (some ⟨b, 0, none⟩)] 27 ∧ Blk V (w.heap.size + 1) #[.int .i64 7, .int .u64 A, .int .u64 B] 52 ∧ Blk V (w.heap.size + 1 + 1) #[.int .u64 s.pn, .int .u64 s.off, .int .u64 s.len, .int .u64 s.nonce, .int .u64 s.time, .bool s.coin, .bool s.used, .int .i64 s.state] 42 ∧ Below w.heap.size w V := by
    subst hV
    subst hsS
    have := laid3 w #[.pointer (some a), .pointer (some ⟨b, 0, none⟩)] #[.int .i64 7, .int .u64 A, .int .u64 B] #[.int .u64 ((sOf true A B)).pn, .int .u64 ((sOf true A B)).off, .int .u64 ((sOf true A B)).len, .int .u64 ((sOf true A B)).nonce, .int .u64 ((sOf true A B)).time, .bool ((sOf true A B)).coin, .bool ((sOf true A B)).used, .int .i64 ((sOf true A B)).state] 27 52 42
    refine ⟨?_, ?_, ?_, ?_⟩
    · exact ((((blk_drewN this.1 _).other (by simp; omega) _).other (by simp; omega) _).other (by simp; omega) _).other (by simp; omega) _
    · exact ((((blk_drewN this.2.1 _).other (by simp) _).other (by simp) _).other (by simp) _).other (by simp) _
    · exact ((((blk_drewN this.2.2.1 _).set 2 _).set 1 _).set 3 _).set 4 _
    · exact ((((Base.drawn this.2.2.2 _).setCell (by simp; omega) _).setCell (by simp; omega) _).setCell (by simp; omega) _).setCell (by simp; omega) _
  clear hV hsS
  have hR8 := (h.below hL).rf
  have v00 : V.cell? ⟨w.heap.size, 1, none⟩ = some (.pointer (some ⟨b, 0, none⟩)) := T0.cell 1
  have v01 : V.cell? ⟨w.heap.size + 1, 1, none⟩ = some (.int .u64 A) := D0.cell 1
  have v02 : V.cell? ⟨w.heap.size + 1, 2, none⟩ = some (.int .u64 B) := D0.cell 2
  have CN := fun p : In (Lt V) => ref_next (hR8.below p.h)
  have z0 := fun p : In (Lt V) => inCell p v00
  have z1 := fun p : In (Lt V) => inCell p v01
  generalize hnx : (g.l.length : Int) = nx at CN
  have hn1 : 0 ≤ nx ∧ nx ≤ 1000000 := by omega
  have hpn : A.tmod (nx + 2) = pn := by rw [Int.tmod_eq_emod_of_nonneg a0, ← hpS, ← hnx]; rfl
  refine wp_region_in (Lt V) (Lt.drew V) (by kernel_rfl) (by kernel_rfl) ?_
  repeat (go_big_quiet_step ((go_at_call 9; refine in_same (v := .int .u64 nx) ?_; exact CN _)))
  refine wpQuiet_nil ?_
  rintro W ⟨⟨_, hW⟩, rfl⟩
  have hW : Below V.heap.size V W := hW
  have w02 := keepCell hW v02
  go_upto_region 10 with fail
  rw [show 1 + B % 4 = st from hqS]
  replace T0 := T0.below hW T0.lt
  replace D0 := D0.below hW D0.lt
  replace X0 := X0.below hW X0.lt
  replace hL := Base.next hL hW
  clear hR8 v00 v01 v02 z0 z1 CN hpn hnx w02 hpS hqS
  have hlt := h.lt
  have hP := h.below hL
  obtain ⟨S1, S2, P0, R0, i1, i2, dis⟩ := hP.two
  have dis' : ∀ k, S2 k → ¬ S1 k := fun k h2 h1 => dis k h1 h2
  have nT1 : ¬ S1 w.heap.size := fun e => by have := hlt _ (i1 _ e); omega
  have nT2 : ¬ S2 w.heap.size := fun e => by have := hlt _ (i2 _ e); omega
  have nX1 : ¬ S1 (w.heap.size + 1 + 1) := fun e => by have := hlt _ (i1 _ e); omega
  have d00 : W.cell? ⟨w.heap.size + 1, 0, none⟩ = some (.int .i64 7) := D0.cell 0
  have t00 : W.cell? ⟨w.heap.size, 0, none⟩ = some (.pointer (some a)) := T0.cell 0
  have t10 : W.cell? ⟨w.heap.size, 1, none⟩ = some (.pointer (some ⟨b, 0, none⟩)) := T0.cell 1
  have x00 : W.cell? ⟨w.heap.size + 1 + 1, 0, none⟩ = some (.int .u64 s.pn) := X0.cell 0
  have x10 : W.cell? ⟨w.heap.size + 1 + 1, 1, none⟩ = some (.int .u64 s.off) := X0.cell 1
  have x20 : W.cell? ⟨w.heap.size + 1 + 1, 2, none⟩ = some (.int .u64 s.len) := X0.cell 2
  have x30 : W.cell? ⟨w.heap.size + 1 + 1, 3, none⟩ = some (.int .u64 s.nonce) := X0.cell 3
  have x40 : W.cell? ⟨w.heap.size + 1 + 1, 4, none⟩ = some (.int .u64 s.time) := X0.cell 4
  have x50 : W.cell? ⟨w.heap.size + 1 + 1, 5, none⟩ = some (.bool s.coin) := X0.cell 5
  have x60 : W.cell? ⟨w.heap.size + 1 + 1, 6, none⟩ = some (.bool s.used) := X0.cell 6
  have x70 : W.cell? ⟨w.heap.size + 1 + 1, 7, none⟩ = some (.int .i64 s.state) := X0.cell 7
  go_upto_region 25 with fail
  have U0 : Below W.heap.size W W.drew := Base.drew1 (Below.refl _ _)
  have hS0 : (fun u : World => u.cell? ⟨w.heap.size, 0, none⟩ = some (.pointer (some a)) ∧ u.cell? ⟨w.heap.size, 1, none⟩ = some (.pointer (some ⟨b, 0, none⟩))) W.drew := ⟨t00, t10⟩
  refine held_start (fun u => u.cell? ⟨w.heap.size, 0, none⟩ = some (.pointer (some a)) ∧ u.cell? ⟨w.heap.size, 1, none⟩ = some (.pointer (some ⟨b, 0, none⟩))) (by kernel_rfl) ?_
  refine held_take (i := 0) (v := .pointer (some ⟨w.heap.size, 0, none⟩)) rfl (by kernel_rfl) (by kernel_rfl) (by kernel_rfl) (fun _ _ _ h => h) (by kernel_rfl) hS0 (fun _ hu => by kernel_rfl) ?_
  refine held_take (i := 1) (v := .pointer (some a)) rfl (by kernel_rfl) (by kernel_rfl) (by kernel_rfl) (fun _ _ _ h => h) (by kernel_rfl) hS0 (fun _ hu => ld_led (.tmp 149) rfl (by kernel_rfl) hu.1) ?_
  refine held_take (i := 2) (v := .int .u64 pn) rfl (by kernel_rfl) (by kernel_rfl) (by kernel_rfl) (fun _ _ _ h => h) (by kernel_rfl) hS0 (fun _ hu => by kernel_rfl) ?_
  refine held_take (i := 4) (v := .pointer (some ⟨w.heap.size, 1, none⟩)) rfl (by kernel_rfl) (by kernel_rfl) (by kernel_rfl) (fun _ _ _ h => h) (by kernel_rfl) hS0 (fun _ hu => by kernel_rfl) ?_
  refine held_take (i := 5) (v := .pointer (some ⟨b, 0, none⟩)) rfl (by kernel_rfl) (by kernel_rfl) (by kernel_rfl) (fun _ _ _ h => h) (by kernel_rfl) hS0 (fun _ hu => ld_ref (.tmp 153) rfl (by kernel_rfl) hu.2) ?_
  refine held_take (i := 6) (v := .int .u64 pn) rfl (by kernel_rfl) (by kernel_rfl) (by kernel_rfl) (fun _ _ _ h => h) (by kernel_rfl) hS0 (fun _ hu => by kernel_rfl) ?_
  refine held_call (i := 3) (f := 43) (args := #[.pointer (some a), .int .u64 pn]) rfl (by kernel_rfl) (by kernel_rfl) (enter2 (.tmp 150) (.tmp 151) _ rfl (by kernel_rfl) (by kernel_rfl) (by kernel_rfl) (by rfl)) ?_
  refine (use_any (P0.kept (Fr.of_below (S := fun _ => False) U0) (fun _ _ h => h)) pn p0 p1).mono ?_
  rintro e w1 ⟨rfl, P1, F1⟩
  replace F1 := F1.undrew
  have T1 := T0.kept F1 nT1
  have t01 : w1.cell? ⟨w.heap.size, 0, none⟩ = some (.pointer (some a)) := T1.cell 0
  have t11 : w1.cell? ⟨w.heap.size, 1, none⟩ = some (.pointer (some ⟨b, 0, none⟩)) := T1.cell 1
  have R1 := R0.kept F1 dis'
  refine ⟨_, rfl, ⟨t01, t11⟩, ?_⟩
  refine held_call (i := 7) (f := 44) (args := #[.pointer (some ⟨b, 0, none⟩), .int .u64 pn]) rfl (by kernel_rfl) (by kernel_rfl) (enter2 (.tmp 154) (.tmp 155) _ rfl (by kernel_rfl) (by kernel_rfl) (by kernel_rfl) (by rfl)) ?_
  refine (ref_use R1 pn p0 p1).mono ?_
  rintro e w2 ⟨rfl, R2', F2⟩
  have R2 := R2'.plus (w1 := w1) (w2 := w2)
  have T2 := T1.kept F2 nT2
  have t02 : w2.cell? ⟨w.heap.size, 0, none⟩ = some (.pointer (some a)) := T2.cell 0
  have t12 : w2.cell? ⟨w.heap.size, 1, none⟩ = some (.pointer (some ⟨b, 0, none⟩)) := T2.cell 1
  refine ⟨_, rfl, ⟨t02, t12⟩, ?_⟩
  refine held_take (i := 8) (v := .bool true) rfl (by kernel_rfl) (by kernel_rfl) (by kernel_rfl) (fun _ _ _ h => h) (by kernel_rfl) ⟨t02, t12⟩ (fun _ hu => eq_bool (c := useB g pn) (.tmp 152) (.tmp 156) rfl (by kernel_rfl) (by kernel_rfl)) ?_
  refine held_take (i := 9) (v := .bool true) rfl (by kernel_rfl) (by kernel_rfl) (by kernel_rfl) (fun _ _ _ h => h) (by kernel_rfl) ⟨t02, t12⟩ (fun _ hu => by kernel_rfl) ?_
  refine held_end 6 (.bool true) (by kernel_rfl) (by kernel_rfl) (by kernel_rfl) fun a' hd hv => ?_
  go_wp2
  refine bodyPost_ret (results_tmp rfl _ _ _) hd ?_
  rw [hv]
  exact ⟨rfl, pair_join hlt hL.size i1 i2 dis F1 F2 P1 R2 hL⟩
set_option maxHeartbeats 1000000 in
theorem two_do_raw_k {S : Nat → Prop} {w : World} {a : Addr} {b : Nat} {g : Lg} (h : Pair S w a b g) (hn : g.l.length ≤ 1000000) (k : Int) (k1 : k ≠ 1) (k2 : k ≠ 2) (k3 : k ≠ 3) (k4 : k ≠ 4) (k5 : k ≠ 5) (k6 : k ≠ 6) (k7 : k ≠ 7) (A B : Int) (a0 : 0 ≤ A) (a1 : A ≤ 18446744073709551615) (b0 : 0 ≤ B) (b1 : B ≤ 18446744073709551615) :
    Calls Try.prog 19 #[.agg #[.pointer (some a), .pointer (some ⟨b, 0, none⟩)], .agg #[.int .i64 k, .int .u64 A, .int .u64 B], .bool true] w fun e w' => e = .returned (.bool true) ∧ Pair (Plus S w w') w' a b (g) ∧ Fr S w w' := by
  have hs := sOf_words true a0 a1 b0 b1
  obtain ⟨p0, p1⟩ := pnOf_bd g hn true a0 a1
  obtain ⟨q0, q1⟩ := stOf_bd true B
  generalize hsS : sOf true A B = s at *
  generalize hpS : pnOf g true A = pn at *
  generalize hqS : stOf true B = st at *
  go_enter Try.func19, Try.ntmps19
  go_upto_region 2 with fail
  go_quiet (fail)
  go_upto_region 10 with fail
  refine at_world ?_
  intro W hW
  obtain ⟨T0, D0, X0, hL⟩ : Blk W w.heap.size #[.pointer (some a), .pointer (some ⟨b, 0, none⟩)] 27 ∧ Blk W (w.heap.size + 1) #[.int .i64 k, .int .u64 A, .int .u64 B] 52 ∧ Blk W (w.heap.size + 1 + 1) #[.int .u64 s.pn, .int .u64 s.off, .int .u64 s.len, .int .u64 s.nonce, .int .u64 s.time, .bool s.coin, .bool s.used, .int .i64 s.state] 42 ∧ Below w.heap.size w W := by
    subst hW
    subst hsS
    have := laid3 w #[.pointer (some a), .pointer (some ⟨b, 0, none⟩)] #[.int .i64 k, .int .u64 A, .int .u64 B] #[.int .u64 ((sOf true A B)).pn, .int .u64 ((sOf true A B)).off, .int .u64 ((sOf true A B)).len, .int .u64 ((sOf true A B)).nonce, .int .u64 ((sOf true A B)).time, .bool ((sOf true A B)).coin, .bool ((sOf true A B)).used, .int .i64 ((sOf true A B)).state] 27 52 42
    exact ⟨this.1, this.2.1, this.2.2.1, Base.drawn this.2.2.2 _⟩
  clear hW hsS
  obtain rfl : A = pn := hpS
  obtain rfl : wrap64 B = st := hqS
  have hlt := h.lt
  have hP := h.below hL
  obtain ⟨S1, S2, P0, R0, i1, i2, dis⟩ := hP.two
  have dis' : ∀ k, S2 k → ¬ S1 k := fun k h2 h1 => dis k h1 h2
  have nT1 : ¬ S1 w.heap.size := fun e => by have := hlt _ (i1 _ e); omega
  have nT2 : ¬ S2 w.heap.size := fun e => by have := hlt _ (i2 _ e); omega
  have nX1 : ¬ S1 (w.heap.size + 1 + 1) := fun e => by have := hlt _ (i1 _ e); omega
  have d00 : W.cell? ⟨w.heap.size + 1, 0, none⟩ = some (.int .i64 k) := D0.cell 0
  have t00 : W.cell? ⟨w.heap.size, 0, none⟩ = some (.pointer (some a)) := T0.cell 0
  have t10 : W.cell? ⟨w.heap.size, 1, none⟩ = some (.pointer (some ⟨b, 0, none⟩)) := T0.cell 1
  have x00 : W.cell? ⟨w.heap.size + 1 + 1, 0, none⟩ = some (.int .u64 s.pn) := X0.cell 0
  have x10 : W.cell? ⟨w.heap.size + 1 + 1, 1, none⟩ = some (.int .u64 s.off) := X0.cell 1
  have x20 : W.cell? ⟨w.heap.size + 1 + 1, 2, none⟩ = some (.int .u64 s.len) := X0.cell 2
  have x30 : W.cell? ⟨w.heap.size + 1 + 1, 3, none⟩ = some (.int .u64 s.nonce) := X0.cell 3
  have x40 : W.cell? ⟨w.heap.size + 1 + 1, 4, none⟩ = some (.int .u64 s.time) := X0.cell 4
  have x50 : W.cell? ⟨w.heap.size + 1 + 1, 5, none⟩ = some (.bool s.coin) := X0.cell 5
  have x60 : W.cell? ⟨w.heap.size + 1 + 1, 6, none⟩ = some (.bool s.used) := X0.cell 6
  have x70 : W.cell? ⟨w.heap.size + 1 + 1, 7, none⟩ = some (.int .i64 s.state) := X0.cell 7
  go_wp2_with (first | (go_at_call 14; refine (get_any P0 A p0 p1).mono ?_; rintro e w1 ⟨rfl, L1⟩; have T1 := T0.below L1 T0.lt; have z1 := T1.lt; have M1 := Base.next hL L1; have M1' := M1.alloc M1.size (.cells #[.int .u64 (getS g A).pn, .int .u64 (getS g A).off, .int .u64 (getS g A).len, .int .u64 (getS g A).nonce, .int .u64 (getS g A).time, .bool (getS g A).coin, .bool (getS g A).used, .int .i64 (getS g A).state] 42); have t01 : w1.cell? ⟨w.heap.size, 0, none⟩ = some (.pointer (some a)) := T1.cell 0; have t11 : w1.cell? ⟨w.heap.size, 1, none⟩ = some (.pointer (some ⟨b, 0, none⟩)) := T1.cell 1; have R1 := R0.below L1) | (go_at_call 45; refine (ref_get (R1.below ((Below.refl _ _).alloc (Nat.le_refl _) _)) A p0 p1).mono ?_; rintro e w2 ⟨rfl, L2⟩; have Y2 := (Blk.new w1 #[.int .u64 (getS g A).pn, .int .u64 (getS g A).off, .int .u64 (getS g A).len, .int .u64 (getS g A).nonce, .int .u64 (getS g A).time, .bool (getS g A).coin, .bool (getS g A).used, .int .i64 (getS g A).state] 42).below L2 (by simp); have z2 := Y2.lt; have M2 := Base.next M1' L2; have y0 : w2.cell? ⟨w1.heap.size, 0, none⟩ = some (.int .u64 (getS g A).pn) := Y2.cell 0; have y1 : w2.cell? ⟨w1.heap.size, 1, none⟩ = some (.int .u64 (getS g A).off) := Y2.cell 1; have y2 : w2.cell? ⟨w1.heap.size, 2, none⟩ = some (.int .u64 (getS g A).len) := Y2.cell 2; have y3 : w2.cell? ⟨w1.heap.size, 3, none⟩ = some (.int .u64 (getS g A).nonce) := Y2.cell 3; have y4 : w2.cell? ⟨w1.heap.size, 4, none⟩ = some (.int .u64 (getS g A).time) := Y2.cell 4; have y5 : w2.cell? ⟨w1.heap.size, 5, none⟩ = some (.bool (getS g A).coin) := Y2.cell 5; have y6 : w2.cell? ⟨w1.heap.size, 6, none⟩ = some (.bool (getS g A).used) := Y2.cell 6; have y7 : w2.cell? ⟨w1.heap.size, 7, none⟩ = some (.int .i64 (getS g A).state) := Y2.cell 7))
  all_goals go_ret
  all_goals exact ⟨rfl, pair_plus (h.below (M2.alloc M2.size _)), Fr.of_below (M2.alloc M2.size _)⟩
set_option maxHeartbeats 1000000 in
theorem two_do_fit_k {S : Nat → Prop} {w : World} {a : Addr} {b : Nat} {g : Lg} (h : Pair S w a b g) (hn : g.l.length ≤ 1000000) (k : Int) (k1 : k ≠ 1) (k2 : k ≠ 2) (k3 : k ≠ 3) (k4 : k ≠ 4) (k5 : k ≠ 5) (k6 : k ≠ 6) (k7 : k ≠ 7) (A B : Int) (a0 : 0 ≤ A) (a1 : A ≤ 18446744073709551615) (b0 : 0 ≤ B) (b1 : B ≤ 18446744073709551615) :
    Calls Try.prog 19 #[.agg #[.pointer (some a), .pointer (some ⟨b, 0, none⟩)], .agg #[.int .i64 k, .int .u64 A, .int .u64 B], .bool false] w fun e w' => e = .returned (.bool true) ∧ Pair (Plus S w w') w' a b (g) ∧ Fr S w w' := by
  have hs := sOf_words false a0 a1 b0 b1
  obtain ⟨p0, p1⟩ := pnOf_bd g hn false a0 a1
  obtain ⟨q0, q1⟩ := stOf_bd false B
  generalize hsS : sOf false A B = s at *
  generalize hpS : pnOf g false A = pn at *
  generalize hqS : stOf false B = st at *
  go_enter Try.func19, Try.ntmps19
  go_upto_region 2 with fail
  go_quiet (fail)
  go_upto_region 8 with fail
  refine at_world ?_
  intro V hV
  obtain ⟨T0, D0, X0, hL⟩ : Blk V w.heap.size #[.pointer (some a), .pointer (some ⟨b, 0, none⟩)] 27 ∧ Blk V (w.heap.size + 1) #[.int .i64 k, .int .u64 A, .int .u64 B] 52 ∧ Blk V (w.heap.size + 1 + 1) #[.int .u64 s.pn, .int .u64 s.off, .int .u64 s.len, .int .u64 s.nonce, .int .u64 s.time, .bool s.coin, .bool s.used, .int .i64 s.state] 42 ∧ Below w.heap.size w V := by
    subst hV
    subst hsS
    have := laid3 w #[.pointer (some a), .pointer (some ⟨b, 0, none⟩)] #[.int .i64 k, .int .u64 A, .int .u64 B] #[.int .u64 ((sOf true A B)).pn, .int .u64 ((sOf true A B)).off, .int .u64 ((sOf true A B)).len, .int .u64 ((sOf true A B)).nonce, .int .u64 ((sOf true A B)).time, .bool ((sOf true A B)).coin, .bool ((sOf true A B)).used, .int .i64 ((sOf true A B)).state] 27 52 42
    refine ⟨?_, ?_, ?_, ?_⟩
    · exact ((((blk_drewN this.1 _).other (by simp; omega) _).other (by simp; omega) _).other (by simp; omega) _).other (by simp; omega) _
    · exact ((((blk_drewN this.2.1 _).other (by simp) _).other (by simp) _).other (by simp) _).other (by simp) _
    · exact ((((blk_drewN this.2.2.1 _).set 2 _).set 1 _).set 3 _).set 4 _
    · exact ((((Base.drawn this.2.2.2 _).setCell (by simp; omega) _).setCell (by simp; omega) _).setCell (by simp; omega) _).setCell (by simp; omega) _
  clear hV hsS
  have hR8 := (h.below hL).rf
  have v00 : V.cell? ⟨w.heap.size, 1, none⟩ = some (.pointer (some ⟨b, 0, none⟩)) := T0.cell 1
  have v01 : V.cell? ⟨w.heap.size + 1, 1, none⟩ = some (.int .u64 A) := D0.cell 1
  have v02 : V.cell? ⟨w.heap.size + 1, 2, none⟩ = some (.int .u64 B) := D0.cell 2
  have CN := fun p : In (Lt V) => ref_next (hR8.below p.h)
  have z0 := fun p : In (Lt V) => inCell p v00
  have z1 := fun p : In (Lt V) => inCell p v01
  generalize hnx : (g.l.length : Int) = nx at CN
  have hn1 : 0 ≤ nx ∧ nx ≤ 1000000 := by omega
  have hpn : A.tmod (nx + 2) = pn := by rw [Int.tmod_eq_emod_of_nonneg a0, ← hpS, ← hnx]; rfl
  refine wp_region_in (Lt V) (Lt.drew V) (by kernel_rfl) (by kernel_rfl) ?_
  repeat (go_big_quiet_step ((go_at_call 9; refine in_same (v := .int .u64 nx) ?_; exact CN _)))
  refine wpQuiet_nil ?_
  rintro W ⟨⟨_, hW⟩, rfl⟩
  have hW : Below V.heap.size V W := hW
  have w02 := keepCell hW v02
  go_upto_region 10 with fail
  rw [show 1 + B % 4 = st from hqS]
  replace T0 := T0.below hW T0.lt
  replace D0 := D0.below hW D0.lt
  replace X0 := X0.below hW X0.lt
  replace hL := Base.next hL hW
  clear hR8 v00 v01 v02 z0 z1 CN hpn hnx w02 hpS hqS
  have hlt := h.lt
  have hP := h.below hL
  obtain ⟨S1, S2, P0, R0, i1, i2, dis⟩ := hP.two
  have dis' : ∀ k, S2 k → ¬ S1 k := fun k h2 h1 => dis k h1 h2
  have nT1 : ¬ S1 w.heap.size := fun e => by have := hlt _ (i1 _ e); omega
  have nT2 : ¬ S2 w.heap.size := fun e => by have := hlt _ (i2 _ e); omega
  have nX1 : ¬ S1 (w.heap.size + 1 + 1) := fun e => by have := hlt _ (i1 _ e); omega
  have d00 : W.cell? ⟨w.heap.size + 1, 0, none⟩ = some (.int .i64 k) := D0.cell 0
  have t00 : W.cell? ⟨w.heap.size, 0, none⟩ = some (.pointer (some a)) := T0.cell 0
  have t10 : W.cell? ⟨w.heap.size, 1, none⟩ = some (.pointer (some ⟨b, 0, none⟩)) := T0.cell 1
  have x00 : W.cell? ⟨w.heap.size + 1 + 1, 0, none⟩ = some (.int .u64 s.pn) := X0.cell 0
  have x10 : W.cell? ⟨w.heap.size + 1 + 1, 1, none⟩ = some (.int .u64 s.off) := X0.cell 1
  have x20 : W.cell? ⟨w.heap.size + 1 + 1, 2, none⟩ = some (.int .u64 s.len) := X0.cell 2
  have x30 : W.cell? ⟨w.heap.size + 1 + 1, 3, none⟩ = some (.int .u64 s.nonce) := X0.cell 3
  have x40 : W.cell? ⟨w.heap.size + 1 + 1, 4, none⟩ = some (.int .u64 s.time) := X0.cell 4
  have x50 : W.cell? ⟨w.heap.size + 1 + 1, 5, none⟩ = some (.bool s.coin) := X0.cell 5
  have x60 : W.cell? ⟨w.heap.size + 1 + 1, 6, none⟩ = some (.bool s.used) := X0.cell 6
  have x70 : W.cell? ⟨w.heap.size + 1 + 1, 7, none⟩ = some (.int .i64 s.state) := X0.cell 7
  go_wp2_with (first | (go_at_call 14; refine (get_any P0 pn p0 p1).mono ?_; rintro e w1 ⟨rfl, L1⟩; have T1 := T0.below L1 T0.lt; have z1 := T1.lt; have M1 := Base.next hL L1; have M1' := M1.alloc M1.size (.cells #[.int .u64 (getS g pn).pn, .int .u64 (getS g pn).off, .int .u64 (getS g pn).len, .int .u64 (getS g pn).nonce, .int .u64 (getS g pn).time, .bool (getS g pn).coin, .bool (getS g pn).used, .int .i64 (getS g pn).state] 42); have t01 : w1.cell? ⟨w.heap.size, 0, none⟩ = some (.pointer (some a)) := T1.cell 0; have t11 : w1.cell? ⟨w.heap.size, 1, none⟩ = some (.pointer (some ⟨b, 0, none⟩)) := T1.cell 1; have R1 := R0.below L1) | (go_at_call 45; refine (ref_get (R1.below ((Below.refl _ _).alloc (Nat.le_refl _) _)) pn p0 p1).mono ?_; rintro e w2 ⟨rfl, L2⟩; have Y2 := (Blk.new w1 #[.int .u64 (getS g pn).pn, .int .u64 (getS g pn).off, .int .u64 (getS g pn).len, .int .u64 (getS g pn).nonce, .int .u64 (getS g pn).time, .bool (getS g pn).coin, .bool (getS g pn).used, .int .i64 (getS g pn).state] 42).below L2 (by simp); have z2 := Y2.lt; have M2 := Base.next M1' L2; have y0 : w2.cell? ⟨w1.heap.size, 0, none⟩ = some (.int .u64 (getS g pn).pn) := Y2.cell 0; have y1 : w2.cell? ⟨w1.heap.size, 1, none⟩ = some (.int .u64 (getS g pn).off) := Y2.cell 1; have y2 : w2.cell? ⟨w1.heap.size, 2, none⟩ = some (.int .u64 (getS g pn).len) := Y2.cell 2; have y3 : w2.cell? ⟨w1.heap.size, 3, none⟩ = some (.int .u64 (getS g pn).nonce) := Y2.cell 3; have y4 : w2.cell? ⟨w1.heap.size, 4, none⟩ = some (.int .u64 (getS g pn).time) := Y2.cell 4; have y5 : w2.cell? ⟨w1.heap.size, 5, none⟩ = some (.bool (getS g pn).coin) := Y2.cell 5; have y6 : w2.cell? ⟨w1.heap.size, 6, none⟩ = some (.bool (getS g pn).used) := Y2.cell 6; have y7 : w2.cell? ⟨w1.heap.size, 7, none⟩ = some (.int .i64 (getS g pn).state) := Y2.cell 7))
  all_goals go_ret
  all_goals exact ⟨rfl, pair_plus (h.below (M2.alloc M2.size _)), Fr.of_below (M2.alloc M2.size _)⟩
theorem two_do_raw {S : Nat → Prop} {w : World} {a : Addr} {b : Nat} {g : Lg} (h : Pair S w a b g) (hn : g.l.length ≤ 1000000) (k A B : Int) (a0 : 0 ≤ A) (a1 : A ≤ 18446744073709551615) (b0 : 0 ≤ B) (b1 : B ≤ 18446744073709551615) :
    Calls Try.prog 19 #[.agg #[.pointer (some a), .pointer (some ⟨b, 0, none⟩)], .agg #[.int .i64 k, .int .u64 A, .int .u64 B], .bool true] w fun e w' => e = .returned (.bool true) ∧ Pair (Plus S w w') w' a b (doG g true k A B) ∧ Fr S w w' := by
  by_cases k1 : k = 1
  · subst k1
    exact two_do_raw_1 h hn A B a0 a1 b0 b1
  by_cases k2 : k = 2
  · subst k2
    exact two_do_raw_2 h hn A B a0 a1 b0 b1
  by_cases k3 : k = 3
  · subst k3
    exact two_do_raw_3 h hn A B a0 a1 b0 b1
  by_cases k4 : k = 4
  · subst k4
    exact two_do_raw_4 h hn A B a0 a1 b0 b1
  by_cases k5 : k = 5
  · subst k5
    exact two_do_raw_5 h hn A B a0 a1 b0 b1
  by_cases k6 : k = 6
  · subst k6
    exact two_do_raw_6 h hn A B a0 a1 b0 b1
  by_cases k7 : k = 7
  · subst k7
    exact two_do_raw_7 h hn A B a0 a1 b0 b1
  rw [show doG g true k A B = g by unfold doG; rw [if_neg (by omega), if_neg (by omega), if_neg (by omega), if_neg (by omega)]]
  exact two_do_raw_k h hn k k1 k2 k3 k4 k5 k6 k7 A B a0 a1 b0 b1
theorem two_do_fit {S : Nat → Prop} {w : World} {a : Addr} {b : Nat} {g : Lg} (h : Pair S w a b g) (hn : g.l.length ≤ 1000000) (k A B : Int) (a0 : 0 ≤ A) (a1 : A ≤ 18446744073709551615) (b0 : 0 ≤ B) (b1 : B ≤ 18446744073709551615) :
    Calls Try.prog 19 #[.agg #[.pointer (some a), .pointer (some ⟨b, 0, none⟩)], .agg #[.int .i64 k, .int .u64 A, .int .u64 B], .bool false] w fun e w' => e = .returned (.bool true) ∧ Pair (Plus S w w') w' a b (doG g false k A B) ∧ Fr S w w' := by
  by_cases k1 : k = 1
  · subst k1
    exact two_do_fit_1 h hn A B a0 a1 b0 b1
  by_cases k2 : k = 2
  · subst k2
    exact two_do_fit_2 h hn A B a0 a1 b0 b1
  by_cases k3 : k = 3
  · subst k3
    exact two_do_fit_3 h hn A B a0 a1 b0 b1
  by_cases k4 : k = 4
  · subst k4
    exact two_do_fit_4 h hn A B a0 a1 b0 b1
  by_cases k5 : k = 5
  · subst k5
    exact two_do_fit_5 h hn A B a0 a1 b0 b1
  by_cases k6 : k = 6
  · subst k6
    exact two_do_fit_6 h hn A B a0 a1 b0 b1
  by_cases k7 : k = 7
  · subst k7
    exact two_do_fit_7 h hn A B a0 a1 b0 b1
  rw [show doG g false k A B = g by unfold doG; rw [if_neg (by omega), if_neg (by omega), if_neg (by omega), if_neg (by omega)]]
  exact two_do_fit_k h hn k k1 k2 k3 k4 k5 k6 k7 A B a0 a1 b0 b1
theorem two_do {S : Nat → Prop} {w : World} {a : Addr} {b : Nat} {g : Lg} (h : Pair S w a b g) (hn : g.l.length ≤ 1000000) (raw : Bool) (k A B : Int) (a0 : 0 ≤ A) (a1 : A ≤ 18446744073709551615) (b0 : 0 ≤ B) (b1 : B ≤ 18446744073709551615) :
    Calls Try.prog 19 #[.agg #[.pointer (some a), .pointer (some ⟨b, 0, none⟩)], .agg #[.int .i64 k, .int .u64 A, .int .u64 B], .bool raw] w fun e w' => e = .returned (.bool true) ∧ Pair (Plus S w w') w' a b (doG g raw k A B) ∧ Fr S w w' := by
  cases raw
  · exact two_do_fit h hn k A B a0 a1 b0 b1
  · exact two_do_raw h hn k A B a0 a1 b0 b1
end Go.Proofs.Ytoncominjgkjoaa.Led
