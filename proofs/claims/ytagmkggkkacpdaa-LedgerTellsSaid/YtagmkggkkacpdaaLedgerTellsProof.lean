/-
  Behind any deeds of any numbers, the program's ledger tells what the document says. No conditions.
-/
import Derived.Test.YtagmkggkkacpdaaDeeds
import Derived.Test.YtagmkggkkacpdaaRows
import Derived.Test.YtagmkggkkacpdaaRow
import Derived.WalkKit
import Derived.ProofKit
import Derived.OpenShut
import Derived.ShutString
import Derived.ChangeOld
import Derived.Below
import Derived.Test.YtagmkggkkacpdaaLedMake
import Derived.Test.YtagmkggkkacpdaaLedAlive
namespace Go.Proofs.Ytagmkggkkacpdaa.ledgerTells
open Go.ChangeShapes Go.WideShapes Go.ChangeAt Go.RowKit
open Go.ChangeMaps (open_string shut_string)
open Go.Proofs.Ytagmkggkkacpdaa.Base
set_option linter.unusedVariables false

theorem own : ownKnob Try.prog.godebug = none := by kernel_rfl
theorem laidOut : laidOutB Try.prog = true := by kernel_rfl

open Go.Proofs.Ytagmkggkkacpdaa.Led Go.Proofs.Ytagmkggkkacpdaa.LedPlain
def runG (ring limit : Int) (raw : Bool) (l : List Dd) (t : Nat) : Lg := (l.take t).foldl (fun g d => doG g raw d.1 d.2.1 d.2.2) (newG ring limit)
theorem run_succ {ring limit : Int} {raw : Bool} {l : List Dd} {t : Nat} (h : t < l.length) : runG ring limit raw l (t + 1) = doG (runG ring limit raw l t) raw (l.getD t (0, 0, 0)).1 (l.getD t (0, 0, 0)).2.1 (l.getD t (0, 0, 0)).2.2 := by
  unfold runG
  rw [List.take_add_one, List.foldl_append, show l[t]? = some (l.getD t (0, 0, 0)) by simp [List.getD, h]]
  rfl
theorem run_len (ring limit : Int) (raw : Bool) (l : List Dd) : ∀ t, (runG ring limit raw l t).l.length ≤ t
  | 0 => by simp [runG, newG]
  | t + 1 => by
    have ih := run_len ring limit raw l t
    by_cases h : t < l.length
    · rw [run_succ h]
      have := doG_len (runG ring limit raw l t) raw (l.getD t (0, 0, 0)).1 (l.getD t (0, 0, 0)).2.1 (l.getD t (0, 0, 0)).2.2
      omega
    · have e : runG ring limit raw l (t + 1) = runG ring limit raw l t := by
        unfold runG
        rw [List.take_of_length_le (by omega), List.take_of_length_le (by omega)]
      rw [e]
      omega
set_option maxHeartbeats 2000000 in
theorem walk (a0 : Int) (a1 : Int) (a2 : Option Addr) (len2 cap2 : Nat) (z2 : List Dd) (a3 : Bool) (w : World) (w0 : (Lit.int .i64 a0).wf = true) (w1 : (Lit.int .u64 a1).wf = true) (w2 : Deeds w a2 z2) (n2 : z2.length = len2) (m2 : len2 ≤ cap2) (o2 : cap2 ≤ maxLen) (f2 : ∀ d ∈ z2, Fit d) :
    Calls Try.prog 3 #[.int .i64 a0, .int .u64 a1, .slice a2 len2 cap2, .bool a3] w fun e w' => e = .returned (.bool true) ∧ Below w.heap.size w w' := by
  obtain ⟨r0, r1⟩ := Base.i64_of w0
  obtain ⟨l0, l1⟩ := Base.u64_of w1
  subst n2
  unfold maxLen at o2
  have CP := new_any a0 a1 r0 r1 l0 l1 w
  have CR := fun V => ref_new a0 a1 r0 r1 l0 l1 V
  have CA := fun V => alive_led V
  go_enter Try.func3, Try.ntmps3
  go_upto_region 2 with (first
    | (go_at_call 8; refine CP.mono ?_; rintro e u1 ⟨a, rfl, P1, L1⟩; clear CP)
    | (go_at_call 9; refine (CR u1).mono ?_; rintro e u2 ⟨rfl, R2, L2⟩; have M2 := Base.next L1 L2; clear CR))
  have hC := Blk.new u2 #[.pointer (some a), .pointer (some ⟨u1.heap.size, 0, none⟩)] 29
  have hL := M2.alloc M2.size (.cells #[.pointer (some a), .pointer (some ⟨u1.heap.size, 0, none⟩)] 29)
  have zs1 := L1.size
  have zs2 := L2.size
  have P2 := P1.below L2
  have hP : Pair (fun k => w.heap.size ≤ k ∧ k < u2.heap.size) (u2.alloc (.cells #[.pointer (some a), .pointer (some ⟨u1.heap.size, 0, none⟩)] 29)) a u1.heap.size (newG a0 a1) :=
    Pair.below ⟨⟨_, _, P2, R2, fun k hk => ⟨hk.1, by omega⟩, fun k hk => ⟨by omega, hk.2⟩, fun k h1 h2 => by omega⟩, fun k hk => hk.2⟩ ((Below.refl _ _).alloc (Nat.le_refl _) _)
  generalize hc2 : u2.heap.size = c at *
  generalize u2.alloc (.cells #[.pointer (some a), .pointer (some ⟨u1.heap.size, 0, none⟩)] 29) = V at *
  clear P1 R2 P2 L1 L2 M2 hc2
  generalize u1.heap.size = b at *
  by_cases h60 : 60 < z2.length
  · have h60I : (60 : Int) < (z2.length : Int) := by omega
    go_wp2_with (first
      | (go_at_call 10; (with_reducible refine (CA V).mono ?_); rintro e u3 ⟨rfl, L3⟩; have M3 := hL.trans (L3.mono hL.size); have C3 := hC.below L3 hC.lt; have c0 : u3.cell? ⟨c, 0, none⟩ = some (.pointer (some a)) := C3.cell 0; clear hC)
      | (go_at_call 10; (with_reducible refine (CA u3).mono ?_); rintro e u4 ⟨rfl, L4⟩; have M4 := M3.trans (L4.mono M3.size); have c1 := keepCell L4 c0))
    all_goals go_ret
    all_goals exact ⟨rfl, M4⟩
  · have h60I : (z2.length : Int) ≤ 60 := by omega
    have h0 : runG a0 a1 a3 z2 0 = newG a0 a1 := rfl
    rw [← h0] at hP
    go_wp2_with (go_at_call 10; refine (CA V).mono ?_; rintro e u3 ⟨rfl, L3⟩; have M3 := hL.trans (L3.mono hL.size); have C3 := hC.below L3 hC.lt; have c0 : u3.cell? ⟨c, 0, none⟩ = some (.pointer (some a)) := C3.cell 0; have P3 := hP.below L3; clear hC)
    go_loopw [10] (fun i wr => ∃ (t : Nat) (S : Nat → Prop), t ≤ z2.length ∧ i = .int .i64 t ∧ Pair S wr a b (runG a0 a1 a3 z2 t) ∧ (∀ k, S k → w.heap.size ≤ k ∧ k ≠ c) ∧ Blk wr c #[.pointer (some a), .pointer (some ⟨b, 0, none⟩)] 29 ∧ Below w.heap.size w wr) (fun i _ => z2.length - (intOf i).toNat)
    case atStart => exact ⟨0, _, Nat.zero_le _, rfl, P3, fun k hk => by omega, C3, M3⟩
    case round =>
      obtain ⟨t, S, ht, rfl, hP, hS, hC, hL⟩ := hrel
      have c0 : wr.cell? ⟨c, 0, none⟩ = some (.pointer (some a)) := hC.cell 0
      have c1 : wr.cell? ⟨c, 1, none⟩ = some (.pointer (some ⟨b, 0, none⟩)) := hC.cell 1
      have hcl := hC.lt
      have hul := run_len a0 a1 a3 z2 t
      clear P3 C3 M3 L3
      by_cases hlt : t < z2.length
      · have hlI : (t : Int) < (z2.length : Int) := by omega
        obtain ⟨bz, off, rfl, hbz, d0, d1, d2⟩ := (w2.below hL).at_ hlt
        have hU := Lib.hid (run_succ (ring := a0) (limit := a1) (raw := a3) hlt)
        have hFit := f2 (z2.getD t (0, 0, 0)) (by simp [List.getD, hlt])
        generalize z2.getD t (0, 0, 0) = d at *
        obtain ⟨k, A, B⟩ := d
        obtain ⟨f0, f1, f2⟩ := hFit
        simp only at d0 d1 d2 f0 f1 f2
        obtain ⟨A0, A1⟩ := Base.u64_of f1
        obtain ⟨B0, B1⟩ := Base.u64_of f2
        have S0 : Below wr.heap.size wr wr.drew := Base.drew1 (Below.refl _ _)
        have CD := two_do (hP.below S0) (by omega) a3 k A B A0 A1 B0 B1
        go_upto_region 7 with fail
        go_region_with (first
          | (go_at_call 11; refine CD.mono ?_; rintro e u5 ⟨rfl, P5, F5⟩; replace F5 := F5.undrew; have C5 := hC.kept F5 (fun e => (hS _ e).2 rfl); have L5 := hL.trans (F5.toBelow' (B := w.heap.size) hL.size fun k _ hk => (hS k hk).1); have z5 := F5.size; have c05 : u5.cell? ⟨c, 0, none⟩ = some (.pointer (some a)) := C5.cell 0; have c15 : u5.cell? ⟨c, 1, none⟩ = some (.pointer (some ⟨b, 0, none⟩)) := C5.cell 1; have CS := two_same P5 (by have := doG_len (runG a0 a1 a3 z2 t) a3 k A B; omega))
          | (go_at_call 12; refine CS.mono ?_; rintro e u6 ⟨rfl, L6⟩; have P6 := P5.below L6; have C6 := C5.below L6 C5.lt; have M6 := L5.trans (L6.mono L5.size)))
        all_goals go_wp2
        all_goals exact ⟨⟨t + 1, _, by omega, by go_num, (by rw [hU.out]; exact P6), fun k hk => (by rcases hk with hk | hk; exact hS k hk; have := hL.size; simp at hk; omega), C6, M6⟩, by simp [intOf]; omega⟩
      · obtain rfl : t = z2.length := by omega
        have CS := two_same hP (by omega)
        go_wp2_with (go_at_call 12; refine CS.mono ?_; rintro e u6 ⟨rfl, L6⟩; have M6 := hL.trans (L6.mono hL.size))
        go_ret
        exact ⟨rfl, M6⟩

set_option maxRecDepth 100000 in
theorem lifted (os : Os) (started : os.Started) (H : Type) (enc : TypeId × Value → H) :
    ReturnsInHanded {} Try.checked os 3 .any (Rows.ledgerTellsSpec.pre6 enc Try.prog Try.f3 Rows.ledgerTellsRow.domain false) (Rows.ledgerTellsSpec.post enc Try.prog Try.f3 false true false false) := by
  refine returnsInHanded_of_change (C := Try.checked) own started (by kernel_rfl) Try.func3
    (ChangeSpec.witness6 (enc := enc) (C := Try.checked) false ⟨#[], #[.int .i64 0, .int .u64 0, .slice none 0 0, .bool false], []⟩ 8 (by kernel_rfl) (by kernel_rfl) (by kernel_rfl) (by kernel_rfl)) ?_
  intro W base args ds gs before hval0 hW hcnd _
  have hval : ∀ (j : Nat) t v, Try.f3.params[j]? = some t → args[j]? = some v → Value.okWide Try.prog W .any base t v := hval0
  have hW' := hW
  obtain ⟨p, q, hA0, hV, rfl, hfz, hnd⟩ := hW
  have hA : DataW.TrodAll enc Try.prog W 0 (fun _ => true) true Try.f3.params.toList args.toList ds p := hA0
  rw [Try.params3] at hA hval
  obtain ⟨v0, vs0, d0, ds0, p0, q0, hargs, rfl, rfl, h0, r0⟩ := trodAll_cons hA
  obtain ⟨v1, vs1, d1, ds1, p1, q1, rfl, rfl, rfl, h1, r1⟩ := trodAll_cons r0
  obtain ⟨v2, vs2, d2, ds2, p2, q2, rfl, rfl, rfl, h2, r2⟩ := trodAll_cons r1
  obtain ⟨v3, vs3, d3, ds3, p3, q3, rfl, rfl, rfl, h3, r3⟩ := trodAll_cons r2
  obtain ⟨rfl, rfl, rfl⟩ := trodAll_nil r3
  obtain rfl : args = #[v0, v1, v2, v3] := by cases args; simp_all
  obtain ⟨rfl, rfl⟩ := trodVars_none hV
  obtain ⟨a0, rfl, rfl, rfl, w0⟩ := open_int Try.underlying3 (hval 0 3 v0 rfl rfl) h0
  obtain ⟨a1, rfl, rfl, rfl, w1⟩ := open_int Try.underlying22 (hval 1 22 v1 rfl rfl) h1
  obtain ⟨a2, len2, cap2, rfl⟩ := okWide_slice Try.underlying23 (hval 2 23 v2 rfl rfl)
  have k2 := h2
  have lt2 : ∀ x ∈ p2, x.block < W.heap.size := by obtain ⟨m, hm⟩ := k2; exact DataW.trod_lt m _ _ _ hm
  obtain ⟨z2, w2, n2, m2, o2, f2⟩ : ∃ zs, Deeds W a2 zs ∧ zs.length = len2 ∧ len2 ≤ cap2 ∧ cap2 ≤ maxLen ∧ (∀ d ∈ zs, Fit d) := by
    obtain ⟨fuel, hf⟩ := h2
    rcases open_deeds Try.underlying23 Try.underlying33 (by kernel_rfl) (by kernel_rfl) Try.underlying3 Try.underlying22 Try.underlying22 hf with ⟨hcs, hx⟩ | ⟨x, l, c, zs, E, S, hcs, hl, hm, hz, hx, hE, hS, hsp, hwz⟩
    · simp [Value.cells] at hcs
      obtain ⟨rfl, rfl, rfl⟩ := hcs
      exact ⟨[], Deeds.nil _ _, rfl, Nat.le_refl _, Nat.zero_le _, fun _ h => by cases h⟩
    · simp [Value.cells] at hcs
      obtain ⟨rfl, rfl, rfl⟩ := hcs
      exact ⟨zs, hsp, hz, hl, hm, hwz⟩
  obtain ⟨a3, rfl, rfl, rfl⟩ := open_bool Try.underlying4 (hval 3 4 v3 rfl rfl) h3
  clear hA0 hval0
  refine (walk a0 a1 a2 len2 cap2 z2 a3 W w0 w1 w2 n2 m2 o2 f2).mono fun e W' ⟨he, bel⟩ => ?_
  subst he
  exact ⟨_, rfl, _, _, _, [], _, [], hW', trodAll_mk1 (shut_bool Try.underlying4 _), (trodAll_cons_mk (shut_int Try.underlying3 w0) (trodAll_cons_mk (shut_int Try.underlying22 w1) (trodAll_cons_mk (Below.trod laidOut (by kernel_rfl) (of_decide_eq_true (by kernel_rfl)) k2 bel lt2) (trodAll_cons_mk (shut_bool Try.underlying4 _) trodAll_mk0)))), rfl, bel.frame _, fun h => by cases h⟩

theorem over : Rows.ledgerTellsRow.holds Try.pinned (OpenSpec.ofChange Rows.ledgerTellsSpec) :=
  OpenClaim.holds_of_wide 3 Try.f3 rfl rfl rfl rfl rfl rfl rfl ⟨rfl, rfl, rfl, rfl, rfl⟩ rfl rfl rfl rfl rfl (by kernel_rfl) Try.func3 (by kernel_rfl)
    (of_decide_eq_true (by kernel_rfl)) (by unfold Func.isWrapper; first | (rw [if_pos (by decide +kernel)]; kernel_rfl) | (rw [if_neg (by decide +kernel)]; exact ⟨rfl, rfl⟩))
    (fun os started H enc _ => lifted os started H enc)

/-- The given statement. -/
theorem proved : Rows.LedgerTellsSaid :=
  over
#print axioms proved
end Go.Proofs.Ytagmkggkkacpdaa.ledgerTells
