/-
  Numbers end behind the greatest one, whatever was settled. No conditions.
-/
import Derived.Test.YtagmkggkkacpdaaBools
import Derived.Test.YtagmkggkkacpdaaRows
import Derived.Test.YtagmkggkkacpdaaRow
import Derived.WalkKit
import Derived.ProofKit
import Derived.OpenShut
import Derived.ShutString
import Derived.ChangeOld
import Derived.Below
import Derived.Test.YtagmkggkkacpdaaLedAlive
import Derived.Test.YtagmkggkkacpdaaLedEnds
import Derived.Test.YtagmkggkkacpdaaSat
namespace Go.Proofs.Ytagmkggkkacpdaa.ledgerEnds
open Go.ChangeShapes Go.WideShapes Go.ChangeAt Go.RowKit
open Go.ChangeMaps (open_string shut_string)
open Go.Proofs.Ytagmkggkkacpdaa.Base
set_option linter.unusedVariables false

theorem own : ownKnob Try.prog.godebug = none := by kernel_rfl
theorem laidOut : laidOutB Try.prog = true := by kernel_rfl

open Go.Proofs.Ytagmkggkkacpdaa.Led Go.Proofs.Ytagmkggkkacpdaa.LedPlain
set_option maxHeartbeats 2000000 in
theorem walk (a0 : Int) (a1 : Option Addr) (len1 cap1 : Nat) (z1 : List Bool) (w : World) (w0 : (Lit.int .u8 a0).wf = true) (w1 : Bools w a1 z1) (n1 : z1.length = len1) (m1 : len1 ≤ cap1) (o1 : cap1 ≤ maxLen) :
    Calls Try.prog 7 #[.int .u8 a0, .slice a1 len1 cap1] w fun e w' => e = .returned (.bool true) ∧ Below w.heap.size w w' := by
  obtain ⟨p0, p1⟩ := Base.u8_of w0
  subst n1
  unfold maxLen at o1
  have m0 : 0 ≤ a0 % 40 := by omega
  have mm1 : a0 % 40 < 40 := by omega
  have CP := new_any 8 (a0 % 40) (by decide) (by decide) m0 (by omega) w
  have CA := fun V => alive_led V
  have HE := fun (i : Nat) (hi : (i : Int) ≤ a0 % 40 + 1) => end_ok (m := a0 % 40) m0 (by omega) (fun i => z1.getD i false) i hi
  have HU := fun (i : Nat) => (show endG (a0 % 40) (fun i => z1.getD i false) (i + 1) = if z1.getD i false = true then skipG (endG (a0 % 40) (fun i => z1.getD i false) i) else settleG (sendG (endG (a0 % 40) (fun i => z1.getD i false) i) oneS) i 2 from rfl)
  have H0 : endG (a0 % 40) (fun i => z1.getD i false) 0 = newG 8 (a0 % 40) := rfl
  rw [← H0] at CP
  clear H0
  generalize hG : endG (a0 % 40) (fun i => z1.getD i false) = G at *
  have hm : a0 % 40 = a0 % 40 := rfl
  go_enter Try.func7, Try.ntmps7
  go_wp2_with (first
    | (go_at_call 8; refine CP.mono ?_; rintro e u1 ⟨a, rfl, P1, L1⟩; clear CP)
    | (go_at_call 10; refine (CA u1).mono ?_; rintro e u2 ⟨rfl, L2⟩; have M2 := Base.next L1 L2; have P2 := P1.below L2; clear CA))
  go_loopw [6, 7] (fun i _ wr => ∃ (t : Nat) (S : Nat → Prop), (t : Int) ≤ a0 % 40 + 1 ∧ i = .int .u64 t ∧ Led S wr a (G t) ∧ (∀ k, S k → w.heap.size ≤ k) ∧ Below w.heap.size w wr) (fun i _ _ => 41 - (intOf i).toNat)
  case atStart => exact ⟨0, _, by omega, rfl, P2, fun k hk => hk.1, M2⟩
  case round =>
    obtain ⟨i, S, hi, rfl, hP, hS, hL⟩ := hrel
    clear P2 M2 P1 L1 L2
    have hE := HE i hi
    have hU := Lib.hid (HU i)
    by_cases hlt : (i : Int) ≤ a0 % 40
    · have hgl : (G i).l.length ≤ 1000000 := by rw [hE.len]; omega
      by_cases hil : i < z1.length
      · have hilI : (i : Int) < (z1.length : Int) := by omega
        obtain ⟨bz, off, rfl, hbz, d0⟩ := (w1.below hL).at_ hil
        cases hfi : z1.getD i false with
        | true =>
          rw [hfi] at d0
          obtain ⟨e1, e2, _⟩ := hE.skip hlt
          have CK := skip_any hP hgl
          rw [e1, e2] at CK
          go_wp2_with (go_at_call 26; refine CK.mono ?_; rintro e u5 ⟨rfl, P5, F5⟩; have M5 := hL.trans (F5.toBelow' (B := w.heap.size) hL.size fun k _ hk => hS k hk); have S5 := plus_ge (w2 := u5) hS hL.size)
          all_goals go_roundw
          case rel => exact ⟨i + 1, _, by omega, by go_num, (by rw [hU.out, if_pos hfi]; exact P5), S5, M5⟩
          case measure => simp [intOf]; omega
        | false =>
          rw [hfi] at d0
          obtain ⟨e1, e2, e3, _, e5⟩ := hE.send hlt
          have CS := send_any hP oneS (by unfold Words oneS Z8; decide) hgl
          rw [e1, e2] at CS
          go_wp2_with (first
            | (go_at_call 20; refine CS.mono ?_; rintro e u5 ⟨rfl, P5, F5⟩; have M5 := hL.trans (F5.toBelow' (B := w.heap.size) hL.size fun k _ hk => hS k hk); have S5 := plus_ge (w2 := u5) hS hL.size; have CT := settle_any P5 i 2 (by omega) (by omega) (by decide) (by decide); rw [e3] at CT; clear CS)
            | (go_at_call 23; refine CT.mono ?_; rintro e u6 ⟨rfl, P6, F6⟩; have M6 := M5.trans (F6.toBelow' (B := w.heap.size) M5.size fun k _ hk => S5 k hk); have S6 := plus_ge (w2 := u6) S5 M5.size; clear CT))
          all_goals go_roundw
          case rel => exact ⟨i + 1, _, by omega, by go_num, (by rw [hU.out, if_neg (by rw [hfi]; decide)]; exact P6), S6, M6⟩
          case measure => simp [intOf]; omega
      · have hilI : (z1.length : Int) ≤ (i : Int) := by omega
        have hfi : z1.getD i false = false := by simp [List.getD, List.getElem?_eq_none (by omega : z1.length ≤ i)]
        obtain ⟨e1, e2, e3, _, e5⟩ := hE.send hlt
        have CS := send_any hP oneS (by unfold Words oneS Z8; decide) hgl
        rw [e1, e2] at CS
        go_wp2_with (first
          | (go_at_call 20; refine CS.mono ?_; rintro e u5 ⟨rfl, P5, F5⟩; have M5 := hL.trans (F5.toBelow' (B := w.heap.size) hL.size fun k _ hk => hS k hk); have S5 := plus_ge (w2 := u5) hS hL.size; have CT := settle_any P5 i 2 (by omega) (by omega) (by decide) (by decide); rw [e3] at CT; clear CS)
          | (go_at_call 23; refine CT.mono ?_; rintro e u6 ⟨rfl, P6, F6⟩; have M6 := M5.trans (F6.toBelow' (B := w.heap.size) M5.size fun k _ hk => S5 k hk); have S6 := plus_ge (w2 := u6) S5 M5.size; clear CT))
        all_goals go_roundw
        case rel => exact ⟨i + 1, _, by omega, by go_num, (by rw [hU.out, if_neg (by rw [hfi]; decide)]; exact P6), S6, M6⟩
        case measure => simp [intOf]; omega
    · have hin : (i : Int) = a0 % 40 + 1 := by omega
      obtain ⟨e1, e2, e3, e4, e5, e6, e7, e8, e9⟩ := hE.over (by omega)
      have hgl : (G i).l.length ≤ 1000000 := by rw [hE.len]; omega
      have hlenI : ((G i).l.length : Int) = a0 % 40 + 1 := by rw [hE.len]; exact hin
      have hlow : Sat.sub (a0 % 40 + 1) 8 = (lowN (G i) : Int) := by
        unfold Sat.sub lowN
        rw [hE.len, hE.ring]
        split <;> omega
      have CS := send_any hP oneS (by unfold Words oneS Z8; decide) hgl
      rw [e1, e2, e3] at CS
      clear HU HE hU hE
      generalize G i = g at *
      clear hG
      go_wp2_with (first
        | (go_at_call 20; refine CS.mono ?_; rintro e u5 ⟨rfl, P5, F5⟩; have M5 := hL.trans (F5.toBelow' (B := w.heap.size) hL.size fun k _ hk => hS k hk); have S5 := plus_ge (w2 := u5) hS hL.size; have CK := skip_any P5 hgl; rw [e4, e5, e6] at CK; clear CS)
        | (go_at_call 26; refine CK.mono ?_; rintro e u6 ⟨rfl, P6, F6⟩; have M6 := M5.trans (F6.toBelow' (B := w.heap.size) M5.size fun k _ hk => S5 k hk); have S6 := plus_ge (w2 := u6) S5 M5.size; have CZ := send_any P6 Z8 (by unfold Words Z8; decide) hgl; rw [e7, e8, e9] at CZ; clear CK)
        | (go_at_call 20; refine CZ.mono ?_; rintro e u7 ⟨rfl, P7, F7⟩; have M7 := M6.trans (F7.toBelow' (B := w.heap.size) M6.size fun k _ hk => S6 k hk); have CX := next_any P7; rw [hlenI] at CX; clear CZ)
        | (go_at_call 19; (with_reducible refine CX.mono ?_); rintro e u8 ⟨rfl, L8⟩; have M8 := M7.trans (L8.mono M7.size); have P8 := P7.below L8; have CY := next_any P8; rw [hlenI] at CY; clear CX)
        | (go_at_call 19; (with_reducible refine CY.mono ?_); rintro e u9 ⟨rfl, L9⟩; have M9 := M8.trans (L9.mono M8.size); have P9 := P8.below L9; have CB := Sat.ref_sub (a0 % 40 + 1) 8 (by omega) (by omega) (by decide) (by decide) u9; rw [hlow] at CB; clear CY)
        | (go_at_call 27; refine CB.mono ?_; rintro e u10 ⟨rfl, rfl⟩; have CW := low_any P9; clear CB)
        | (go_at_call 18; refine CW.mono ?_; rintro e u11 ⟨rfl, L11⟩; have M11 := M9.trans (L11.mono M9.size); clear CW))
      all_goals go_ret
      all_goals exact ⟨rfl, M11⟩

set_option maxRecDepth 100000 in
theorem lifted (os : Os) (started : os.Started) (H : Type) (enc : TypeId × Value → H) :
    ReturnsInHanded {} Try.checked os 7 .any (Rows.ledgerEndsSpec.pre6 enc Try.prog Try.f7 Rows.ledgerEndsRow.domain false) (Rows.ledgerEndsSpec.post enc Try.prog Try.f7 false true false false) := by
  refine returnsInHanded_of_change (C := Try.checked) own started (by kernel_rfl) Try.func7
    (ChangeSpec.witness6 (enc := enc) (C := Try.checked) false ⟨#[], #[.int .u8 0, .slice none 0 0], []⟩ 8 (by kernel_rfl) (by kernel_rfl) (by kernel_rfl) (by kernel_rfl)) ?_
  intro W base args ds gs before hval0 hW hcnd _
  have hval : ∀ (j : Nat) t v, Try.f7.params[j]? = some t → args[j]? = some v → Value.okWide Try.prog W .any base t v := hval0
  have hW' := hW
  obtain ⟨p, q, hA0, hV, rfl, hfz, hnd⟩ := hW
  have hA : DataW.TrodAll enc Try.prog W 0 (fun _ => true) true Try.f7.params.toList args.toList ds p := hA0
  rw [Try.params7] at hA hval
  obtain ⟨v0, vs0, d0, ds0, p0, q0, hargs, rfl, rfl, h0, r0⟩ := trodAll_cons hA
  obtain ⟨v1, vs1, d1, ds1, p1, q1, rfl, rfl, rfl, h1, r1⟩ := trodAll_cons r0
  obtain ⟨rfl, rfl, rfl⟩ := trodAll_nil r1
  obtain rfl : args = #[v0, v1] := by cases args; simp_all
  obtain ⟨rfl, rfl⟩ := trodVars_none hV
  obtain ⟨a0, rfl, rfl, rfl, w0⟩ := open_int Try.underlying5 (hval 0 5 v0 rfl rfl) h0
  obtain ⟨a1, len1, cap1, rfl⟩ := okWide_slice Try.underlying55 (hval 1 55 v1 rfl rfl)
  have k1 := h1
  have lt1 : ∀ x ∈ p1, x.block < W.heap.size := by obtain ⟨m, hm⟩ := k1; exact DataW.trod_lt m _ _ _ hm
  obtain ⟨z1, w1, n1, m1, o1⟩ : ∃ zs, Bools W a1 zs ∧ zs.length = len1 ∧ len1 ≤ cap1 ∧ cap1 ≤ maxLen := by
    obtain ⟨fuel, hf⟩ := h1
    rcases open_bools Try.underlying55 Try.underlying4 (by kernel_rfl) hf with ⟨hcs, hx⟩ | ⟨x, l, c, zs, E, S, hcs, hl, hm, hz, hx, hE, hS, hsp⟩
    · simp [Value.cells] at hcs
      obtain ⟨rfl, rfl, rfl⟩ := hcs
      exact ⟨[], Bools.nil _ _, rfl, Nat.le_refl _, Nat.zero_le _⟩
    · simp [Value.cells] at hcs
      obtain ⟨rfl, rfl, rfl⟩ := hcs
      exact ⟨zs, hsp, hz, hl, hm⟩
  clear hA0 hval0
  refine (walk a0 a1 len1 cap1 z1 W w0 w1 n1 m1 o1).mono fun e W' ⟨he, bel⟩ => ?_
  subst he
  exact ⟨_, rfl, _, _, _, [], _, [], hW', trodAll_mk1 (shut_bool Try.underlying4 _), (trodAll_cons_mk (shut_int Try.underlying5 w0) (trodAll_cons_mk (Below.trod laidOut (by kernel_rfl) (of_decide_eq_true (by kernel_rfl)) k1 bel lt1) trodAll_mk0)), rfl, bel.frame _, fun h => by cases h⟩

theorem over : Rows.ledgerEndsRow.holds Try.pinned (OpenSpec.ofChange Rows.ledgerEndsSpec) :=
  OpenClaim.holds_of_wide 7 Try.f7 rfl rfl rfl rfl rfl rfl rfl ⟨rfl, rfl, rfl, rfl, rfl⟩ rfl rfl rfl rfl rfl (by kernel_rfl) Try.func7 (by kernel_rfl)
    (of_decide_eq_true (by kernel_rfl)) (by unfold Func.isWrapper; first | (rw [if_pos (by decide +kernel)]; kernel_rfl) | (rw [if_neg (by decide +kernel)]; exact ⟨rfl, rfl⟩))
    (fun os started H enc _ => lifted os started H enc)

/-- The given statement. -/
theorem proved : Rows.LedgerEndsSaid :=
  over
#print axioms proved
end Go.Proofs.Ytagmkggkkacpdaa.ledgerEnds
