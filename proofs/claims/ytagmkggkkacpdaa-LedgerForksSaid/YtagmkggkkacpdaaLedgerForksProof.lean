/-
  A ledger and its fork tell the same, and neither touches the other. No conditions.
-/
import Derived.Test.YtagmkggkkacpdaaDeeds
import Derived.Test.YtagmkggkkacpdaaRows
import Derived.Test.YtagmkggkkacpdaaRow
import Derived.WalkKit
import Derived.ProofKit
import Derived.OpenShut
import Derived.ShutString
import Derived.ChangeOld
import Derived.Below
import Derived.Test.YtagmkggkkacpdaaLedMake
import Derived.Test.YtagmkggkkacpdaaLedAlive
namespace Go.Proofs.Ytagmkggkkacpdaa.ledgerForks
open Go.ChangeShapes Go.WideShapes Go.ChangeAt Go.RowKit
open Go.ChangeMaps (open_string shut_string)
open Go.Proofs.Ytagmkggkkacpdaa.Base
set_option linter.unusedVariables false

theorem own : ownKnob Try.prog.godebug = none := by kernel_rfl
theorem laidOut : laidOutB Try.prog = true := by kernel_rfl

open Go.Proofs.Ytagmkggkkacpdaa.Led Go.Proofs.Ytagmkggkkacpdaa.LedPlain
def moreG (g : Lg) (l : List Dd) (t : Nat) : Lg := (l.take t).foldl (fun g d => doG g false d.1 d.2.1 d.2.2) g
theorem more_succ {g : Lg} {l : List Dd} {t : Nat} (h : t < l.length) : moreG g l (t + 1) = doG (moreG g l t) false (l.getD t (0, 0, 0)).1 (l.getD t (0, 0, 0)).2.1 (l.getD t (0, 0, 0)).2.2 := by
  unfold moreG
  rw [List.take_add_one, List.foldl_append, show l[t]? = some (l.getD t (0, 0, 0)) by simp [List.getD, h]]
  rfl
theorem more_len (g : Lg) (l : List Dd) : ∀ t, (moreG g l t).l.length ≤ g.l.length + t
  | 0 => by simp [moreG]
  | t + 1 => by
    have ih := more_len g l t
    by_cases h : t < l.length
    · rw [more_succ h]
      have := doG_len (moreG g l t) false (l.getD t (0, 0, 0)).1 (l.getD t (0, 0, 0)).2.1 (l.getD t (0, 0, 0)).2.2
      omega
    · have e : moreG g l (t + 1) = moreG g l t := by
        unfold moreG
        rw [List.take_of_length_le (by omega), List.take_of_length_le (by omega)]
      rw [e]
      omega
theorem fork_pair {v1 v2 F : World} {a : Addr} {b x y x2 y2 d : Nat} {g : Lg} (P : Led (fun k => x ≤ k ∧ k < y) v1 a g) (R : Rf (fun k => x2 ≤ k ∧ k < y2) v2 b g) (h12 : Below v1.heap.size v1 v2) (h2F : Fr (fun k => k = d) v2 F) (hy : y ≤ x2) (hx2 : x2 ≤ y2) (hy2 : y2 ≤ v2.heap.size) (hd1 : ¬ (x ≤ d ∧ d < y)) (hd2 : ¬ (x2 ≤ d ∧ d < y2)) :
    Pair (fun k => (x ≤ k ∧ k < y) ∨ (x2 ≤ k ∧ k < y2)) F a b g := by
  have hs := h2F.size
  exact ⟨⟨_, _, (P.below h12).kept h2F fun k hk e => by subst e; exact hd1 hk, R.kept h2F fun k hk e => by subst e; exact hd2 hk, fun k hk => .inl hk, fun k hk => .inr hk, fun k h1 h2 => by omega⟩, fun k hk => by omega⟩
theorem set_fr (w : World) (d : Nat) (v0 v1 : Value) : Fr (fun k => k = d) w ((w.setCell ⟨d, 0, none⟩ v0).setCell ⟨d, 1, none⟩ v1) :=
  ((Fr.of_below (S := fun k => k = d) (Below.refl w.heap.size w)).setCell (p := ⟨d, 0, none⟩) (fun _ => rfl) v0).setCell (p := ⟨d, 1, none⟩) (fun _ => rfl) v1
set_option maxHeartbeats 2000000 in
theorem walk (a0 : Int) (a1 : Option Addr) (len1 cap1 : Nat) (z1 : List Dd) (a2 : Option Addr) (len2 cap2 : Nat) (z2 : List Dd) (w : World) (w0 : (Lit.int .u8 a0).wf = true) (w1 : Deeds w a1 z1) (n1 : z1.length = len1) (m1 : len1 ≤ cap1) (o1 : cap1 ≤ maxLen) (f1 : ∀ d ∈ z1, Fit d) (w2 : Deeds w a2 z2) (n2 : z2.length = len2) (m2 : len2 ≤ cap2) (o2 : cap2 ≤ maxLen) (f2 : ∀ d ∈ z2, Fit d) :
    Calls Try.prog 6 #[.int .u8 a0, .slice a1 len1 cap1, .slice a2 len2 cap2] w fun e w' => e = .returned (.bool true) ∧ Below w.heap.size w w' := by
  obtain ⟨p0, p1⟩ := Base.u8_of w0
  subst n1
  subst n2
  unfold maxLen at o2
  have q0 : 0 ≤ a0 % 40 := by omega
  have q1 : a0 % 40 < 40 := by omega
  have CM := make_any (a0 % 40) 4611686018427387903 (by omega) (by omega) (by decide) (by decide) a1 z1.length cap1 z1 w rfl m1 o1 f1 w1
  have CA := fun V => alive_led V
  have hml := made_len (a0 % 40) 4611686018427387903 z1
  generalize madeG (a0 % 40) 4611686018427387903 z1 = g at *
  go_enter Try.func6, Try.ntmps6
  go_upto_region 2 with (go_at_call 13; refine CM.mono ?_; rintro e u1 ⟨a, b, S, rfl, P1, hS, L1⟩)
  have hC := Blk.new u1 #[.pointer (some a), .pointer (some ⟨b, 0, none⟩)] 29
  have hL := L1.alloc L1.size (.cells #[.pointer (some a), .pointer (some ⟨b, 0, none⟩)] 29)
  have hP := P1.below ((Below.refl _ _).alloc (Nat.le_refl _) (.cells #[.pointer (some a), .pointer (some ⟨b, 0, none⟩)] 29))
  have hSc : ∀ k, S k → w.heap.size ≤ k ∧ k ≠ u1.heap.size := fun k hk => ⟨hS k hk, by have := P1.lt k hk; omega⟩
  generalize u1.alloc (.cells #[.pointer (some a), .pointer (some ⟨b, 0, none⟩)] 29) = V at *
  generalize u1.heap.size = c at *
  clear P1 L1 CM hS
  have w2V := w2.below hL
  by_cases h40 : 40 < z2.length
  · have h40I : (40 : Int) < (z2.length : Int) := by omega
    go_wp2_with (first
      | (go_at_call 10; (with_reducible refine (CA V).mono ?_); rintro e u3 ⟨rfl, L3⟩; have M3 := hL.trans (L3.mono hL.size))
      | (go_at_call 10; (with_reducible refine (CA u3).mono ?_); rintro e u4 ⟨rfl, L4⟩; have M4 := M3.trans (L4.mono M3.size)))
    all_goals go_ret
    all_goals exact ⟨rfl, M4⟩
  · have h40I : (z2.length : Int) ≤ 40 := by omega
    go_upto_region 4 with (go_at_call 10; refine (CA V).mono ?_; rintro e u3 ⟨rfl, L3⟩; have M3 := hL.trans (L3.mono hL.size); have C3 := hC.below L3 hC.lt; have c0 : u3.cell? ⟨c, 0, none⟩ = some (.pointer (some a)) := C3.cell 0; have c1 : u3.cell? ⟨c, 1, none⟩ = some (.pointer (some ⟨b, 0, none⟩)) := C3.cell 1; have P3 := hP.below L3; clear hC)
    have hgn : g.l.length ≤ 1000000 := by omega
    have hu3 := P3.lt
    have M3w := M3
    go_cut [9] from 34 to 40 (fun s wx => ∃ (d bp : Nat) (ap : Addr) (S2 : Nat → Prop), s = .pointer (some ⟨d, 0, none⟩) ∧ Blk wx d #[.pointer (some ap), .pointer (some ⟨bp, 0, none⟩)] 29 ∧ Blk wx c #[.pointer (some a), .pointer (some ⟨b, 0, none⟩)] 29 ∧ Pair S wx a b g ∧ Pair S2 wx ap bp g ∧ (∀ k, S2 k → u3.heap.size ≤ k ∧ k ≠ d) ∧ u3.heap.size ≤ d ∧ Below u3.heap.size u3 wx)
    case first =>
      have lc0 := C3.lt
      have H0 : Below u3.heap.size u3 u3.drew := Base.drew1 (Below.refl _ _)
      have k0 : ∀ o, (u3.drew.alloc o).cell? ⟨c, 0, none⟩ = some (.pointer (some a)) ∧ (u3.drew.alloc o).cell? ⟨c, 1, none⟩ = some (.pointer (some ⟨b, 0, none⟩)) := fun o => ⟨(C3.alloc o).cell 0, (C3.alloc o).cell 1⟩
      go_region_held3 (fun u => u.cell? ⟨c, 0, none⟩ = some (.pointer (some a)) ∧ u.cell? ⟨c, 1, none⟩ = some (.pointer (some ⟨b, 0, none⟩))) (first | exact ⟨c0, c1⟩ | exact k0 _ | exact k1 _ | exact ⟨c01, c11⟩ | exact ⟨c02, c12⟩ | exact k2 _ | exact k3 _ _ _ (by omega) | go_keep) (first
        | (go_at_call 24; (first
            | (refine (fork_any (P3.below H0).led hgn).mono ?_; rintro e v1 ⟨ap, rfl, Q1, K1⟩; have N1 := Base.next H0 K1; replace Q1 : Led (fun k => u3.heap.size ≤ k ∧ k < v1.heap.size) v1 ap g := Q1)
            | (refine (fork_any (P3.below (H0.alloc H0.size _)).led hgn).mono ?_; rintro e v1 ⟨ap, rfl, Q1, K1⟩; have N1 := Base.next (H0.alloc H0.size _) K1; have s4 := K1.size; rw [World.size_alloc] at s4; replace s4 : u3.heap.size + 1 ≤ v1.heap.size := s4; rw [World.size_alloc] at Q1; replace Q1 : Led (fun k => u3.heap.size + 1 ≤ k ∧ k < v1.heap.size) v1 ap g := Q1; have Z1 := (Blk.new u3.drew #[.pointer none, .pointer none] 29).below K1 (by simp))); have c01 := keepCell N1 c0; have c11 := keepCell N1 c1; have lc1 := (C3.below N1 C3.lt).lt; have k1 : ∀ o, (v1.alloc o).cell? ⟨c, 0, none⟩ = some (.pointer (some a)) ∧ (v1.alloc o).cell? ⟨c, 1, none⟩ = some (.pointer (some ⟨b, 0, none⟩)) := fun o => ⟨((C3.below N1 C3.lt).alloc o).cell 0, ((C3.below N1 C3.lt).alloc o).cell 1⟩)
        | (go_at_call 25; (first
            | (refine (ref_fork (P3.below N1).rf hgn).mono ?_; rintro e v2 ⟨bp, rfl, Q2, K2⟩; have N2 := Base.next N1 K2; have E12 := K2; have c02 := keepCell N2 c0; have c12 := keepCell N2 c1; have k2 : ∀ o, (v2.alloc o).cell? ⟨c, 0, none⟩ = some (.pointer (some a)) ∧ (v2.alloc o).cell? ⟨c, 1, none⟩ = some (.pointer (some ⟨b, 0, none⟩)) := fun o => ⟨((C3.below N2 C3.lt).alloc o).cell 0, ((C3.below N2 C3.lt).alloc o).cell 1⟩; have k3 : ∀ (d : Nat) (x0 x1 : Value), c ≠ d → ((v2.setCell ⟨d, 0, none⟩ x0).setCell ⟨d, 1, none⟩ x1).cell? ⟨c, 0, none⟩ = some (.pointer (some a)) ∧ ((v2.setCell ⟨d, 0, none⟩ x0).setCell ⟨d, 1, none⟩ x1).cell? ⟨c, 1, none⟩ = some (.pointer (some ⟨b, 0, none⟩)) := fun d x0 x1 hd => ⟨(((C3.below N2 C3.lt).other (by simpa using hd) x0).other (by simpa using hd) x1).cell 0, (((C3.below N2 C3.lt).other (by simpa using hd) x0).other (by simpa using hd) x1).cell 1⟩; (try (have Z2 : Blk v2 u3.heap.size #[.pointer none, .pointer none] 29 := Z1.below K2 (by first | exact Z1.lt | simp); have y0 : v2.cell? ⟨u3.heap.size, 0, none⟩ = some (.pointer none) := Z2.cell 0; have y1 : v2.cell? ⟨u3.heap.size, 1, none⟩ = some (.pointer none) := Z2.cell 1; have fz0 := Z2.free 0; have fz1 := Z2.free 1; have zl := Z2.lt)))
            | (refine (ref_fork (P3.below (N1.alloc N1.size _)).rf hgn).mono ?_; rintro e v2 ⟨bp, rfl, Q2, K2⟩; have N2 := Base.next (N1.alloc N1.size _) K2; rw [World.size_alloc] at Q2; have c02 := keepCell N2 c0; have c12 := keepCell N2 c1; have k2 : ∀ o, (v2.alloc o).cell? ⟨c, 0, none⟩ = some (.pointer (some a)) ∧ (v2.alloc o).cell? ⟨c, 1, none⟩ = some (.pointer (some ⟨b, 0, none⟩)) := fun o => ⟨((C3.below N2 C3.lt).alloc o).cell 0, ((C3.below N2 C3.lt).alloc o).cell 1⟩; have k3 : ∀ (d : Nat) (x0 x1 : Value), c ≠ d → ((v2.setCell ⟨d, 0, none⟩ x0).setCell ⟨d, 1, none⟩ x1).cell? ⟨c, 0, none⟩ = some (.pointer (some a)) ∧ ((v2.setCell ⟨d, 0, none⟩ x0).setCell ⟨d, 1, none⟩ x1).cell? ⟨c, 1, none⟩ = some (.pointer (some ⟨b, 0, none⟩)) := fun d x0 x1 hd => ⟨(((C3.below N2 C3.lt).other (by simpa using hd) x0).other (by simpa using hd) x1).cell 0, (((C3.below N2 C3.lt).other (by simpa using hd) x0).other (by simpa using hd) x1).cell 1⟩; have E12 := Base.next ((Below.refl _ v1).alloc (Nat.le_refl _) _) K2; have Z1 := (Blk.new v1 #[.pointer none, .pointer none] 29); have Z2 : Blk v2 v1.heap.size #[.pointer none, .pointer none] 29 := Z1.below K2 (by first | exact Z1.lt | simp); have y0 : v2.cell? ⟨v1.heap.size, 0, none⟩ = some (.pointer none) := Z2.cell 0; have y1 : v2.cell? ⟨v1.heap.size, 1, none⟩ = some (.pointer none) := Z2.cell 1; have fz0 := Z2.free 0; have fz1 := Z2.free 1; have zl := Z2.lt))))
      all_goals go_wp2
      all_goals go_meet
      all_goals have s1 := N1.size
      all_goals have s2 := E12.size
      all_goals have s3 := K2.size
      · exact ⟨_, bp, ap, _, rfl, Blk.new _ _ _, (C3.below N2 C3.lt).alloc _, (P3.below N2).below ((Below.refl _ _).alloc (Nat.le_refl _) _), fork_pair Q1 Q2 E12 (Fr.of_below (S := fun k => k = v2.heap.size) ((Below.refl _ _).alloc (Nat.le_refl _) _)) (Nat.le_refl _) s3 (Nat.le_refl _) (by omega) (by omega), fun k hk => by omega, by omega, N2.alloc N2.size _⟩
      · exact ⟨v1.heap.size, bp, ap, _, rfl, (Z2.set 0 _).set 1 _, ((C3.below N2 C3.lt).other (by simp only; omega) _).other (by simp only; omega) _, (P3.below N2).kept (set_fr v2 v1.heap.size (.pointer (some ap)) (.pointer (some ⟨bp, 0, none⟩))) (fun k hk e => by have := hu3 k hk; omega), fork_pair Q1 Q2 E12 (set_fr v2 v1.heap.size (.pointer (some ap)) (.pointer (some ⟨bp, 0, none⟩))) (by omega) (by simp at s3; omega) (Nat.le_refl _) (by omega) (by omega), fun k hk => by omega, by omega, (N2.setCell (by simp; omega) _).setCell (by simp; omega) _⟩
      · exact ⟨u3.heap.size, bp, ap, _, rfl, (Z2.set 0 _).set 1 _, ((C3.below N2 C3.lt).other (by simp only; omega) _).other (by simp only; omega) _, (P3.below N2).kept (set_fr v2 u3.heap.size (.pointer (some ap)) (.pointer (some ⟨bp, 0, none⟩))) (fun k hk e => by have := hu3 k hk; omega), fork_pair Q1 Q2 E12 (set_fr v2 u3.heap.size (.pointer (some ap)) (.pointer (some ⟨bp, 0, none⟩))) (Nat.le_refl _) s3 (Nat.le_refl _) (by omega) (by omega), fun k hk => by omega, by omega, (N2.setCell (by simp) _).setCell (by simp) _⟩
    case rest =>
      obtain ⟨d, bp, ap, S2, rfl, hD, hC, hP, hQ, hS2, hd3, hLc⟩ := hcut
      have hL4 := M3w.trans (hLc.mono M3w.size)
      have hS2' : ∀ k, S2 k → w.heap.size ≤ k ∧ k ≠ d ∧ k ≠ c ∧ ¬ S k := fun k hk => by
        have h1 := hS2 k hk
        have h2 := M3w.size
        have h3 := C3.lt
        exact ⟨by omega, h1.2, by omega, fun hs => by have := hu3 k hs; omega⟩
      have hdc : d ≠ c := by have h3 := C3.lt; omega
      have hdS : ¬ S d := fun hs => by have := hu3 d hs; omega
      clear hu3 C3 P3 c0 c1 M3 hLc
      have CS := two_same hQ hgn
      have d0 : wc.cell? ⟨d, 0, none⟩ = some (.pointer (some ap)) := hD.cell 0
      have d1 : wc.cell? ⟨d, 1, none⟩ = some (.pointer (some ⟨bp, 0, none⟩)) := hD.cell 1
      go_wp2_with (go_at_call 12; refine CS.mono ?_; rintro e u5 ⟨rfl, L5⟩; have D5 := hD.below L5 hD.lt; have C5 := hC.below L5 hC.lt; have P5 := hP.below L5; have Q5 := hQ.below L5; have M5 := hL4.trans (L5.mono hL4.size))
      have h0 : moreG g z2 0 = g := rfl
      rw [← h0] at Q5
      go_loopw [10] (fun i wr => ∃ (t : Nat) (S3 : Nat → Prop), t ≤ z2.length ∧ i = .int .i64 t ∧ Pair S3 wr ap bp (moreG g z2 t) ∧ (∀ k, S3 k → w.heap.size ≤ k ∧ k ≠ d ∧ k ≠ c ∧ ¬ S k) ∧ Pair S wr a b g ∧ Blk wr d #[.pointer (some ap), .pointer (some ⟨bp, 0, none⟩)] 29 ∧ Blk wr c #[.pointer (some a), .pointer (some ⟨b, 0, none⟩)] 29 ∧ Below w.heap.size w wr) (fun i _ => z2.length - (intOf i).toNat)
      case atStart => exact ⟨0, _, Nat.zero_le _, rfl, Q5, hS2', P5, D5, C5, M5⟩
      case round =>
        clear Q5 P5 D5 C5 M5 CS hQ hP hD hC hL4 hS2' hS2
        obtain ⟨t, S3, ht, rfl, hQ, hS3, hP, hD, hC, hL⟩ := hrel
        have d0 : wr.cell? ⟨d, 0, none⟩ = some (.pointer (some ap)) := hD.cell 0
        have d1 : wr.cell? ⟨d, 1, none⟩ = some (.pointer (some ⟨bp, 0, none⟩)) := hD.cell 1
        have hul := more_len g z2 t
        by_cases hlt : t < z2.length
        · have hlI : (t : Int) < (z2.length : Int) := by omega
          obtain ⟨bz, off, rfl, hbz, e0, e1, e2⟩ := (w2.below hL).at_ hlt
          have hU := Lib.hid (more_succ (g := g) hlt)
          have hFit := f2 (z2.getD t (0, 0, 0)) (by simp [List.getD, hlt])
          generalize z2.getD t (0, 0, 0) = dd at *
          obtain ⟨k, A, B⟩ := dd
          obtain ⟨f0, f1, f2⟩ := hFit
          simp only at e0 e1 e2 f0 f1 f2
          obtain ⟨A0, A1⟩ := Base.u64_of f1
          obtain ⟨B0, B1⟩ := Base.u64_of f2
          have S0 : Below wr.heap.size wr wr.drew := Base.drew1 (Below.refl _ _)
          have CD := two_do_fit (hQ.below S0) (by omega) k A B A0 A1 B0 B1
          have hPlt := hP.lt
          go_upto_region 10 with fail
          go_region_with (go_at_call 11; refine CD.mono ?_; rintro e u6 ⟨rfl, Q6, F6⟩; replace F6 := F6.undrew; have D6 := hD.kept F6 (fun e => (hS3 _ e).2.1 rfl); have C6 := hC.kept F6 (fun e => (hS3 _ e).2.2.1 rfl); have P6 := hP.kept F6 (fun k hk e => (hS3 _ e).2.2.2 hk); have M6 := hL.trans (F6.toBelow' (B := w.heap.size) hL.size fun k _ hk => (hS3 k hk).1))
          all_goals go_wp2
          all_goals exact ⟨⟨t + 1, _, by omega, by go_num, (by rw [hU.out]; exact Q6), fun k hk => (by
            rcases hk with hk | hk
            · exact hS3 k hk
            · have h1 := hL.size
              have h2 := hD.lt
              have h3 := hC.lt
              simp at hk
              exact ⟨by omega, by omega, by omega, fun hs => by have := hPlt k hs; omega⟩), P6, D6, C6, M6⟩, by simp [intOf]; omega⟩
        · obtain rfl : t = z2.length := by omega
          have C1 := two_same hQ (by omega)
          go_wp2_with (first
            | (go_at_call 12; (with_reducible refine C1.mono ?_); rintro e u6 ⟨rfl, L6⟩; have M6 := hL.trans (L6.mono hL.size); have C6 := hC.below L6 hC.lt; have x0 : u6.cell? ⟨c, 0, none⟩ = some (.pointer (some a)) := C6.cell 0; have x1 : u6.cell? ⟨c, 1, none⟩ = some (.pointer (some ⟨b, 0, none⟩)) := C6.cell 1; have C2 := two_same (hP.below L6) hgn; clear C1)
            | (go_at_call 12; (with_reducible refine C2.mono ?_); rintro e u7 ⟨rfl, L7⟩; have M7 := M6.trans (L7.mono M6.size)))
          all_goals go_ret
          all_goals exact ⟨rfl, M7⟩

set_option maxRecDepth 100000 in
theorem lifted (os : Os) (started : os.Started) (H : Type) (enc : TypeId × Value → H) :
    ReturnsInHanded {} Try.checked os 6 .any (Rows.ledgerForksSpec.pre6 enc Try.prog Try.f6 Rows.ledgerForksRow.domain false) (Rows.ledgerForksSpec.post enc Try.prog Try.f6 false true false false) := by
  refine returnsInHanded_of_change (C := Try.checked) own started (by kernel_rfl) Try.func6
    (ChangeSpec.witness6 (enc := enc) (C := Try.checked) false ⟨#[], #[.int .u8 0, .slice none 0 0, .slice none 0 0], []⟩ 8 (by kernel_rfl) (by kernel_rfl) (by kernel_rfl) (by kernel_rfl)) ?_
  intro W base args ds gs before hval0 hW hcnd _
  have hval : ∀ (j : Nat) t v, Try.f6.params[j]? = some t → args[j]? = some v → Value.okWide Try.prog W .any base t v := hval0
  have hW' := hW
  obtain ⟨p, q, hA0, hV, rfl, hfz, hnd⟩ := hW
  have hA : DataW.TrodAll enc Try.prog W 0 (fun _ => true) true Try.f6.params.toList args.toList ds p := hA0
  rw [Try.params6] at hA hval
  obtain ⟨v0, vs0, d0, ds0, p0, q0, hargs, rfl, rfl, h0, r0⟩ := trodAll_cons hA
  obtain ⟨v1, vs1, d1, ds1, p1, q1, rfl, rfl, rfl, h1, r1⟩ := trodAll_cons r0
  obtain ⟨v2, vs2, d2, ds2, p2, q2, rfl, rfl, rfl, h2, r2⟩ := trodAll_cons r1
  obtain ⟨rfl, rfl, rfl⟩ := trodAll_nil r2
  obtain rfl : args = #[v0, v1, v2] := by cases args; simp_all
  obtain ⟨rfl, rfl⟩ := trodVars_none hV
  obtain ⟨a0, rfl, rfl, rfl, w0⟩ := open_int Try.underlying5 (hval 0 5 v0 rfl rfl) h0
  obtain ⟨a1, len1, cap1, rfl⟩ := okWide_slice Try.underlying23 (hval 1 23 v1 rfl rfl)
  have k1 := h1
  have lt1 : ∀ x ∈ p1, x.block < W.heap.size := by obtain ⟨m, hm⟩ := k1; exact DataW.trod_lt m _ _ _ hm
  obtain ⟨z1, w1, n1, m1, o1, f1⟩ : ∃ zs, Deeds W a1 zs ∧ zs.length = len1 ∧ len1 ≤ cap1 ∧ cap1 ≤ maxLen ∧ (∀ d ∈ zs, Fit d) := by
    obtain ⟨fuel, hf⟩ := h1
    rcases open_deeds Try.underlying23 Try.underlying33 (by kernel_rfl) (by kernel_rfl) Try.underlying3 Try.underlying22 Try.underlying22 hf with ⟨hcs, hx⟩ | ⟨x, l, c, zs, E, S, hcs, hl, hm, hz, hx, hE, hS, hsp, hwz⟩
    · simp [Value.cells] at hcs
      obtain ⟨rfl, rfl, rfl⟩ := hcs
      exact ⟨[], Deeds.nil _ _, rfl, Nat.le_refl _, Nat.zero_le _, fun _ h => by cases h⟩
    · simp [Value.cells] at hcs
      obtain ⟨rfl, rfl, rfl⟩ := hcs
      exact ⟨zs, hsp, hz, hl, hm, hwz⟩
  obtain ⟨a2, len2, cap2, rfl⟩ := okWide_slice Try.underlying23 (hval 2 23 v2 rfl rfl)
  have k2 := h2
  have lt2 : ∀ x ∈ p2, x.block < W.heap.size := by obtain ⟨m, hm⟩ := k2; exact DataW.trod_lt m _ _ _ hm
  obtain ⟨z2, w2, n2, m2, o2, f2⟩ : ∃ zs, Deeds W a2 zs ∧ zs.length = len2 ∧ len2 ≤ cap2 ∧ cap2 ≤ maxLen ∧ (∀ d ∈ zs, Fit d) := by
    obtain ⟨fuel, hf⟩ := h2
    rcases open_deeds Try.underlying23 Try.underlying33 (by kernel_rfl) (by kernel_rfl) Try.underlying3 Try.underlying22 Try.underlying22 hf with ⟨hcs, hx⟩ | ⟨x, l, c, zs, E, S, hcs, hl, hm, hz, hx, hE, hS, hsp, hwz⟩
    · simp [Value.cells] at hcs
      obtain ⟨rfl, rfl, rfl⟩ := hcs
      exact ⟨[], Deeds.nil _ _, rfl, Nat.le_refl _, Nat.zero_le _, fun _ h => by cases h⟩
    · simp [Value.cells] at hcs
      obtain ⟨rfl, rfl, rfl⟩ := hcs
      exact ⟨zs, hsp, hz, hl, hm, hwz⟩
  clear hA0 hval0
  refine (walk a0 a1 len1 cap1 z1 a2 len2 cap2 z2 W w0 w1 n1 m1 o1 f1 w2 n2 m2 o2 f2).mono fun e W' ⟨he, bel⟩ => ?_
  subst he
  exact ⟨_, rfl, _, _, _, [], _, [], hW', trodAll_mk1 (shut_bool Try.underlying4 _), (trodAll_cons_mk (shut_int Try.underlying5 w0) (trodAll_cons_mk (Below.trod laidOut (by kernel_rfl) (of_decide_eq_true (by kernel_rfl)) k1 bel lt1) (trodAll_cons_mk (Below.trod laidOut (by kernel_rfl) (of_decide_eq_true (by kernel_rfl)) k2 bel lt2) trodAll_mk0))), rfl, bel.frame _, fun h => by cases h⟩

theorem over : Rows.ledgerForksRow.holds Try.pinned (OpenSpec.ofChange Rows.ledgerForksSpec) :=
  OpenClaim.holds_of_wide 6 Try.f6 rfl rfl rfl rfl rfl rfl rfl ⟨rfl, rfl, rfl, rfl, rfl⟩ rfl rfl rfl rfl rfl (by kernel_rfl) Try.func6 (by kernel_rfl)
    (of_decide_eq_true (by kernel_rfl)) (by unfold Func.isWrapper; first | (rw [if_pos (by decide +kernel)]; kernel_rfl) | (rw [if_neg (by decide +kernel)]; exact ⟨rfl, rfl⟩))
    (fun os started H enc _ => lifted os started H enc)

/-- The given statement. -/
theorem proved : Rows.LedgerForksSaid :=
  over
#print axioms proved
end Go.Proofs.Ytagmkggkkacpdaa.ledgerForks
