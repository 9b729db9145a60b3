/-
  Contracts of ack's reading of a row and of all fields.
-/
import Derived.Test.YtangljeceohdpaaDoorAckFn
namespace Go.Proofs.YtangljeceohdpaaDoor.Ack
set_option linter.unusedVariables false
set_option maxRecDepth 20000
open Go.ChangeShapes Go.WideShapes Go.ChangeAt Go.RowKit
open Go.Proofs.YtangljeceohdpaaDoor.Base Go.Proofs.YtangljeceohdpaaDoor.OctPlain Go.Proofs.YtangljeceohdpaaDoor.Tab Go.Proofs.YtangljeceohdpaaDoor.Oct Go.Proofs.YtangljeceohdpaaDoor.SpanPlain
open Go.Proofs.YtangljeceohdpaaDoor.AckPlain (K putAck getAck getRow getSp putSp getNum comb Fit)

/-- What a reading of a row comes to. -/
def RdPost (S : Nat → Prop) (w : World) (b : Nat) (l : List Int) (R : List Sp × Nat × Int) : Ending → World → Prop := fun e w' => ∃ (a : Option Addr) (c : Nat), e = .returned (.tuple #[.slice a R.1.length c, .int .i64 R.2.2]) ∧
  (R.2.2 = 0 → Rd S w' b (l.drop R.2.1)) ∧ R.1.length ≤ c ∧ c ≤ maxLen ∧ (a = none → R.1.length = 0 ∧ c = 0) ∧ RowIn (fun k => w.heap.size ≤ k) w' a (flat R.1) ∧ Fr (fun k => k = b) w w'
theorem rd_bad {S : Nat → Prop} {w w' : World} {b : Nat} {l : List Int} {R : List Sp × Nat × Int} {e : Int} (h : R = ([], 0, e)) (he : e ≠ 0) (hF : Fr (fun k => k = b) w w') : RdPost S w b l R (.returned (.tuple #[.slice none 0 0, .int .i64 e])) w' := by
  subst h
  exact ⟨none, 0, rfl, fun h => absurd h he, Nat.le_refl _, Nat.zero_le _, (fun _ => ⟨rfl, rfl⟩), RowIn.nil _ _ _, hF⟩
theorem own_fr {T : Nat → Prop} {base : Nat} {w w' : World} {v : Value} {l : List Sp} (h : Base.Own base w v l) (hf : Fr T w w') (hn : ∀ k, base ≤ k → ¬ T k) : Base.Own base w' v l := ownsRow_fr h hf hn
set_option maxHeartbeats 2000000 in
theorem row_rd {S : Nat → Prop} {w : World} {b : Nat} {l : List Int} (h : Rd S w b l) (hb : Bytes l) (hr : l.length ≤ 140737488355328) (least : Int) (f0 : 0 ≤ least) (f1 : least ≤ 1) :
    Calls Tryd.prog 47 #[.pointer (some ⟨b, 0, none⟩), .int .i64 least] w (RdPost S w b l (getRow least l)) := by
  have hbl : b < w.heap.size := by obtain ⟨_, _, _, hB, _⟩ := h; exact hB.lt
  have hc := byte_any h hr
  cases l with
  | nil =>
    go_enter Tryd.func47, Tryd.ntmps47
    go_wp2_with (go_at_call 54; refine hc.mono ?_; rintro e w1 ⟨rfl, H1, F1⟩; simp only [byteV, byteE])
    all_goals go_ret2
    all_goals exact rd_bad (e := 2) rfl (by decide) F1
  | cons x q =>
    obtain ⟨x0, x1⟩ := hb.head
    have hbq := hb.tail
    have hrq : q.length ≤ 140737488355328 := by rw [List.length_cons] at hr; omega
    by_cases hx : x < least ∨ 32 < x
    · have hR : getRow least (x :: q) = ([], 0, 5) := by rw [getRow, if_pos hx]
      rw [hR]
      clear hR
      go_enter Tryd.func47, Tryd.ntmps47
      go_wp2_with (go_at_call 54; refine hc.mono ?_; rintro e w1 ⟨rfl, H1, F1⟩; simp only [byteV, byteE])
      all_goals go_ret2
      all_goals exact rd_bad (e := 5) rfl (by decide) F1
    · have hR : getRow least (x :: q) = if (getSp x.toNat 0 q).2.2 ≠ 0 then ([], 0, (getSp x.toNat 0 q).2.2) else ((getSp x.toNat 0 q).1, 1 + (getSp x.toNat 0 q).2.1, 0) := by rw [getRow, if_neg hx]
      obtain ⟨m, hm⟩ : ∃ m : Nat, x = m := ⟨x.toNat, by omega⟩
      subst hm
      rw [Int.toNat_natCast] at hR
      have hm32 : (m : Int) ≤ 32 := by omega
      generalize getRow least ((m : Int) :: q) = R at hR ⊢
      have HR := Lib.hid hR
      clear hR
      have HB : ∀ e, e ≠ 0 → getSp m 0 q = ([], 0, e) → R = ([], 0, e) := fun e he h => by rw [HR.out, h]; exact if_pos he
      have hxl : least ≤ (m : Int) := by omega
      go_enter Tryd.func47, Tryd.ntmps47
      go_wp2_with (go_at_call 54; refine hc.mono ?_; rintro e w1 ⟨rfl, H1, F1⟩; simp only [byteV, byteE]; have H1' := rd_mono (T := fun k => S k ∧ k < w1.heap.size) H1 (fun k hk hs => ⟨hs, hk⟩))
      go_loopw [8, 9, 30] (fun o lo i wr => ∃ (k t' : Nat) (low : Int) (pre : List Sp), k ≤ m ∧ i = .int .u8 k ∧ lo = .int .u64 low ∧ Base.Own w1.heap.size wr o pre ∧ pre.length = k ∧ t' ≤ q.length ∧ getSp m 0 q = comb pre t' (getSp (m - k) low (q.drop t')) ∧ 0 ≤ low ∧ low ≤ 4611686018427387905 ∧ Rd (fun k => S k ∧ k < w1.heap.size) wr b (q.drop t') ∧ Fr (fun k => k = b) w1 wr) (fun _ _ i _ => m - (intOf i).toNat)
      case atStart => exact ⟨0, 0, 0, [], Nat.zero_le _, rfl, rfl, Base.Own.nil _ _, rfl, Nat.zero_le _, by rw [Nat.sub_zero, List.drop_zero, AckPlain.comb_start], Int.le_refl _, by decide, H1', Fr.refl _ _⟩
      case round =>
        obtain ⟨k, t', low, pre, hk, rfl, rfl, hown, hpl, ht, hg, hlow, hlow2, hRd, hF⟩ := hrel
        by_cases hkm : k < m
        · obtain ⟨j, hj⟩ : ∃ j, m - k = j + 1 := ⟨m - k - 1, by omega⟩
          rw [hj] at hg
          have hkI : (k : Int) < (m : Int) := by omega
          have hbt := hbq.drop t'
          have hrt : (q.drop t').length ≤ 140737488355328 := by rw [List.length_drop]; omega
          have C := span_any hRd hbt hrt low hlow hlow2
          have hdd : (q.drop t').drop (spK (q.drop t')) = q.drop (t' + spK (q.drop t')) := by rw [List.drop_drop]
          have hsl := sp_len (q.drop t')
          rw [List.length_drop] at hsl
          have hsb := sp_bd (low := low) hbt hlow
          rw [hdd] at C
          by_cases hz : spE low (q.drop t') = 0
          · have hG := sp_go pre t' j hbt hz
            rw [← hg, hdd] at hG
            have hown1 := fun W (hW : Fr (fun k => k = b) wr W) => own_fr hown hW (fun k hk e => by have := F1.size; omega)
            rw [hz] at C
            generalize spV low (q.drop t') = s at *
            obtain ⟨u, v⟩ := s
            dsimp only at C hG hsb
            obtain ⟨⟨u0, u1⟩, v0, v1⟩ := hsb
            have HG := Lib.hid (show getSp m 0 q = comb (pre ++ [(u, v)]) (t' + spK (q.drop t')) (getSp (m - (k + 1)) (v + 2) (q.drop (t' + spK (q.drop t')))) by rw [hG, show m - (k + 1) = j by omega])
            have HT := Lib.hid (show t' + spK (q.drop t') ≤ q.length by omega)
            generalize t' + spK (q.drop t') = t2 at *
            have hpl' := Lib.hid hpl
            have hkN := Lib.hid hkm
            have hpk : pre.length ≤ 32 := by omega
            clear hG hg hdd hsl hz hbt hrt hj hkm hpl hown hRd HB HR hk
            go_wp2_with (first
              | (go_at_call 58; refine C.mono ?_; rintro e w2 ⟨rfl, H2, F2⟩; have H2' := H2 trivial; have hO2 := hown1 _ F2; have hs2 := Nat.le_trans hF.size F2.size; clear H2 C)
              | (at_builtin; refine wpl_add (W := w2.alloc (.cells #[.int .u64 u, .int .u64 v] 55)) (x := u) (y := v) rfl (.tmp 41) (.tmp 43) rfl rfl (hO2.alloc _) rfl (by simp) (by omega) (by simp; omega) ?_; intro v3 w3 A3; have A3h := Lib.hid A3; have c0 := A3.keep (b := w2.heap.size) (o := 0) (u := .int .u64 u) (by simp) (hO2.ne (Or.inl (Nat.le_refl _))); have c1 := A3.keep (b := w2.heap.size) (o := 1) (u := .int .u64 v) (by simp) (hO2.ne (Or.inl (Nat.le_refl _))); have L3 : Below w1.heap.size w2 w3 := A3.below ((Below.refl _ _).alloc hs2 _) (Nat.le_refl _); clear A3)
              | (go_at_call 43; refine (above_any (u, v) v0 v1 _).mono ?_; rintro e w4 ⟨rfl, L4⟩))
            all_goals go_roundw
            case rel => exact ⟨k + 1, t2, v + 2, _, hkN.out, by go_num, rfl, A3h.out.own.below L4, by rw [List.length_append, hpl'.out]; rfl, HT.out, HG.out, by omega, by omega, (H2'.below L3 (fun k hk => hk.2)).below L4 (fun k hk => by have := L3.size; have := hk.2; omega), ((hF.trans F2 (fun _ _ h => h)).trans (Fr.of_old (S := fun k => w1.heap.size ≤ k) L3 (fun k _ h => h)) (fun k hk h => by omega)).trans (Fr.of_below (S := fun k => k = b) L4) (fun _ _ h => h)⟩
            case measure => simp [intOf]; omega
          · have hX : R = ([], 0, spE low (q.drop t')) := HB _ hz (hg.trans (sp_bad _ _ _ hbt hz))
            have HX := Lib.hid hX
            generalize spE low (q.drop t') = er at *
            clear hX hg hdd hsl hbt hrt hj hkm hpl hown hRd HB HR hk hsb
            go_wp2_with (go_at_call 58; refine C.mono ?_; rintro e w2 ⟨rfl, H2, F2⟩)
            all_goals go_ret2
            all_goals exact rd_bad (e := er) HX.out hz (((F1.trans hF (fun _ _ h => h)).trans F2 (fun _ _ h => h)).alloc _)
        · obtain rfl : k = m := by omega
          rw [Nat.sub_self, AckPlain.comb_end] at hg
          have hR := HR.out
          rw [hg] at hR
          have hR' : R = (pre, 1 + t', 0) := hR.trans (if_neg (by simp))
          subst hR'
          obtain ⟨a, cap, rfl, h1, h2, h3, h4⟩ := hown.read
          clear hR hg HR HB hpl hown
          go_wp2
          all_goals go_ret2
          all_goals exact ⟨a, cap, rfl, fun _ => by rw [show (1 : Nat) + t' = t' + 1 by omega]; exact rd_mono hRd (fun k _ h => h.1), h1, h2, h3, h4.mono (fun k _ hk => Nat.le_trans F1.size hk), F1.trans hF (fun _ _ h => h)⟩
open Go.Proofs.YtangljeceohdpaaDoor.HeadPlain (wrd wrd_len wrd_bd)
theorem word_rd {S : Nat → Prop} {w : World} {b : Nat} {l : List Int} (h : Rd S w b l) (hb : Bytes l) (hr : l.length ≤ 140737488355328) :
    Calls Tryd.prog 48 #[.pointer (some ⟨b, 0, none⟩)] w fun e w' => e = .returned (.tuple #[.int .u64 (wrd l).1, .int .i64 (wrd l).2.2]) ∧ Rd S w' b (l.drop (wrd l).2.1) ∧ Fr (fun k => k = b) w w' := by
  by_cases h8 : l.length < 8
  · rw [show wrd l = (0, 0, 2) from if_pos h8]
    exact (word_short h h8).mono fun e w' ⟨he, hw⟩ => by subst hw; exact ⟨he, h, Fr.refl _ _⟩
  · rw [show wrd l = (val (l.take 8), 8, 0) from if_neg h8]
    exact word_any h hb (by omega) hr
theorem kind_bad {l : List Int} (h : kindE 2 l ≠ 0) : getAck l = (AckPlain.zero, kindE 2 l) := by
  cases l with
  | nil => rfl
  | cons x q =>
    have hk : kindE 2 (x :: q) = if x = 2 then 0 else 4 := rfl
    by_cases hx : x = 2
    · rw [hk, if_pos hx] at h; exact absurd rfl h
    · rw [hk, if_neg hx, getAck, if_pos hx]
theorem kind_ok {l : List Int} (h : kindE 2 l = 0) : ∃ q, l = 2 :: q := by
  cases l with
  | nil => cases h
  | cons x q =>
    have hk : kindE 2 (x :: q) = if x = 2 then 0 else 4 := rfl
    by_cases hx : x = 2
    · exact ⟨q, by rw [hx]⟩
    · rw [hk, if_neg hx] at h; cases h
theorem h5_bad (sp mk : List Sp) (trig xr : Int) {l : List Int} (h : flagE l ≠ 0) : AckPlain.h5 sp mk trig xr l = (AckPlain.zero, flagE l) := by
  cases l with
  | nil => rfl
  | cons x q =>
    have hk : flagE (x :: q) = if 1 < x then 5 else 0 := rfl
    by_cases hx : 1 < x
    · rw [hk, if_pos hx, AckPlain.h5, if_pos hx]
    · rw [hk, if_neg hx] at h; exact absurd rfl h
theorem h5_ok (sp mk : List Sp) (trig xr : Int) {l : List Int} (h : flagE l = 0) : AckPlain.h5 sp mk trig xr l = if l.drop 1 ≠ [] then (AckPlain.zero, 3) else if inside mk sp then (⟨sp, mk, trig, xr, flagV l⟩, 0) else (AckPlain.zero, 5) := by
  cases l with
  | nil => cases h
  | cons x q =>
    have hk : flagE (x :: q) = if 1 < x then 5 else 0 := rfl
    by_cases hx : 1 < x
    · rw [hk, if_pos hx] at h; cases h
    · rw [AckPlain.h5, if_neg hx]; rfl
/-- What the reading of all fields comes to. -/
def FdPost (S : Nat → Prop) (w : World) (b : Nat) (l : List Int) : Ending → World → Prop := fun e w' => ∃ (a : Option Addr) (n c : Nat) (a2 : Option Addr) (m d : Nat) (trig xor : Int) (par : Bool) (er : Int),
  e = .returned (.tuple #[.agg #[.slice a n c, .slice a2 m d, .int .u64 trig, .int .u64 xor, .bool par], .int .i64 er]) ∧ Fr (fun k => k = b) w w' ∧ (er ≠ 0 → getAck l = (AckPlain.zero, er)) ∧
  (er = 0 → ∃ (sp mk : List Sp) (r : List Int), getAck l = (if r ≠ [] then (AckPlain.zero, 3) else if inside mk sp then (⟨sp, mk, trig, xor, par⟩, 0) else (AckPlain.zero, 5)) ∧ Rd S w' b r ∧ good sp = true ∧ good mk = true ∧
    (sp.length = n ∧ n ≤ 32 ∧ n ≤ c ∧ c ≤ maxLen ∧ (a = none → n = 0 ∧ c = 0) ∧ RowIn (fun k => w.heap.size ≤ k) w' a (flat sp)) ∧ (mk.length = m ∧ m ≤ 32 ∧ m ≤ d ∧ d ≤ maxLen ∧ (a2 = none → m = 0 ∧ d = 0) ∧ RowIn (fun k => w.heap.size ≤ k) w' a2 (flat mk)))
/-- The fields being read: the result's block at the first world's end, two rows of the call's own. -/
structure Rf (b : Nat) (w0 w : World) (v0 v1 v2 v3 v4 : Value) (a : Option Addr) (xs : List Value) (a2 : Option Addr) (ys : List Value) : Prop where
  blk : Blk w w0.heap.size #[v0, v1, v2, v3, v4] 25
  fr : Fr (fun k => k = b) w0 w
  one : RowIn (fun k => w0.heap.size + 1 ≤ k) w a xs
  two : RowIn (fun k => w0.heap.size + 1 ≤ k) w a2 ys
  old : b < w0.heap.size
section
variable {b : Nat} {w0 w w' : World} {v0 v1 v2 v3 v4 : Value} {a a2 a' : Option Addr} {xs ys zs : List Value}
theorem Rf.call (h : Rf b w0 w v0 v1 v2 v3 v4 a xs a2 ys) (hF : Fr (fun k => k = b) w w') : Rf b w0 w' v0 v1 v2 v3 v4 a xs a2 ys :=
  ⟨h.blk.kept hF (by have := h.old; omega), h.fr.trans hF (fun _ _ h => h), h.one.kept hF (fun k hk e => by have := h.old; omega), h.two.kept hF (fun k hk e => by have := h.old; omega), h.old⟩
theorem Rf.size (h : Rf b w0 w v0 v1 v2 v3 v4 a xs a2 ys) : w0.heap.size + 1 ≤ w.heap.size := h.blk.lt
theorem Rf.row1 (h : Rf b w0 w v0 v1 v2 v3 v4 a xs a2 ys) (hF : Fr (fun k => k = b) w w') (hR : RowIn (fun k => w.heap.size ≤ k) w' a' zs) : Rf b w0 w' v0 v1 v2 v3 v4 a' zs a2 ys :=
  ⟨(h.call hF).blk, (h.call hF).fr, hR.mono (fun k _ hk => by have := h.size; omega), (h.call hF).two, h.old⟩
theorem Rf.row2 (h : Rf b w0 w v0 v1 v2 v3 v4 a xs a2 ys) (hF : Fr (fun k => k = b) w w') (hR : RowIn (fun k => w.heap.size ≤ k) w' a' zs) : Rf b w0 w' v0 v1 v2 v3 v4 a xs a' zs :=
  ⟨(h.call hF).blk, (h.call hF).fr, (h.call hF).one, hR.mono (fun k _ hk => by have := h.size; omega), h.old⟩
theorem fr_put (g : Nat) (i : Nat) (w : World) (u : Value) : Fr (fun k => k = g) w (w.setCell ⟨g, i, none⟩ u) := Fr.setCell (S := fun k => k = g) (Fr.refl _ _) (p := ⟨g, i, none⟩) (fun _ => rfl) _
theorem Rf.keep (h : Rf b w0 w v0 v1 v2 v3 v4 a xs a2 ys) (hF : Fr (fun k => k = w0.heap.size) w w') : Fr (fun k => k = b) w0 w' ∧ RowIn (fun k => w0.heap.size + 1 ≤ k) w' a xs ∧ RowIn (fun k => w0.heap.size + 1 ≤ k) w' a2 ys :=
  ⟨h.fr.trans hF (fun k hk e => by omega), h.one.kept hF (fun k hk e => by omega), h.two.kept hF (fun k hk e => by omega)⟩
theorem Rf.put0 (h : Rf b w0 w v0 v1 v2 v3 v4 a xs a2 ys) (u : Value) : Rf b w0 (w.setCell ⟨w0.heap.size, 0, none⟩ u) u v1 v2 v3 v4 a xs a2 ys :=
  have k := h.keep (fr_put _ 0 w u); ⟨h.blk.set 0 u, k.1, k.2.1, k.2.2, h.old⟩
theorem Rf.put1 (h : Rf b w0 w v0 v1 v2 v3 v4 a xs a2 ys) (u : Value) : Rf b w0 (w.setCell ⟨w0.heap.size, 1, none⟩ u) v0 u v2 v3 v4 a xs a2 ys :=
  have k := h.keep (fr_put _ 1 w u); ⟨h.blk.set 1 u, k.1, k.2.1, k.2.2, h.old⟩
theorem Rf.put2 (h : Rf b w0 w v0 v1 v2 v3 v4 a xs a2 ys) (u : Value) : Rf b w0 (w.setCell ⟨w0.heap.size, 2, none⟩ u) v0 v1 u v3 v4 a xs a2 ys :=
  have k := h.keep (fr_put _ 2 w u); ⟨h.blk.set 2 u, k.1, k.2.1, k.2.2, h.old⟩
theorem Rf.put3 (h : Rf b w0 w v0 v1 v2 v3 v4 a xs a2 ys) (u : Value) : Rf b w0 (w.setCell ⟨w0.heap.size, 3, none⟩ u) v0 v1 v2 u v4 a xs a2 ys :=
  have k := h.keep (fr_put _ 3 w u); ⟨h.blk.set 3 u, k.1, k.2.1, k.2.2, h.old⟩
theorem Rf.put4 (h : Rf b w0 w v0 v1 v2 v3 v4 a xs a2 ys) (u : Value) : Rf b w0 (w.setCell ⟨w0.heap.size, 4, none⟩ u) v0 v1 v2 v3 u a xs a2 ys :=
  have k := h.keep (fr_put _ 4 w u); ⟨h.blk.set 4 u, k.1, k.2.1, k.2.2, h.old⟩
theorem Rf.set5 (h : Rf b w0 w v0 v1 v2 v3 v4 a xs a2 ys) (u0 u1 u2 u3 u4 : Value) : Rf b w0 (set5 w w0.heap.size u0 u1 u2 u3 u4) u0 u1 u2 u3 u4 a xs a2 ys :=
  ((((h.put0 u0).put1 u1).put2 u2).put3 u3).put4 u4
end
theorem rd_put {S : Nat → Prop} {w0 w : World} {b : Nat} {l : List Int} (h : Rd (fun k => S k ∧ k < w0.heap.size) w b l) (i : Nat) (u : Value) : Rd (fun k => S k ∧ k < w0.heap.size) (w.setCell ⟨w0.heap.size, i, none⟩ u) b l :=
  h.kept (fr_put _ i w u) (fun k hk e => by have := hk.2; omega)
theorem fd_bad {S : Nat → Prop} {w w' : World} {b : Nat} {l : List Int} {a a2 : Option Addr} {n c m d : Nat} {trig xor : Int} {par : Bool} {er : Int} (h : getAck l = (AckPlain.zero, er)) (he : er ≠ 0) (hF : Fr (fun k => k = b) w w') :
    FdPost S w b l (.returned (.tuple #[.agg #[.slice a n c, .slice a2 m d, .int .u64 trig, .int .u64 xor, .bool par], .int .i64 er])) w' :=
  ⟨a, n, c, a2, m, d, trig, xor, par, er, rfl, hF, fun _ => h, fun e => absurd e he⟩
set_option maxHeartbeats 4000000 in
theorem fields_any {S : Nat → Prop} {w : World} {b : Nat} {l : List Int} (h : Rd S w b l) (hb : Bytes l) (hr : l.length ≤ 140737488355328) :
    Calls Tryd.prog 30 #[.pointer (some ⟨b, 0, none⟩)] w (FdPost S w b l) := by
  have hbl : b < w.heap.size := by obtain ⟨_, _, _, hB, _⟩ := h; exact hB.lt
  have R0 : Rf b w (w.alloc (.cells #[.slice none 0 0, .slice none 0 0, .int .u64 0, .int .u64 0, .bool false] 25)) (.slice none 0 0) (.slice none 0 0) (.int .u64 0) (.int .u64 0) (.bool false) none [] none [] :=
    ⟨Blk.new _ _ _, (Fr.refl _ _).alloc _, RowIn.nil _ _ _, RowIn.nil _ _ _, hbl⟩
  have h0 : Rd (fun k => S k ∧ k < w.heap.size) (w.alloc (.cells #[.slice none 0 0, .slice none 0 0, .int .u64 0, .int .u64 0, .bool false] 25)) b l := (rd_mono (T := fun k => S k ∧ k < w.heap.size) h (fun k hk hs => ⟨hs, hk⟩)).kept (T := fun _ => False) ((Fr.refl _ _).alloc _) (fun _ _ e => e)
  have hbd : ∀ t, Bytes (l.drop t) := fun t => hb.drop t
  have hrd : ∀ t, (l.drop t).length ≤ 140737488355328 := fun t => by rw [List.length_drop]; omega
  obtain ⟨⟨sp, k1, e1⟩, n1⟩ : ∃ r, getRow 1 (l.drop 1) = r := ⟨_, rfl⟩
  obtain ⟨t1, u1⟩ : ∃ t1, t1 = 1 + k1 := ⟨_, rfl⟩
  obtain ⟨⟨mk, k2, e2⟩, n2⟩ : ∃ r, getRow 0 (l.drop t1) = r := ⟨_, rfl⟩
  obtain ⟨t2, u2⟩ : ∃ t2, t2 = t1 + k2 := ⟨_, rfl⟩
  obtain ⟨⟨trig, k3, e3⟩, n3⟩ : ∃ r, wrd (l.drop t2) = r := ⟨_, rfl⟩
  obtain ⟨t3, u3⟩ : ∃ t3, t3 = t2 + k3 := ⟨_, rfl⟩
  obtain ⟨⟨xr, k4, e4⟩, n4⟩ : ∃ r, wrd (l.drop t3) = r := ⟨_, rfl⟩
  obtain ⟨t4, u4⟩ : ∃ t4, t4 = t3 + k4 := ⟨_, rfl⟩
  have HA := fun q (hq : l = 2 :: q) => AckPlain.ack_at hq n1 u1 n2 u2 n3 u3 n4 u4
  have d1 : (l.drop 1).drop k1 = l.drop t1 := by rw [List.drop_drop, u1]
  have d2 : (l.drop t1).drop k2 = l.drop t2 := by rw [List.drop_drop, u2]
  have d3 : (l.drop t2).drop k3 = l.drop t3 := by rw [List.drop_drop, u3]
  have d4 : (l.drop t3).drop k4 = l.drop t4 := by rw [List.drop_drop, u4]
  have c0 := kind_any h0 hr 2
  have c1 := fun W (H : Rd (fun k => S k ∧ k < w.heap.size) W b (l.drop 1)) => row_rd H (hbd 1) (hrd 1) 1 (by decide) (by decide)
  have c2 := fun W (H : Rd (fun k => S k ∧ k < w.heap.size) W b (l.drop t1)) => row_rd H (hbd t1) (hrd t1) 0 (by decide) (by decide)
  have c3 := fun W (H : Rd (fun k => S k ∧ k < w.heap.size) W b (l.drop t2)) => word_rd H (hbd t2) (hrd t2)
  have c4 := fun W (H : Rd (fun k => S k ∧ k < w.heap.size) W b (l.drop t3)) => word_rd H (hbd t3) (hrd t3)
  have c5 := fun W (H : Rd (fun k => S k ∧ k < w.heap.size) W b (l.drop t4)) => flag_any H (hrd t4)
  unfold RdPost at c1 c2
  rw [n1] at c1
  rw [n2] at c2
  rw [n3] at c3
  rw [n4] at c4
  dsimp only at c1 c2 c3 c4
  rw [d1] at c1
  rw [d2] at c2
  rw [d3] at c3
  rw [d4] at c4
  have g1 := fun (he : e1 = 0) => AckPlain.getRow_one (least := 1) (hbd 1) (by rw [n1, he])
  have g2 := fun (he : e2 = 0) => AckPlain.getRow_one (least := 0) (hbd t1) (by rw [n2, he])
  have X0 := fun (hk : kindE 2 l ≠ 0) => kind_bad hk
  have X1 : kindE 2 l = 0 → getAck l = if e1 ≠ 0 then (AckPlain.zero, e1) else if e2 ≠ 0 then (AckPlain.zero, e2) else if e3 ≠ 0 then (AckPlain.zero, e3) else if e4 ≠ 0 then (AckPlain.zero, e4) else AckPlain.h5 sp mk trig xr (l.drop t4) := fun hk => by
    obtain ⟨q, hq⟩ := kind_ok hk
    exact HA q hq
  have X2 := fun (hk : flagE (l.drop t4) ≠ 0) => h5_bad sp mk trig xr hk
  have X3 := fun (hk : flagE (l.drop t4) = 0) => h5_ok sp mk trig xr hk
  generalize kindE 2 l = e0 at *
  generalize flagE (l.drop t4) = e5 at *
  generalize flagV (l.drop t4) = par at *
  generalize (l.drop t4).drop 1 = q5 at *
  generalize l.drop t4 = q4 at *
  generalize l.drop t3 = q3 at *
  generalize l.drop t2 = q2 at *
  generalize l.drop t1 = q1 at *
  generalize l.drop 1 = q0 at *
  clear HA n1 n2 n3 n4 d1 d2 d3 d4 u1 u2 u3 u4 hbd hrd h0 h hb hr
  have hG0 : Hid (e0 ≠ 0 → getAck l = (AckPlain.zero, e0)) := Lib.hid X0
  have hG1 : Hid (e0 = 0 → e1 ≠ 0 → getAck l = (AckPlain.zero, e1)) := Lib.hid fun h0 h1 => by rw [X1 h0, if_pos h1]
  have hG2 : Hid (e0 = 0 → e1 = 0 → e2 ≠ 0 → getAck l = (AckPlain.zero, e2)) := Lib.hid fun h0 h1 h2 => by rw [X1 h0, if_neg (by simp [h1]), if_pos h2]
  have hG3 : Hid (e0 = 0 → e1 = 0 → e2 = 0 → e3 ≠ 0 → getAck l = (AckPlain.zero, e3)) := Lib.hid fun h0 h1 h2 h3 => by rw [X1 h0, if_neg (by simp [h1]), if_neg (by simp [h2]), if_pos h3]
  have hG4 : Hid (e0 = 0 → e1 = 0 → e2 = 0 → e3 = 0 → e4 ≠ 0 → getAck l = (AckPlain.zero, e4)) := Lib.hid fun h0 h1 h2 h3 h4 => by rw [X1 h0, if_neg (by simp [h1]), if_neg (by simp [h2]), if_neg (by simp [h3]), if_pos h4]
  have hG5 : Hid (e0 = 0 → e1 = 0 → e2 = 0 → e3 = 0 → e4 = 0 → (e5 ≠ 0 → getAck l = (AckPlain.zero, e5)) ∧ (e5 = 0 → getAck l = if q5 ≠ [] then (AckPlain.zero, 3) else if inside mk sp then (⟨sp, mk, trig, xr, par⟩, 0) else (AckPlain.zero, 5))) := Lib.hid fun h0 h1 h2 h3 h4 => by
    rw [X1 h0, if_neg (by simp [h1]), if_neg (by simp [h2]), if_neg (by simp [h3]), if_neg (by simp [h4])]
    exact ⟨X2, X3⟩
  have hg := Lib.hid (And.intro g1 g2)
  clear X0 X1 X2 X3 g1 g2
  by_cases z0 : e0 = 0
  · subst z0
    by_cases z1 : e1 = 0
    · subst z1
      by_cases z2 : e2 = 0
      · subst z2
        by_cases z3 : e3 = 0
        · subst z3
          by_cases z4 : e4 = 0
          · subst z4
            have hE := Lib.hid (hG5.out rfl rfl rfl rfl rfl)
            have hg' := Lib.hid (And.intro (hg.out.1 rfl) (hg.out.2 rfl))
            clear hG0 hG1 hG2 hG3 hG4 hG5 hg
            go_enter Tryd.func30, Tryd.ntmps30
            go_wp2_with (first
                  | (go_at_call 38; refine c0.mono ?_; rintro e w1 ⟨rfl, H1, F1⟩; have R1 := R0.call F1; clear R0 c0 F1)
                  | (go_at_call 47; (with_reducible refine (c1 _ H1).mono ?_); rintro e w2 ⟨a1, m1, rfl, H2, i1, i2, i3, RI, F2⟩; have R2 := R1.row1 F2 RI; clear R1 c1 F2 RI H1; obtain ⟨p0, p1, p2, p3, p4⟩ := blk5 R2.blk; have f0 := R2.blk.free 0; have f1 := R2.blk.free 1; have f2 := R2.blk.free 2; have f3 := R2.blk.free 3; have f4 := R2.blk.free 4)
                  | (go_at_call 47; refine (c2 _ (rd_put (H2 (by trivial)) 0 _)).mono ?_; rintro e w3 ⟨a2, m2, rfl, H3, j1, j2, j3, RJ, F3⟩; have R3 := (R2.put0 _).row2 F3 RJ; clear R2 c2 F3 RJ H2 p0 p1 p2 p3 p4 f0 f1 f2 f3 f4; obtain ⟨p0, p1, p2, p3, p4⟩ := blk5 R3.blk; have f0 := R3.blk.free 0; have f1 := R3.blk.free 1; have f2 := R3.blk.free 2; have f3 := R3.blk.free 3; have f4 := R3.blk.free 4)
                  | (go_at_call 48; (with_reducible refine (c3 _ (rd_put (H3 (by trivial)) 1 _)).mono ?_); rintro e w4 ⟨rfl, H4, F4⟩; have R4 := (R3.put1 _).call F4; clear R3 c3 F4 H3 p0 p1 p2 p3 p4 f0 f1 f2 f3 f4; obtain ⟨p0, p1, p2, p3, p4⟩ := blk5 R4.blk; have f0 := R4.blk.free 0; have f1 := R4.blk.free 1; have f2 := R4.blk.free 2; have f3 := R4.blk.free 3; have f4 := R4.blk.free 4)
                  | (go_at_call 48; refine (c4 _ (rd_put H4 2 _)).mono ?_; rintro e w5 ⟨rfl, H5, F5⟩; have R5 := (R4.put2 _).call F5; clear R4 c4 F5 H4 p0 p1 p2 p3 p4 f0 f1 f2 f3 f4; obtain ⟨p0, p1, p2, p3, p4⟩ := blk5 R5.blk; have f0 := R5.blk.free 0; have f1 := R5.blk.free 1; have f2 := R5.blk.free 2; have f3 := R5.blk.free 3; have f4 := R5.blk.free 4)
                  | (go_at_call 49; refine (c5 _ (rd_put H5 3 _)).mono ?_; rintro e w6 ⟨rfl, H6, F6⟩; have R6 := (R5.put3 _).call F6; clear R5 c5 F6 H5 p0 p1 p2 p3 p4 f0 f1 f2 f3 f4; obtain ⟨p0, p1, p2, p3, p4⟩ := blk5 R6.blk; have f0 := R6.blk.free 0; have f1 := R6.blk.free 1; have f2 := R6.blk.free 2; have f3 := R6.blk.free 3; have f4 := R6.blk.free 4))
            have X := (R6.put4 (.bool par)).set5 (.slice a1 sp.length m1) (.slice a2 mk.length m2) (.int .u64 trig) (.int .u64 xr) (.bool par)
            have Y := R6.keep ((fr_put _ 4 w6 (.bool par)).trans (set5_fr _ _ (.slice a1 sp.length m1) (.slice a2 mk.length m2) (.int .u64 trig) (.int .u64 xr) (.bool par)) (fun _ _ h => h))
            refine bodyPost_ret (results_row2 rfl _ _ w.heap.size 25 #[.slice a1 sp.length m1, .slice a2 mk.length m2, .int .u64 trig, .int .u64 xr, .bool par] _ rfl X.blk Tryd.underlying25 rfl (by kernel_rfl)) rfl ?_
            have Z := rd_mono ((rd_put H6 4 (.bool par)).kept (set5_fr _ _ (.slice a1 sp.length m1) (.slice a2 mk.length m2) (.int .u64 trig) (.int .u64 xr) (.bool par)) (T := fun k => k = w.heap.size) (fun k hk e => by have := hk.2; omega)) (T := S) (fun k _ h => h.1)
            obtain ⟨⟨y1, _, y2, _⟩, y3, _, y4, _⟩ := hg'.out
            exact ⟨a1, sp.length, m1, a2, mk.length, m2, trig, xr, par, e5, rfl, X.fr, hE.out.1, fun z => ⟨sp, mk, q5, hE.out.2 z, Z, y1, y3, ⟨rfl, by omega, i1, i2, i3, X.one.mono (fun k _ hk => by omega)⟩, rfl, by omega, j1, j2, j3, X.two.mono (fun k _ hk => by omega)⟩⟩
          · have hE := Lib.hid (hG4.out rfl rfl rfl rfl z4)
            clear hG0 hG1 hG2 hG3 hG4 hG5 hg c5
            go_enter Tryd.func30, Tryd.ntmps30
            go_wp2_with (first
                  | (go_at_call 38; refine c0.mono ?_; rintro e w1 ⟨rfl, H1, F1⟩; have R1 := R0.call F1; clear R0 c0 F1)
                  | (go_at_call 47; (with_reducible refine (c1 _ H1).mono ?_); rintro e w2 ⟨a1, m1, rfl, H2, i1, i2, i3, RI, F2⟩; have R2 := R1.row1 F2 RI; clear R1 c1 F2 RI H1; obtain ⟨p0, p1, p2, p3, p4⟩ := blk5 R2.blk; have f0 := R2.blk.free 0; have f1 := R2.blk.free 1; have f2 := R2.blk.free 2; have f3 := R2.blk.free 3; have f4 := R2.blk.free 4)
                  | (go_at_call 47; refine (c2 _ (rd_put (H2 (by trivial)) 0 _)).mono ?_; rintro e w3 ⟨a2, m2, rfl, H3, j1, j2, j3, RJ, F3⟩; have R3 := (R2.put0 _).row2 F3 RJ; clear R2 c2 F3 RJ H2 p0 p1 p2 p3 p4 f0 f1 f2 f3 f4; obtain ⟨p0, p1, p2, p3, p4⟩ := blk5 R3.blk; have f0 := R3.blk.free 0; have f1 := R3.blk.free 1; have f2 := R3.blk.free 2; have f3 := R3.blk.free 3; have f4 := R3.blk.free 4)
                  | (go_at_call 48; (with_reducible refine (c3 _ (rd_put (H3 (by trivial)) 1 _)).mono ?_); rintro e w4 ⟨rfl, H4, F4⟩; have R4 := (R3.put1 _).call F4; clear R3 c3 F4 H3 p0 p1 p2 p3 p4 f0 f1 f2 f3 f4; obtain ⟨p0, p1, p2, p3, p4⟩ := blk5 R4.blk; have f0 := R4.blk.free 0; have f1 := R4.blk.free 1; have f2 := R4.blk.free 2; have f3 := R4.blk.free 3; have f4 := R4.blk.free 4)
                  | (go_at_call 48; refine (c4 _ (rd_put H4 2 _)).mono ?_; rintro e w5 ⟨rfl, H5, F5⟩; have R5 := (R4.put2 _).call F5; clear R4 c4 F5 H4 p0 p1 p2 p3 p4 f0 f1 f2 f3 f4; obtain ⟨p0, p1, p2, p3, p4⟩ := blk5 R5.blk; have f0 := R5.blk.free 0; have f1 := R5.blk.free 1; have f2 := R5.blk.free 2; have f3 := R5.blk.free 3; have f4 := R5.blk.free 4))
            have X := (R5.put3 (.int .u64 xr)).set5 (.slice a1 sp.length m1) (.slice a2 mk.length m2) (.int .u64 trig) (.int .u64 xr) (.bool false)
            refine bodyPost_ret (results_row2 rfl _ _ w.heap.size 25 #[.slice a1 sp.length m1, .slice a2 mk.length m2, .int .u64 trig, .int .u64 xr, .bool false] _ rfl X.blk Tryd.underlying25 rfl (by kernel_rfl)) rfl ?_
            exact fd_bad hE.out z4 X.fr
        · have hE := Lib.hid (hG3.out rfl rfl rfl z3)
          clear hG0 hG1 hG2 hG3 hG4 hG5 hg c4 c5
          go_enter Tryd.func30, Tryd.ntmps30
          go_wp2_with (first
                | (go_at_call 38; refine c0.mono ?_; rintro e w1 ⟨rfl, H1, F1⟩; have R1 := R0.call F1; clear R0 c0 F1)
                | (go_at_call 47; (with_reducible refine (c1 _ H1).mono ?_); rintro e w2 ⟨a1, m1, rfl, H2, i1, i2, i3, RI, F2⟩; have R2 := R1.row1 F2 RI; clear R1 c1 F2 RI H1; obtain ⟨p0, p1, p2, p3, p4⟩ := blk5 R2.blk; have f0 := R2.blk.free 0; have f1 := R2.blk.free 1; have f2 := R2.blk.free 2; have f3 := R2.blk.free 3; have f4 := R2.blk.free 4)
                | (go_at_call 47; refine (c2 _ (rd_put (H2 (by trivial)) 0 _)).mono ?_; rintro e w3 ⟨a2, m2, rfl, H3, j1, j2, j3, RJ, F3⟩; have R3 := (R2.put0 _).row2 F3 RJ; clear R2 c2 F3 RJ H2 p0 p1 p2 p3 p4 f0 f1 f2 f3 f4; obtain ⟨p0, p1, p2, p3, p4⟩ := blk5 R3.blk; have f0 := R3.blk.free 0; have f1 := R3.blk.free 1; have f2 := R3.blk.free 2; have f3 := R3.blk.free 3; have f4 := R3.blk.free 4)
                | (go_at_call 48; (with_reducible refine (c3 _ (rd_put (H3 (by trivial)) 1 _)).mono ?_); rintro e w4 ⟨rfl, H4, F4⟩; have R4 := (R3.put1 _).call F4; clear R3 c3 F4 H3 p0 p1 p2 p3 p4 f0 f1 f2 f3 f4; obtain ⟨p0, p1, p2, p3, p4⟩ := blk5 R4.blk; have f0 := R4.blk.free 0; have f1 := R4.blk.free 1; have f2 := R4.blk.free 2; have f3 := R4.blk.free 3; have f4 := R4.blk.free 4))
          have X := (R4.put2 (.int .u64 trig)).set5 (.slice a1 sp.length m1) (.slice a2 mk.length m2) (.int .u64 trig) (.int .u64 0) (.bool false)
          refine bodyPost_ret (results_row2 rfl _ _ w.heap.size 25 #[.slice a1 sp.length m1, .slice a2 mk.length m2, .int .u64 trig, .int .u64 0, .bool false] _ rfl X.blk Tryd.underlying25 rfl (by kernel_rfl)) rfl ?_
          exact fd_bad hE.out z3 X.fr
      · have hE := Lib.hid (hG2.out rfl rfl z2)
        clear hG0 hG1 hG2 hG3 hG4 hG5 hg c3 c4 c5
        go_enter Tryd.func30, Tryd.ntmps30
        go_wp2_with (first
              | (go_at_call 38; refine c0.mono ?_; rintro e w1 ⟨rfl, H1, F1⟩; have R1 := R0.call F1; clear R0 c0 F1)
              | (go_at_call 47; (with_reducible refine (c1 _ H1).mono ?_); rintro e w2 ⟨a1, m1, rfl, H2, i1, i2, i3, RI, F2⟩; have R2 := R1.row1 F2 RI; clear R1 c1 F2 RI H1; obtain ⟨p0, p1, p2, p3, p4⟩ := blk5 R2.blk; have f0 := R2.blk.free 0; have f1 := R2.blk.free 1; have f2 := R2.blk.free 2; have f3 := R2.blk.free 3; have f4 := R2.blk.free 4)
              | (go_at_call 47; refine (c2 _ (rd_put (H2 (by trivial)) 0 _)).mono ?_; rintro e w3 ⟨a2, m2, rfl, H3, j1, j2, j3, RJ, F3⟩; have R3 := (R2.put0 _).row2 F3 RJ; clear R2 c2 F3 RJ H2 p0 p1 p2 p3 p4 f0 f1 f2 f3 f4; obtain ⟨p0, p1, p2, p3, p4⟩ := blk5 R3.blk; have f0 := R3.blk.free 0; have f1 := R3.blk.free 1; have f2 := R3.blk.free 2; have f3 := R3.blk.free 3; have f4 := R3.blk.free 4))
        have X := (R3.put1 (.slice a2 mk.length m2)).set5 (.slice a1 sp.length m1) (.slice a2 mk.length m2) (.int .u64 0) (.int .u64 0) (.bool false)
        refine bodyPost_ret (results_row2 rfl _ _ w.heap.size 25 #[.slice a1 sp.length m1, .slice a2 mk.length m2, .int .u64 0, .int .u64 0, .bool false] _ rfl X.blk Tryd.underlying25 rfl (by kernel_rfl)) rfl ?_
        exact fd_bad hE.out z2 X.fr
    · have hE := Lib.hid (hG1.out rfl z1)
      clear hG0 hG1 hG2 hG3 hG4 hG5 hg c2 c3 c4 c5
      go_enter Tryd.func30, Tryd.ntmps30
      go_wp2_with (first
            | (go_at_call 38; refine c0.mono ?_; rintro e w1 ⟨rfl, H1, F1⟩; have R1 := R0.call F1; clear R0 c0 F1)
            | (go_at_call 47; (with_reducible refine (c1 _ H1).mono ?_); rintro e w2 ⟨a1, m1, rfl, H2, i1, i2, i3, RI, F2⟩; have R2 := R1.row1 F2 RI; clear R1 c1 F2 RI H1; obtain ⟨p0, p1, p2, p3, p4⟩ := blk5 R2.blk; have f0 := R2.blk.free 0; have f1 := R2.blk.free 1; have f2 := R2.blk.free 2; have f3 := R2.blk.free 3; have f4 := R2.blk.free 4))
      have X := (R2.put0 (.slice a1 sp.length m1)).set5 (.slice a1 sp.length m1) (.slice none 0 0) (.int .u64 0) (.int .u64 0) (.bool false)
      refine bodyPost_ret (results_row2 rfl _ _ w.heap.size 25 #[.slice a1 sp.length m1, .slice none 0 0, .int .u64 0, .int .u64 0, .bool false] _ rfl X.blk Tryd.underlying25 rfl (by kernel_rfl)) rfl ?_
      exact fd_bad hE.out z1 X.fr
  · have hE := Lib.hid (hG0.out  z0)
    clear hG0 hG1 hG2 hG3 hG4 hG5 hg c1 c2 c3 c4 c5
    go_enter Tryd.func30, Tryd.ntmps30
    go_wp2_with (first
          | (go_at_call 38; refine c0.mono ?_; rintro e w1 ⟨rfl, H1, F1⟩; have R1 := R0.call F1; clear R0 c0 F1; obtain ⟨p0, p1, p2, p3, p4⟩ := blk5 R1.blk; have f0 := R1.blk.free 0; have f1 := R1.blk.free 1; have f2 := R1.blk.free 2; have f3 := R1.blk.free 3; have f4 := R1.blk.free 4))
    have X := R1.set5 (.slice none 0 0) (.slice none 0 0) (.int .u64 0) (.int .u64 0) (.bool false)
    refine bodyPost_ret (results_row2 rfl _ _ w.heap.size 25 #[.slice none 0 0, .slice none 0 0, .int .u64 0, .int .u64 0, .bool false] _ rfl X.blk Tryd.underlying25 rfl (by kernel_rfl)) rfl ?_
    exact fd_bad hE.out z0 X.fr
end Go.Proofs.YtangljeceohdpaaDoor.Ack
