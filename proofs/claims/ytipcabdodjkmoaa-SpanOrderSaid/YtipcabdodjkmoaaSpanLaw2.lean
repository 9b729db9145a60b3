/-
  What the law SpanTells shows of any rows, as a contract.
-/
import Derived.Test.YtipcabdodjkmoaaSpanLaw
namespace Go.Proofs.Ytipcabdodjkmoaa.Span
set_option linter.unusedVariables false
open Go.ChangeShapes Go.WideShapes Go.ChangeAt Go.RowKit
open Go.Proofs.Ytipcabdodjkmoaa.Base Go.Proofs.Ytipcabdodjkmoaa.SpanPlain Go.Proofs.Ytipcabdodjkmoaa.Sat Go.Proofs.Ytipcabdodjkmoaa.SpanRef

set_option maxHeartbeats 8000000 in
set_option maxRecDepth 100000 in
theorem tells_any (a b : Option Addr) (n m capa capb : Nat) (l r : List Sp) (x k : Int) (w : World) (hn : l.length = n) (hm : r.length = m) (hca : n ≤ capa) (hna : n ≤ 8796093021952) (hmb : m ≤ 8796093021952) (hnil : a = none → n = 0 ∧ capa = 0) (hfl : Fits l) (hfr : Fits r)
    (x0 : 0 ≤ x) (x1 : x ≤ 18446744073709551615) (k0 : -9223372036854775808 ≤ k) (k1 : k ≤ 9223372036854775807) (hz : Spans w a l) (hy : Spans w b r) :
    Calls Try.prog 4 #[.slice a n capa, .slice b m capb, .int .u64 x, .int .i64 k] w fun e w' => e = .returned (.bool true) ∧ Below w.heap.size w w' := by
  have rg := fun W hz => ref_good a n capa l W hn (by omega) hfl hz
  have rh := fun W hz => ref_good b m capb r W hm (by omega) hfr hz
  have pg := fun W hz => good_any a n capa l W hn (by omega) hfl hz
  have pw := fun W hz hy => within_any a b n m capa capb l r W hn hm (by omega) (by omega) hfl hfr hz hy
  have ph := fun W hz => has_any a n capa l x W hn (by omega) hfl x0 x1 hz
  have pc := fun W hz => count_any a n capa l W hn (by omega) hfl hz
  have pl := fun W hz => last_any a n capa l k W hn hca hna hnil hfl k0 k1 hz
  have pf := fun W hz => from_any a n capa l x W hn hna hfl hz
  have ri := fun W hz hy => ref_inside a b n m capa capb l r W hn hm (by omega) (by omega) hz hy
  have rn := fun W hz => ref_has a n capa l x W hn (by omega) hz
  have rl := fun W hz => ref_last a n capa l k W hn hca hna hz
  have rf := fun W hz => ref_from a n capa l x W hn hna hz
  cases hg : good l with
  | false =>
    rw [hg] at rg pg pw ph pc pl pf
    simp only [Bool.false_and, if_neg Bool.false_ne_true] at pw ph pc pl pf
    clear ri rn rl rf
    generalize good r = h at *
    go_enter Try.func4, Try.ntmps4
    go_wp2_with (first
      | (go_at_call 8; (with_reducible refine (alive_span _).mono ?_); rintro e w1 ⟨rfl, M1⟩; have z1 := hz.below M1; have y1 := hy.below M1; clear hz hy)
      | (go_at_call 11; (with_reducible refine (rg _ z1).mono ?_); rintro e w2 ⟨rfl, L2⟩; have z2 := z1.below L2; have y2 := y1.below L2; have M2 := Base.next M1 L2; clear z1 y1)
      | (go_at_call 11; (with_reducible refine (rh _ y2).mono ?_); rintro e w3 ⟨rfl, L3⟩; have z3 := z2.below L3; have y3 := y2.below L3; have M3 := Base.next M2 L3; clear z2 y2)
      | (go_at_call 16; (with_reducible refine (pg _ z3).mono ?_); rintro e w4 ⟨rfl, L4⟩; have z4 := z3.below L4; have y4 := y3.below L4; have M4 := Base.next M3 L4; clear z3 y3)
      | (go_at_call 17; (with_reducible refine (pw _ z4 y4).mono ?_); rintro e w5 ⟨rfl, L5⟩; have z5 := z4.below L5; have y5 := y4.below L5; have M5 := Base.next M4 L5; clear z4 y4)
      | (go_at_call 19; (with_reducible refine (ph _ z5).mono ?_); rintro e w6 ⟨rfl, L6⟩; have z6 := z5.below L6; have M6 := Base.next M5 L6; clear z5)
      | (go_at_call 20; (with_reducible refine (pc _ z6).mono ?_); rintro e w7 ⟨rfl, L7⟩; have z7 := z6.below L7; have M7 := Base.next M6 L7; clear z6)
      | (go_at_call 21; (with_reducible refine (pl _ z7).mono ?_); rintro e w8 ⟨v8, rfl, o8, L8⟩; obtain ⟨a8, cap8, rfl, hc8, hm8, hn8, R8⟩ := o8.read; have z8 := z7.below L8; have M8 := Base.next M7 L8; clear z7)
      | (go_at_call 22; (with_reducible refine (pf _ z8).mono ?_); rintro e w9 ⟨v9, rfl, o9, L9⟩; obtain ⟨a9, cap9, rfl, hc9, hm9, hn9, R9⟩ := o9.read; have M9 := Base.next M8 L9))
    all_goals go_ret
    all_goals exact ⟨by simp, M9⟩
  | true =>
    have rc := fun W hz => ref_count a n capa l W hn (by omega) hg hz
    rw [hg] at rg pg pw ph pc pl pf
    simp only [Bool.true_and, if_true] at pw ph pc pl pf
    have hla : (lastS l k).length ≤ 8796093022000 := by
      have : (lastS l k).length ≤ l.length := by
        unfold lastS
        split
        · exact Nat.zero_le _
        · split
          · exact Nat.le_refl _
          · rw [List.length_drop]
            omega
      omega
    have hlc : (fromS l x).length ≤ 8796093022000 := by have := from_len l x; omega
    generalize lastS l k = A at *
    generalize fromS l x = C at *
    generalize count l = N at *
    generalize has l x = H at *
    clear hn hm hca hna hmb hnil hfl hfr x0 x1 k0 k1 hg
    cases hh : good r with
    | false =>
      rw [hh] at rh pw
      simp only [Bool.false_and] at pw
      clear ri
      go_enter Try.func4, Try.ntmps4
      go_wp2_with (first
        | (go_at_call 8; (with_reducible refine (alive_span _).mono ?_); rintro e w1 ⟨rfl, M1⟩; have z1 := hz.below M1; have y1 := hy.below M1; clear hz hy)
        | (go_at_call 11; (with_reducible refine (rg _ z1).mono ?_); rintro e w2 ⟨rfl, L2⟩; have z2 := z1.below L2; have y2 := y1.below L2; have M2 := Base.next M1 L2; clear z1 y1)
        | (go_at_call 11; (with_reducible refine (rh _ y2).mono ?_); rintro e w3 ⟨rfl, L3⟩; have z3 := z2.below L3; have y3 := y2.below L3; have M3 := Base.next M2 L3; clear z2 y2)
        | (go_at_call 16; (with_reducible refine (pg _ z3).mono ?_); rintro e w4 ⟨rfl, L4⟩; have z4 := z3.below L4; have y4 := y3.below L4; have M4 := Base.next M3 L4; clear z3 y3)
        | (go_at_call 17; (with_reducible refine (pw _ z4 y4).mono ?_); rintro e w5 ⟨rfl, L5⟩; have z5 := z4.below L5; have y5 := y4.below L5; have M5 := Base.next M4 L5; clear z4 y4)
        | (go_at_call 19; (with_reducible refine (ph _ z5).mono ?_); rintro e w6 ⟨rfl, L6⟩; have z6 := z5.below L6; have M6 := Base.next M5 L6; clear z5)
        | (go_at_call 23; (with_reducible refine (rn _ z6).mono ?_); rintro e w' ⟨rfl, rfl⟩)
        | (go_at_call 20; (with_reducible refine (pc _ z6).mono ?_); rintro e w7 ⟨rfl, L7⟩; have z7 := z6.below L7; have M7 := Base.next M6 L7; clear z6)
        | (go_at_call 24; (with_reducible refine (rc _ z7).mono ?_); rintro e w8 ⟨rfl, L8⟩; have z8 := z7.below L8; have M8 := Base.next M7 L8; clear z7)
        | (go_at_call 21; (with_reducible refine (pl _ z8).mono ?_); rintro e w9 ⟨v9, rfl, o9, L9⟩; obtain ⟨a9, cap9, rfl, hc9, hm9, hn9, R9⟩ := o9.read; have z9 := z8.below L9; have M9 := Base.next M8 L9; have S9 := R9.row; clear z8 o9 R9 hc9 hm9 hn9)
        | (go_at_call 25; (with_reducible refine (rl _ z9).mono ?_); rintro e w10 ⟨v10, rfl, o10, L10⟩; obtain ⟨a10, cap10, rfl, hc10, hm10, hn10, R10⟩ := o10.read; have z10 := z9.below L10; have M10 := Base.next M9 L10; have S910 := S9.below L10; have S10 := R10.row; clear z9 S9 o10 R10 hc10 hm10 hn10)
        | (go_at_call 13; have tok := S10; refine (same_any a9 a10 A.length A.length cap9 cap10 A A _ rfl rfl (by omega) (by omega) S910 S10).mono ?_; rintro e w11 ⟨rfl, L11⟩; have z11 := z10.below L11; have M11 := Base.next M10 L11; clear tok z10 S910 S10)
        | (go_at_call 22; (with_reducible refine (pf _ z11).mono ?_); rintro e w12 ⟨v12, rfl, o12, L12⟩; obtain ⟨a12, cap12, rfl, hc12, hm12, hn12, R12⟩ := o12.read; have z12 := z11.below L12; have M12 := Base.next M11 L12; have S12 := R12.row; clear z11 o12 R12 hc12 hm12 hn12)
        | (go_at_call 26; (with_reducible refine (rf _ z12).mono ?_); rintro e w13 ⟨v13, rfl, o13, L13⟩; obtain ⟨a13, cap13, rfl, hc13, hm13, hn13, R13⟩ := o13.read; have M13 := Base.next M12 L13; have S1213 := S12.below L13; have S13 := R13.row; clear z12 S12 o13 R13 hc13 hm13 hn13)
        | (go_at_call 13; refine (same_any a12 a13 C.length C.length cap12 cap13 C C _ rfl rfl (by omega) (by omega) S1213 S13).mono ?_; rintro e w14 ⟨rfl, L14⟩))
      all_goals go_ret
      all_goals exact ⟨by simp, Base.next M13 L14⟩
    | true =>
      rw [hh] at rh pw
      simp only [Bool.true_and] at pw
      clear hh
      generalize inside l r = I at *
      cases I with
      | false =>
        go_enter Try.func4, Try.ntmps4
        go_wp2_with (first
          | (go_at_call 8; (with_reducible refine (alive_span _).mono ?_); rintro e w1 ⟨rfl, M1⟩; have z1 := hz.below M1; have y1 := hy.below M1; clear hz hy)
          | (go_at_call 11; (with_reducible refine (rg _ z1).mono ?_); rintro e w2 ⟨rfl, L2⟩; have z2 := z1.below L2; have y2 := y1.below L2; have M2 := Base.next M1 L2; clear z1 y1)
          | (go_at_call 11; (with_reducible refine (rh _ y2).mono ?_); rintro e w3 ⟨rfl, L3⟩; have z3 := z2.below L3; have y3 := y2.below L3; have M3 := Base.next M2 L3; clear z2 y2)
          | (go_at_call 16; (with_reducible refine (pg _ z3).mono ?_); rintro e w4 ⟨rfl, L4⟩; have z4 := z3.below L4; have y4 := y3.below L4; have M4 := Base.next M3 L4; clear z3 y3)
          | (go_at_call 17; (with_reducible refine (pw _ z4 y4).mono ?_); rintro e w5 ⟨rfl, L5⟩; have z5 := z4.below L5; have y5 := y4.below L5; have M5 := Base.next M4 L5; clear z4 y4)
          | (go_at_call 18; (with_reducible refine (ri _ z5 y5).mono ?_); rintro e w51 ⟨rfl, L51⟩; have z51 := z5.below L51; have M51 := Base.next M5 L51; clear z5 y5)
          | (go_at_call 19; (with_reducible refine (ph _ z51).mono ?_); rintro e w6 ⟨rfl, L6⟩; have z6 := z51.below L6; have M6 := Base.next M51 L6; clear z51)
          | (go_at_call 23; (with_reducible refine (rn _ z6).mono ?_); rintro e w' ⟨rfl, rfl⟩)
          | (go_at_call 20; (with_reducible refine (pc _ z6).mono ?_); rintro e w7 ⟨rfl, L7⟩; have z7 := z6.below L7; have M7 := Base.next M6 L7; clear z6)
          | (go_at_call 24; (with_reducible refine (rc _ z7).mono ?_); rintro e w8 ⟨rfl, L8⟩; have z8 := z7.below L8; have M8 := Base.next M7 L8; clear z7)
          | (go_at_call 21; (with_reducible refine (pl _ z8).mono ?_); rintro e w9 ⟨v9, rfl, o9, L9⟩; obtain ⟨a9, cap9, rfl, hc9, hm9, hn9, R9⟩ := o9.read; have z9 := z8.below L9; have M9 := Base.next M8 L9; have S9 := R9.row; clear z8 o9 R9 hc9 hm9 hn9)
          | (go_at_call 25; (with_reducible refine (rl _ z9).mono ?_); rintro e w10 ⟨v10, rfl, o10, L10⟩; obtain ⟨a10, cap10, rfl, hc10, hm10, hn10, R10⟩ := o10.read; have z10 := z9.below L10; have M10 := Base.next M9 L10; have S910 := S9.below L10; have S10 := R10.row; clear z9 S9 o10 R10 hc10 hm10 hn10)
          | (go_at_call 13; have tok := S10; refine (same_any a9 a10 A.length A.length cap9 cap10 A A _ rfl rfl (by omega) (by omega) S910 S10).mono ?_; rintro e w11 ⟨rfl, L11⟩; have z11 := z10.below L11; have M11 := Base.next M10 L11; clear tok z10 S910 S10)
          | (go_at_call 22; (with_reducible refine (pf _ z11).mono ?_); rintro e w12 ⟨v12, rfl, o12, L12⟩; obtain ⟨a12, cap12, rfl, hc12, hm12, hn12, R12⟩ := o12.read; have z12 := z11.below L12; have M12 := Base.next M11 L12; have S12 := R12.row; clear z11 o12 R12 hc12 hm12 hn12)
          | (go_at_call 26; (with_reducible refine (rf _ z12).mono ?_); rintro e w13 ⟨v13, rfl, o13, L13⟩; obtain ⟨a13, cap13, rfl, hc13, hm13, hn13, R13⟩ := o13.read; have M13 := Base.next M12 L13; have S1213 := S12.below L13; have S13 := R13.row; clear z12 S12 o13 R13 hc13 hm13 hn13)
          | (go_at_call 13; refine (same_any a12 a13 C.length C.length cap12 cap13 C C _ rfl rfl (by omega) (by omega) S1213 S13).mono ?_; rintro e w14 ⟨rfl, L14⟩))
        all_goals go_ret
        all_goals exact ⟨by simp, Base.next M13 L14⟩
      | true =>
        go_enter Try.func4, Try.ntmps4
        go_wp2_with (first
          | (go_at_call 8; (with_reducible refine (alive_span _).mono ?_); rintro e w1 ⟨rfl, M1⟩; have z1 := hz.below M1; have y1 := hy.below M1; clear hz hy)
          | (go_at_call 11; (with_reducible refine (rg _ z1).mono ?_); rintro e w2 ⟨rfl, L2⟩; have z2 := z1.below L2; have y2 := y1.below L2; have M2 := Base.next M1 L2; clear z1 y1)
          | (go_at_call 11; (with_reducible refine (rh _ y2).mono ?_); rintro e w3 ⟨rfl, L3⟩; have z3 := z2.below L3; have y3 := y2.below L3; have M3 := Base.next M2 L3; clear z2 y2)
          | (go_at_call 16; (with_reducible refine (pg _ z3).mono ?_); rintro e w4 ⟨rfl, L4⟩; have z4 := z3.below L4; have y4 := y3.below L4; have M4 := Base.next M3 L4; clear z3 y3)
          | (go_at_call 17; (with_reducible refine (pw _ z4 y4).mono ?_); rintro e w5 ⟨rfl, L5⟩; have z5 := z4.below L5; have y5 := y4.below L5; have M5 := Base.next M4 L5; clear z4 y4)
          | (go_at_call 18; (with_reducible refine (ri _ z5 y5).mono ?_); rintro e w51 ⟨rfl, L51⟩; have z51 := z5.below L51; have M51 := Base.next M5 L51; clear z5 y5)
          | (go_at_call 19; (with_reducible refine (ph _ z51).mono ?_); rintro e w6 ⟨rfl, L6⟩; have z6 := z51.below L6; have M6 := Base.next M51 L6; clear z51)
          | (go_at_call 23; (with_reducible refine (rn _ z6).mono ?_); rintro e w' ⟨rfl, rfl⟩)
          | (go_at_call 20; (with_reducible refine (pc _ z6).mono ?_); rintro e w7 ⟨rfl, L7⟩; have z7 := z6.below L7; have M7 := Base.next M6 L7; clear z6)
          | (go_at_call 24; (with_reducible refine (rc _ z7).mono ?_); rintro e w8 ⟨rfl, L8⟩; have z8 := z7.below L8; have M8 := Base.next M7 L8; clear z7)
          | (go_at_call 21; (with_reducible refine (pl _ z8).mono ?_); rintro e w9 ⟨v9, rfl, o9, L9⟩; obtain ⟨a9, cap9, rfl, hc9, hm9, hn9, R9⟩ := o9.read; have z9 := z8.below L9; have M9 := Base.next M8 L9; have S9 := R9.row; clear z8 o9 R9 hc9 hm9 hn9)
          | (go_at_call 25; (with_reducible refine (rl _ z9).mono ?_); rintro e w10 ⟨v10, rfl, o10, L10⟩; obtain ⟨a10, cap10, rfl, hc10, hm10, hn10, R10⟩ := o10.read; have z10 := z9.below L10; have M10 := Base.next M9 L10; have S910 := S9.below L10; have S10 := R10.row; clear z9 S9 o10 R10 hc10 hm10 hn10)
          | (go_at_call 13; have tok := S10; refine (same_any a9 a10 A.length A.length cap9 cap10 A A _ rfl rfl (by omega) (by omega) S910 S10).mono ?_; rintro e w11 ⟨rfl, L11⟩; have z11 := z10.below L11; have M11 := Base.next M10 L11; clear tok z10 S910 S10)
          | (go_at_call 22; (with_reducible refine (pf _ z11).mono ?_); rintro e w12 ⟨v12, rfl, o12, L12⟩; obtain ⟨a12, cap12, rfl, hc12, hm12, hn12, R12⟩ := o12.read; have z12 := z11.below L12; have M12 := Base.next M11 L12; have S12 := R12.row; clear z11 o12 R12 hc12 hm12 hn12)
          | (go_at_call 26; (with_reducible refine (rf _ z12).mono ?_); rintro e w13 ⟨v13, rfl, o13, L13⟩; obtain ⟨a13, cap13, rfl, hc13, hm13, hn13, R13⟩ := o13.read; have M13 := Base.next M12 L13; have S1213 := S12.below L13; have S13 := R13.row; clear z12 S12 o13 R13 hc13 hm13 hn13)
          | (go_at_call 13; refine (same_any a12 a13 C.length C.length cap12 cap13 C C _ rfl rfl (by omega) (by omega) S1213 S13).mono ?_; rintro e w14 ⟨rfl, L14⟩))
        all_goals go_ret
        all_goals exact ⟨by simp, Base.next M13 L14⟩
end Go.Proofs.Ytipcabdodjkmoaa.Span
