/-
  The reference's MayAck by contract, without what encodes.
-/
import Derived.Test.YtkiloaebokkjbaaGreatRows
import Derived.Test.YtkiloaebokkjbaaGreatM12
import Derived.Test.YtkiloaebokkjbaaGreatSpanOwn
import Derived.Test.YtkiloaebokkjbaaGreatSpanRef
import Derived.Test.YtkiloaebokkjbaaGreatSpanRef3
import Derived.Deep.Cut
set_option linter.unusedSimpArgs false
set_option linter.unusedVariables false
namespace Go.Proofs.YtkiloaebokkjbaaGreat.AckMay
set_option linter.unusedVariables false
set_option maxRecDepth 20000
open Go.ChangeShapes Go.WideShapes Go.ChangeAt Go.RowKit
open Go.Proofs.YtkiloaebokkjbaaGreat.Base Go.Proofs.YtkiloaebokkjbaaGreat.SpanPlain Go.Proofs.YtkiloaebokkjbaaGreat.SpanRef
open Go.Proofs.YtkiloaebokkjbaaGreat.AckPlain (K)

/-- A block of five cells. -/
theorem blk5 {w : World} {b : Nat} {v0 v1 v2 v3 v4 : Value} {T : TypeId} (h : Blk w b #[v0, v1, v2, v3, v4] T) :
    w.cell? ⟨b, 0, none⟩ = some v0 ∧ w.cell? ⟨b, 1, none⟩ = some v1 ∧ w.cell? ⟨b, 2, none⟩ = some v2 ∧ w.cell? ⟨b, 3, none⟩ = some v3 ∧ w.cell? ⟨b, 4, none⟩ = some v4 :=
  ⟨h.cell 0, h.cell 1, h.cell 2, h.cell 3, h.cell 4⟩
theorem ref_may_ack (x : K) (a b : Option Addr) (n c m d : Nat) (w : World) (hn : x.spans.length = n) (hm : x.marked.length = m) (hn' : n ≤ 9223372036854775807) (hm' : m ≤ 9223372036854775807) (hf : Fits x.spans) (hg : Fits x.marked) (hs : Spans w a x.spans) (ht : Spans w b x.marked) :
    Calls Tryz.prog 62 #[.agg #[.slice a n c, .slice b m d, .int .u64 x.trigger, .int .u64 x.xor, .bool x.parity]] w fun e w' => e = .returned (.bool (AckPlain.may x)) ∧ Below w.heap.size w w' := by
  have hE := Lib.hid (show AckPlain.may x = (decide (1 ≤ (n : Int)) && decide ((n : Int) ≤ 32) && decide ((m : Int) ≤ 32) && good x.spans && good x.marked && inside x.marked x.spans) by unfold AckPlain.may; rw [hn, hm])
  have G1 := fun W h z => SpanRef.ref_good a n c x.spans W hn h hf z
  have G2 := fun W h z => SpanRef.ref_good b m d x.marked W hm h hg z
  have G3 := fun W h1 h2 z y => SpanRef.ref_inside b a m n d c x.marked x.spans W hm hn h1 h2 z y
  have hB := Blk.new w #[.slice a n c, .slice b m d, .int .u64 x.trigger, .int .u64 x.xor, .bool x.parity] 56
  have hL : Below w.heap.size w (w.alloc (.cells #[.slice a n c, .slice b m d, .int .u64 x.trigger, .int .u64 x.xor, .bool x.parity] 56)) := (Below.refl _ _).alloc (Nat.le_refl _) _
  generalize AckPlain.may x = v at *
  generalize good x.spans = g1 at *
  generalize good x.marked = g2 at *
  generalize inside x.marked x.spans = g3 at *
  clear hn hm
  go_enter Tryz.func62, Tryz.ntmps62
  go_upto_region 1 with fail
  generalize w.alloc (.cells #[.slice a n c, .slice b m d, .int .u64 x.trigger, .int .u64 x.xor, .bool x.parity] 56) = W at hB hL ⊢
  obtain ⟨p0, p1, p2, p3, p4⟩ := blk5 hB
  by_cases h1 : (1 : Int) ≤ (n : Int) ∧ (n : Int) ≤ 32 ∧ (m : Int) ≤ 32
  · obtain ⟨h1, h2, h3⟩ := h1
    rw [decide_eq_true h1, decide_eq_true h2, decide_eq_true h3] at hE
    cases g1
    all_goals go_wp2_with (first
      | (go_at_call 58; (with_reducible refine (G1 W (by omega) (hs.below hL)).mono ?_); rintro e w1 ⟨rfl, L1⟩; clear G1 p0 p1 p2 p3 p4; have M1 := Base.next hL L1; have B1 := hB.below L1 hB.lt; clear hB; obtain ⟨p0, p1, p2, p3, p4⟩ := blk5 B1; cases g2)
      | (go_at_call 58; refine (G2 w1 (by omega) (ht.below M1)).mono ?_; rintro e w2 ⟨rfl, L2⟩; clear G2 p0 p1 p2 p3 p4; have M2 := Base.next M1 L2; have B2 := B1.below L2 B1.lt; clear B1; obtain ⟨p0, p1, p2, p3, p4⟩ := blk5 B2)
      | (go_at_call 99; refine (G3 w2 (by omega) (by omega) (ht.below M2) (hs.below M2)).mono ?_; rintro e w3 ⟨rfl, L3⟩; clear G3; have M3 := Base.next M2 L3))
    all_goals go_ret
    all_goals first
      | exact ⟨Base.ret_bool (by rw [hE.out]; simp), M3⟩
      | exact ⟨Base.ret_bool (by rw [hE.out]; simp), M2⟩
      | exact ⟨Base.ret_bool (by rw [hE.out]; simp), M1⟩
  · have hv : (decide (1 ≤ (n : Int)) && decide ((n : Int) ≤ 32) && decide ((m : Int) ≤ 32)) = false := by
      rw [Bool.eq_false_iff]
      intro h
      simp only [Bool.and_eq_true, decide_eq_true_eq] at h
      exact h1 ⟨h.1.1, h.1.2, h.2⟩
    have hv' : v = false := by rw [hE.out, hv]; rfl
    subst hv'
    clear hE hv G1 G2 G3
    go_wp2
    all_goals first
      | (go_ret; exact ⟨rfl, hL⟩)
      | (exfalso; omega)
end Go.Proofs.YtkiloaebokkjbaaGreat.AckMay
