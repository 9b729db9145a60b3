/-
  Contract of ack.May, without what encodes.
-/
import Derived.Test.YtlnncfjfphkkdaaAckMay
import Derived.Test.YtlnncfjfphkkdaaM8
set_option linter.unusedSimpArgs false
set_option linter.unusedVariables false
namespace Go.Proofs.Ytlnncfjfphkkdaa.AckOk
set_option linter.unusedVariables false
set_option maxRecDepth 20000
open Go.ChangeShapes Go.WideShapes Go.ChangeAt Go.RowKit
open Go.Proofs.Ytlnncfjfphkkdaa.Base Go.Proofs.Ytlnncfjfphkkdaa.SpanPlain
open Go.Proofs.Ytlnncfjfphkkdaa.AckPlain (K)
open Go.Proofs.Ytlnncfjfphkkdaa.AckMay (blk5)

theorem may_any (x : K) (a b : Option Addr) (n c m d : Nat) (w : World) (hn : x.spans.length = n) (hm : x.marked.length = m) (hn' : n ≤ 9223372036854775807) (hm' : m ≤ 9223372036854775807) (hf : Fits x.spans) (hg : Fits x.marked) (hs : Spans w a x.spans) (ht : Spans w b x.marked) :
    Calls Try.prog 51 #[.agg #[.slice a n c, .slice b m d, .int .u64 x.trigger, .int .u64 x.xor, .bool x.parity]] w fun e w' => e = .returned (.bool (AckPlain.may x)) ∧ Below w.heap.size w w' := by
  have hE := Lib.hid (show AckPlain.may x = (decide (1 ≤ (n : Int)) && decide ((n : Int) ≤ 32) && decide ((m : Int) ≤ 32) && (good x.marked && good x.spans && inside x.marked x.spans)) by
    unfold AckPlain.may; rw [hn, hm, Bool.eq_iff_iff]; simp only [Bool.and_eq_true, decide_eq_true_eq]
    constructor
    · rintro ⟨⟨⟨⟨⟨h1, h2⟩, h3⟩, h4⟩, h5⟩, h6⟩; exact ⟨⟨⟨h1, h2⟩, h3⟩, ⟨h5, h4⟩, h6⟩
    · rintro ⟨⟨⟨h1, h2⟩, h3⟩, ⟨h5, h4⟩, h6⟩; exact ⟨⟨⟨⟨⟨h1, h2⟩, h3⟩, h4⟩, h5⟩, h6⟩)
  have G := fun W h1 h2 z y => Span.within_any b a m n d c x.marked x.spans W hm hn h1 h2 hg hf z y
  have hB := Blk.new w #[.slice a n c, .slice b m d, .int .u64 x.trigger, .int .u64 x.xor, .bool x.parity] 37
  have hL : Below w.heap.size w (w.alloc (.cells #[.slice a n c, .slice b m d, .int .u64 x.trigger, .int .u64 x.xor, .bool x.parity] 37)) := (Below.refl _ _).alloc (Nat.le_refl _) _
  generalize AckPlain.may x = v at *
  generalize (good x.marked && good x.spans && inside x.marked x.spans) = g at *
  clear hn hm
  go_enter Try.func51, Try.ntmps51
  go_upto_region 1 with fail
  generalize w.alloc (.cells #[.slice a n c, .slice b m d, .int .u64 x.trigger, .int .u64 x.xor, .bool x.parity] 37) = W at hB hL ⊢
  obtain ⟨p0, p1, p2, p3, p4⟩ := blk5 hB
  by_cases h1 : (1 : Int) ≤ (n : Int) ∧ (n : Int) ≤ 32 ∧ (m : Int) ≤ 32
  · obtain ⟨h1, h2, h3⟩ := h1
    rw [decide_eq_true h1, decide_eq_true h2, decide_eq_true h3] at hE
    go_wp2_with (go_at_call 30; refine (G W (by omega) (by omega) (ht.below hL) (hs.below hL)).mono ?_; rintro e w3 ⟨rfl, L3⟩; clear G; have M3 := Base.next hL L3)
    all_goals go_ret
    all_goals exact ⟨Base.ret_bool (by rw [hE.out]; simp), M3⟩
  · have hv : (decide (1 ≤ (n : Int)) && decide ((n : Int) ≤ 32) && decide ((m : Int) ≤ 32)) = false := by
      rw [Bool.eq_false_iff]
      intro h
      simp only [Bool.and_eq_true, decide_eq_true_eq] at h
      exact h1 ⟨h.1.1, h.1.2, h.2⟩
    have hv' : v = false := by rw [hE.out, hv]; rfl
    subst hv'
    clear hE hv G
    go_wp2
    all_goals first
      | (go_ret; exact ⟨rfl, hL⟩)
      | (exfalso; omega)
end Go.Proofs.Ytlnncfjfphkkdaa.AckOk
