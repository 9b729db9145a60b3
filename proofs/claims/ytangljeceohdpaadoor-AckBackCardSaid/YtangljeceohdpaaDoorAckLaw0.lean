/-
  The acknowledgments that the laws are made of.
-/
import Derived.Test.YtangljeceohdpaaDoorAckRef4
import Derived.Test.YtangljeceohdpaaDoorLaw0
namespace Go.Proofs.YtangljeceohdpaaDoor.Ack
set_option linter.unusedVariables false
set_option maxRecDepth 20000
open Go.ChangeShapes Go.WideShapes Go.ChangeAt Go.RowKit
open Go.Proofs.YtangljeceohdpaaDoor.Base Go.Proofs.YtangljeceohdpaaDoor.OctPlain Go.Proofs.YtangljeceohdpaaDoor.Tab Go.Proofs.YtangljeceohdpaaDoor.Oct Go.Proofs.YtangljeceohdpaaDoor.SpanPlain Go.Proofs.YtangljeceohdpaaDoor.SpanRef
open Go.Proofs.YtangljeceohdpaaDoor.AckPlain (K putAck getAck getRow getSp putSp getNum comb Fit)

/-- What Ack comes to: none, or an acknowledgment that may be. -/
def LawPost (w : World) : Ending → World → Prop := fun e w' => Below w.heap.size w w' ∧ (e = .returned (.tuple #[.agg #[.slice none 0 0, .slice none 0 0, .int .u64 0, .int .u64 0, .bool false], .bool false]) ∨
  ∃ (x : K) (a : Option Addr) (n c : Nat) (b : Option Addr) (m d : Nat), e = .returned (.tuple #[.agg #[.slice a n c, .slice b m d, .int .u64 x.trigger, .int .u64 x.xor, .bool x.parity], .bool true]) ∧ AckPlain.may x = true ∧ Fit x ∧
    (x.spans.length = n ∧ n ≤ c ∧ c ≤ maxLen ∧ (a = none → n = 0 ∧ c = 0) ∧ RowIn (fun k => w.heap.size ≤ k) w' a (flat x.spans)) ∧
    (x.marked.length = m ∧ m ≤ d ∧ d ≤ maxLen ∧ (b = none → m = 0 ∧ d = 0) ∧ RowIn (fun k => w.heap.size ≤ k) w' b (flat x.marked)))
set_option maxHeartbeats 1000000 in
theorem ack_any (a b : Option Addr) (n c m d : Nat) (zs ys : List Int) (trig xr : Int) (odd : Bool) (w : World) (hn : zs.length = n) (hm : ys.length = m) (hn' : n ≤ 140737488355328) (hm' : m ≤ 140737488355328) (hz : ∀ z ∈ zs, (Lit.int .u16 z).wf = true) (hy : ∀ z ∈ ys, (Lit.int .u16 z).wf = true)
    (h0 : 0 ≤ trig) (h1 : trig ≤ 18446744073709551615) (h2 : 0 ≤ xr) (h3 : xr ≤ 18446744073709551615) (wz : Ints .u16 w a zs) (wy : Ints .u16 w b ys) :
    Calls Tryd.prog 16 #[.slice a n c, .slice b m d, .int .u64 trig, .int .u64 xr, .bool odd] w (LawPost w) := by
  have C1 := fun W hI => Law0.row_any a n c zs W hn hn' hz hI
  have C2 := fun W hI => Law0.row_any b m d ys W hm hm' hy hI
  have hB := Blk.new w #[.slice none 0 0, .slice none 0 0, .int .u64 0, .int .u64 0, .bool false] 25
  have hL : Below w.heap.size w (w.alloc (.cells #[.slice none 0 0, .slice none 0 0, .int .u64 0, .int .u64 0, .bool false] 25)) := (Below.refl _ _).alloc (Nat.le_refl _) _
  clear hn hm
  go_enter Tryd.func16, Tryd.ntmps16
  go_upto_region 1 with fail
  generalize w.alloc (.cells #[.slice none 0 0, .slice none 0 0, .int .u64 0, .int .u64 0, .bool false] 25) = W at hB hL ⊢
  go_upto_region 2 with (go_at_call 35; (with_reducible refine (C1 W (wz.below hL)).mono ?_); rintro e w1 ⟨v1, l1, rfl, g1, n1, p1, O1, L1⟩; obtain ⟨x1, y1, rfl, i1, i2, i3, R1⟩ := O1.read; clear C1)
  have B1 := hB.below L1 hB.lt
  have M1 := Base.next hL L1
  have hw := hL.size
  have hlt := hB.lt
  have R1s := R1.mono (T := fun k => w.heap.size + 1 ≤ k) (fun k _ hk => by omega)
  obtain ⟨r0, r1, r2, r3, r4⟩ := blk5 B1
  have q0 := B1.free 0
  have q1 := B1.free 1
  have q2 := B1.free 2
  have q3 := B1.free 3
  have q4 := B1.free 4
  clear hB hL O1 R1 L1
  by_cases hl1 : l1.length = 0
  · have hl1' : (l1.length : Int) = 0 := by omega
    go_wp2
    refine bodyPost_ret (results_row2 rfl _ _ w.heap.size 25 #[.slice none 0 0, .slice none 0 0, .int .u64 0, .int .u64 0, .bool false] _ rfl (set5_blk B1 _ _ _ _ _) Tryd.underlying25 rfl (by kernel_rfl)) rfl ?_
    exact ⟨(set5_fr _ _ _ _ _ _ _).below M1 M1.size (by rintro k rfl; exact Nat.le_refl _), Or.inl rfl⟩
  · have hl1' : (1 : Int) ≤ (l1.length : Int) := by omega
    go_wp2_with (first
      | (go_at_call 35; refine (C2 w1 (wy.below M1)).mono ?_; rintro e w2 ⟨v2, l2, rfl, g2, n2, p2, O2, L2⟩; obtain ⟨x2, y2, rfl, j1, j2, j3, R2⟩ := O2.read; have B2 := B1.below L2 B1.lt; have M2 := Base.next M1 L2; have R1t := rowIn_under R1s L2; clear C2 r0 r1 r2 r3 r4 q0 q1 q2 q3 q4)
      | (go_at_call 36; refine (Law0.part_any x2 x1 l2.length l1.length y2 y1 l2 l1 w2 rfl rfl n2 n1 g2 g1 R2.row R1t.row).mono ?_; rintro e w3 ⟨v3, l3, rfl, g3, n3, p3, O3, L3⟩; obtain ⟨x3, y3, rfl, k1, k2, k3, R3⟩ := O3.read; have B3 := B2.below L3 B2.lt; have M3 := Base.next M2 L3; have R1u := rowIn_under R1t L3; obtain ⟨r0, r1, r2, r3, r4⟩ := blk5 B3; have q0 := B3.free 0; have q1 := B3.free 1; have q2 := B3.free 2; have q3 := B3.free 3; have q4 := B3.free 4))
    refine bodyPost_ret (results_row2 rfl _ _ w.heap.size 25 #[.slice x1 l1.length y1, .slice x3 l3.length y3, .int .u64 trig, .int .u64 xr, .bool odd] _ rfl (set5_blk B3 _ _ _ _ _) Tryd.underlying25 rfl (by kernel_rfl)) rfl ?_
    have F := set5_fr w3 w.heap.size (.slice x1 l1.length y1) (.slice x3 l3.length y3) (.int .u64 trig) (.int .u64 xr) (.bool odd)
    have hs2 := M2.size
    have hw2 := B2.lt
    refine ⟨F.below M3 M3.size (by rintro k rfl; exact Nat.le_refl _), Or.inr ⟨⟨l1, l3, trig, xr, odd⟩, x1, l1.length, y1, x3, l3.length, y3, rfl, ?_, ⟨⟨h0, h1⟩, h2, h3⟩, ⟨rfl, i1, i2, i3, (R1u.kept F (fun k hk e => by omega)).mono (fun k _ hk => by omega)⟩, ⟨rfl, k1, k2, k3, (R3.kept F (fun k hk e => by omega)).mono (fun k _ hk => by omega)⟩⟩⟩
    exact AckPlain.may_iff.2 ⟨hl1', by show (l1.length : Int) ≤ 32; omega, by show (l3.length : Int) ≤ 32; omega, g1, g3, inside_of g3 g1 (fun s hs => (p3 s hs).2)⟩
end Go.Proofs.YtangljeceohdpaaDoor.Ack
