/-
  The program's ledger: its block and its ring of what is kept; one element stored whole.
-/
import Derived.Test.YtoncominjgkjoaaLedRef3
import Derived.Deep.MidRow
set_option linter.unusedSimpArgs false
set_option linter.unusedVariables false
namespace Go.Proofs.Ytoncominjgkjoaa.Base
set_option linter.unusedVariables false
open Go.ChangeShapes Go.WideShapes Go.ChangeAt Go.RowKit
open Go.Proofs.Ytoncominjgkjoaa.LedPlain

theorem sents_put (l : List Sn) (k : Nat) (s : Sn) (hk : k < l.length) :
    ((((((((sents l).set (k * 8) (.int .u64 s.pn)).set (k * 8 + 1) (.int .u64 s.off)).set (k * 8 + 1 + 1) (.int .u64 s.len)).set (k * 8 + 1 + 1 + 1) (.int .u64 s.nonce)).set (k * 8 + 1 + 1 + 1 + 1) (.int .u64 s.time)).set (k * 8 + 1 + 1 + 1 + 1 + 1) (.bool s.coin)).set (k * 8 + 1 + 1 + 1 + 1 + 1 + 1) (.bool s.used)).set (k * 8 + 1 + 1 + 1 + 1 + 1 + 1 + 1) (.int .i64 s.state) = sents (l.set k s) := by
  apply List.ext_getElem?
  intro j
  have hlen := sents_len l
  rw [sents_set l k s j hk]
  simp only [List.getElem?_set, List.length_set, hlen]
  by_cases h : k * 8 ≤ j ∧ j < k * 8 + 8
  · rw [if_pos h]
    obtain ⟨i, rfl⟩ : ∃ i, j = k * 8 + i := ⟨j - k * 8, by omega⟩
    rw [show k * 8 + i - k * 8 = i by omega]
    have hi : i < 8 := by omega
    have hb : k * 8 + 7 < l.length * 8 := by omega
    rcases (show i = 0 ∨ i = 1 ∨ i = 2 ∨ i = 3 ∨ i = 4 ∨ i = 5 ∨ i = 6 ∨ i = 7 by omega) with rfl | rfl | rfl | rfl | rfl | rfl | rfl | rfl
    all_goals
      repeat (first | rw [if_neg (by omega)] | (rw [if_pos (by omega), if_pos (by omega)]; rfl))
  · rw [if_neg h]
    repeat rw [if_neg (by omega)]
/-- An element of a row of the call's own stored whole. -/
theorem Owns.put {w : World} {c n cap : Nat} {l : List Sn} (hn : l.length = n) (h : Owns w (.slice (some ⟨c, 0, none⟩) n cap) l) {k : Nat} (hk : k < n) (s : Sn) :
    Owns (w.setCells c (k * 8) (sv s)) (.slice (some ⟨c, 0, none⟩) n cap) (l.set k s) ∧ Fr (fun j => j = c) w (w.setCells c (k * 8) (sv s)) := by
  subst hn
  have fr : ∀ {u : World} (i : Nat) (x : Value), Fr (fun j => j = c) w u → Fr (fun j => j = c) w (u.setCell ⟨c, i, none⟩ x) := fun i x hu => hu.setCell (fun _ => rfl) x
  have h0 := World.ownsRow.stored h (k * 8) (.int .u64 s.pn)
  have h1 := World.ownsRow.stored h0.1 (k * 8 + 1) (.int .u64 s.off)
  have h2 := World.ownsRow.stored h1.1 (k * 8 + 1 + 1) (.int .u64 s.len)
  have h3 := World.ownsRow.stored h2.1 (k * 8 + 1 + 1 + 1) (.int .u64 s.nonce)
  have h4 := World.ownsRow.stored h3.1 (k * 8 + 1 + 1 + 1 + 1) (.int .u64 s.time)
  have h5 := World.ownsRow.stored h4.1 (k * 8 + 1 + 1 + 1 + 1 + 1) (.bool s.coin)
  have h6 := World.ownsRow.stored h5.1 (k * 8 + 1 + 1 + 1 + 1 + 1 + 1) (.bool s.used)
  have h7 := World.ownsRow.stored h6.1 (k * 8 + 1 + 1 + 1 + 1 + 1 + 1 + 1) (.int .i64 s.state)
  refine ⟨?_, ?_⟩
  · have := h7.1
    rw [sents_put l k s hk] at this
    unfold Owns
    rw [List.length_set]
    exact this
  · exact fr _ _ (fr _ _ (fr _ _ (fr _ _ (fr _ _ (fr _ _ (fr _ _ (fr _ _ (Fr.refl _ _))))))))
theorem Owns.there {w : World} {c n cap : Nat} {l : List Sn} (hn : l.length = n) (h : Owns w (.slice (some ⟨c, 0, none⟩) n cap) l) {k : Nat} (hk : k < n) : w.there c (k * 8) 8 := by
  subst hn
  intro j hj
  refine ⟨?_, World.ownsRow.frozenAt h _⟩
  rw [World.ownsRow.cellAt h _ (by omega), sents_at j hk hj]
  have : (sv (l.getD k Z8)).length = 8 := rfl
  rw [List.getElem?_eq_getElem (by omega)]
  rfl
/-- .. as an operation. -/
theorem wp_store8 {o : Oper} {a : Act} {K : Act → World → Prop} {Q : Exit → Act → World → Prop} {w : World} (x y : Operand) (ho : o.op = .store 42 x y) {c n cap : Nat} {l : List Sn} (hn : l.length = n) (hO : Owns w (.slice (some ⟨c, 0, none⟩) n cap) l) {k : Nat} (hk : k < n) (s : Sn)
    (hx : a.eval x = .pointer (some ⟨c, k * 8, none⟩)) (hy : a.eval y = .agg #[.int .u64 s.pn, .int .u64 s.off, .int .u64 s.len, .int .u64 s.nonce, .int .u64 s.time, .bool s.coin, .bool s.used, .int .i64 s.state])
    (h : ∀ w', Owns w' (.slice (some ⟨c, 0, none⟩) n cap) (l.set k s) → Fr (fun j => j = c) w w' → K (a.put o.dst undef) w') : o.wp Try.prog a w K Q := by
  obtain ⟨i0, hi0, hz0, hz1, hz2⟩ := info_parts info8
  refine wp_store_mid 42 x y ho c (k * 8) _ hx hy (hO.there hn hk) (by rw [hi0]; exact congrArg some hz1) (by simp [Value.oneCell']) ?_
  obtain ⟨h1, h2⟩ := hO.put hn hk s
  exact h _ h1 h2
theorem getD_set_same (l : List Sn) {k : Nat} (s : Sn) (hk : k < l.length) : (l.set k s).getD k Z8 = s := by simp [List.getD, hk]
theorem getD_set_other (l : List Sn) {k i : Nat} (s : Sn) (h : k ≠ i) : (l.set k s).getD i Z8 = l.getD i Z8 := by
  simp only [List.getD]
  rw [List.getElem?_set_ne h]
/-- Two numbers of one ring's length have places of their own. -/
theorem mod_ne {R i j L : Nat} (hR : 0 < R) (h1 : L ≤ i + R) (h2 : L ≤ j + R) (h3 : i < L) (h4 : j < L) (hne : i ≠ j) : i % R ≠ j % R := by
  intro e
  have a := Nat.div_add_mod i R
  have b := Nat.div_add_mod j R
  rw [e] at a
  rcases Nat.lt_trichotomy (i / R) (j / R) with h | h | h
  · have := Nat.mul_le_mul_left R (show i / R + 1 ≤ j / R from h)
    rw [Nat.mul_add] at this
    omega
  · rw [h] at a
    omega
  · have := Nat.mul_le_mul_left R (show j / R + 1 ≤ i / R from h)
    rw [Nat.mul_add] at this
    omega
end Go.Proofs.Ytoncominjgkjoaa.Base
namespace Go.Proofs.Ytoncominjgkjoaa.Led
set_option linter.unusedVariables false
open Go.ChangeShapes Go.WideShapes Go.ChangeAt Go.RowKit
open Go.Proofs.Ytoncominjgkjoaa.Base Go.Proofs.Ytoncominjgkjoaa.LedPlain

/-- The program's ledger g: its block b, the block c of its ring kc; both lie in S. -/
structure Kp (S : Nat → Prop) (w : World) (b c cap : Nat) (kc : List Sn) (g : Lg) : Prop where
  ok : Ok g
  inB : S b
  inC : S c
  ne : c ≠ b
  blk : Blk w b #[.slice (some ⟨c, 0, none⟩) kc.length cap, .int .u64 g.limit, .int .u64 g.l.length] 67
  own : Owns w (.slice (some ⟨c, 0, none⟩) kc.length cap) kc
  len : (kc.length : Int) = g.ring
  at_ : ∀ i, lowN g ≤ i → i < g.l.length → kc.getD (i % kc.length) Z8 = atN g i
theorem Kp.kept {S T : Nat → Prop} {w w' : World} {b c cap : Nat} {kc : List Sn} {g : Lg} (h : Kp S w b c cap kc g) (hf : Fr T w w') (hn : ∀ k, S k → ¬ T k) : Kp S w' b c cap kc g :=
  ⟨h.ok, h.inB, h.inC, h.ne, h.blk.kept hf (hn b h.inB), h.own.kept hf (fun k hk => by cases hk; exact hn c h.inC), h.len, h.at_⟩
theorem Kp.below {S : Nat → Prop} {w w' : World} {b c cap : Nat} {kc : List Sn} {g : Lg} (h : Kp S w b c cap kc g) (hb : Below w.heap.size w w') : Kp S w' b c cap kc g := h.kept (T := fun _ => False) (Fr.of_below hb) fun _ _ h => h
theorem Kp.mono {S T : Nat → Prop} {w : World} {b c cap : Nat} {kc : List Sn} {g : Lg} (h : Kp S w b c cap kc g) (hn : ∀ k, S k → T k) : Kp T w b c cap kc g :=
  ⟨h.ok, hn b h.inB, hn c h.inC, h.ne, h.blk, h.own, h.len, h.at_⟩
theorem Kp.drew {S : Nat → Prop} {w : World} {b c cap : Nat} {kc : List Sn} {g : Lg} (h : Kp S w b c cap kc g) : Kp S w.drew b c cap kc g := ⟨h.ok, h.inB, h.inC, h.ne, h.blk, h.own, h.len, h.at_⟩
theorem Kp.c0 {S : Nat → Prop} {w : World} {b c cap : Nat} {kc : List Sn} {g : Lg} (h : Kp S w b c cap kc g) : w.cell? ⟨b, 0, none⟩ = some (.slice (some ⟨c, 0, none⟩) kc.length cap) := h.blk.cell 0
theorem Kp.c1 {S : Nat → Prop} {w : World} {b c cap : Nat} {kc : List Sn} {g : Lg} (h : Kp S w b c cap kc g) : w.cell? ⟨b, 1, none⟩ = some (.int .u64 g.limit) := h.blk.cell 1
theorem Kp.c2 {S : Nat → Prop} {w : World} {b c cap : Nat} {kc : List Sn} {g : Lg} (h : Kp S w b c cap kc g) : w.cell? ⟨b, 2, none⟩ = some (.int .u64 g.l.length) := h.blk.cell 2
theorem Kp.lt {S : Nat → Prop} {w : World} {b c cap : Nat} {kc : List Sn} {g : Lg} (h : Kp S w b c cap kc g) : b < w.heap.size := h.blk.lt
theorem Kp.ltc {S : Nat → Prop} {w : World} {b c cap : Nat} {kc : List Sn} {g : Lg} (h : Kp S w b c cap kc g) : c < w.heap.size := h.own.lt rfl
theorem Kp.r0 {S : Nat → Prop} {w : World} {b c cap : Nat} {kc : List Sn} {g : Lg} (h : Kp S w b c cap kc g) : 4 ≤ kc.length ∧ kc.length ≤ 256 := by
  have h0 := h.ok.r0
  have h1 := h.ok.r1
  have h2 := h.len
  omega
theorem Kp.caps {S : Nat → Prop} {w : World} {b c cap : Nat} {kc : List Sn} {g : Lg} (h : Kp S w b c cap kc g) : kc.length ≤ cap ∧ cap ≤ 9223372036854775807 := by
  obtain ⟨a, cap', e, h1, h2, _⟩ := h.own.read
  injection e with e1 e2 e3
  subst e3
  unfold maxLen at h2
  exact ⟨h1, h2⟩
theorem Kp.low {S : Nat → Prop} {w : World} {b c cap : Nat} {kc : List Sn} {g : Lg} (h : Kp S w b c cap kc g) : lowN g = g.l.length - kc.length := by
  have h2 := h.len
  unfold lowN
  omega
theorem Kp.nl {S : Nat → Prop} {w : World} {b c cap : Nat} {kc : List Sn} {g : Lg} (h : Kp S w b c cap kc g) : (g.l.length : Int) ≤ 4611686018427387904 := by
  have := h.ok.n1
  have := h.ok.l1
  omega
/-- The cells of a number that is kept. -/
theorem Kp.cells {S : Nat → Prop} {w : World} {b c cap : Nat} {kc : List Sn} {g : Lg} (h : Kp S w b c cap kc g) {k : Nat} (h1 : lowN g ≤ k) (h2 : k < g.l.length) : At8 w c (k % kc.length * 8) (atN g k) := by
  have hr := h.r0
  obtain ⟨a, cap', e, _, _, hz, _, _⟩ := h.own.read
  injection e with e1 e2 e3
  subst e1
  obtain ⟨b', off, e', hb', h8⟩ := hz.at_ (i := k % kc.length) (Nat.mod_lt _ (by omega))
  cases e'
  rw [h.at_ k h1 h2, Nat.zero_add] at h8
  exact h8
end Go.Proofs.Ytoncominjgkjoaa.Led
