/-
  A lineage, plain: its pairs; what each call does to it.
  A row of pairs, and a lineage in memory.
  The statements' own equality of pairs, where they are the same.
  A log of segments: Pairs.
  HotSizes, walked.
-/
import Derived.Test.YtcmgppacipdnaaaGreatDoorRows
import Derived.Test.YtcmgppacipdnaaaGreatDoorQIxP
import Derived.Test.YtcmgppacipdnaaaGreatDoorQRegG
import Derived.Test.YtcmgppacipdnaaaGreatDoorQHtN
import Derived.Test.YtcmgppacipdnaaaGreatDoorQHtR
namespace Go.Proofs.YtcmgppacipdnaaaGreatDoor
namespace Ep

structure Pr where
  ep : Int
  st : Int
def z0 : Pr := ⟨0, 0⟩
def pr (l : List Pr) (i : Nat) : Pr := l.getD i z0
theorem pr_take {l : List Pr} {k i : Nat} (h : i < k) : pr (l.take k) i = pr l i := by
  simp only [pr, List.getD_eq_getElem?_getD, List.getElem?_take, if_pos h]
theorem pr_drop {l : List Pr} {k i : Nat} : pr (l.drop k) i = pr l (k + i) := by
  simp only [pr, List.getD_eq_getElem?_getD, List.getElem?_drop]
theorem pr_left {l m : List Pr} {i : Nat} (h : i < l.length) : pr (l ++ m) i = pr l i := by
  simp only [pr, List.getD_eq_getElem?_getD, List.getElem?_append_left h]
theorem pr_right {l m : List Pr} {i : Nat} (h : l.length ≤ i) : pr (l ++ m) i = pr m (i - l.length) := by
  simp only [pr, List.getD_eq_getElem?_getD, List.getElem?_append_right h]
def right (p : Pr) : Prop := (0 ≤ p.ep ∧ p.ep ≤ 1073741824) ∧ 0 ≤ p.st ∧ p.st ≤ 1099511627776
instance (p : Pr) : Decidable (right p) := by unfold right; infer_instance
def Rights (l : List Pr) : Prop := ∀ i, i < l.length → right (pr l i)
def step (a b : Pr) : Prop := a.ep < b.ep ∧ a.st < b.st
instance (a b : Pr) : Decidable (step a b) := by unfold step; infer_instance
def Rise (l : List Pr) : Prop := ∀ i, i + 1 < l.length → step (pr l i) (pr l (i + 1))
structure Ok (l : List Pr) : Prop where
  len : l.length ≤ 256
  right : Rights l
  rise : Rise l
open Classical in
/-- Why these are no pairs of a lineage: the error's place among the errors. -/
noncomputable def bad (l : List Pr) : Option Nat := if 256 < l.length then some 3 else if ¬ Rights l then some 4 else if ¬ Rise l then some 2 else none
theorem bad_none {l : List Pr} : bad l = none ↔ Ok l := by
  unfold bad
  by_cases h1 : 256 < l.length
  · rw [if_pos h1]; exact ⟨fun h => (by cases h), fun h => by have := h.len; omega⟩
  · rw [if_neg h1]
    by_cases h2 : Rights l
    · rw [if_neg (fun h => h h2)]
      by_cases h3 : Rise l
      · rw [if_neg (fun h => h h3)]; exact ⟨fun _ => ⟨by omega, h2, h3⟩, fun _ => rfl⟩
      · rw [if_pos h3]; exact ⟨fun h => (by cases h), fun h => absurd h.rise h3⟩
    · rw [if_pos h2]; exact ⟨fun h => (by cases h), fun h => absurd h.right h2⟩
theorem Ok.bad {l : List Pr} (h : Ok l) : bad l = none := bad_none.2 h
theorem Ok.nil : Ok [] := ⟨by simp, fun i h => by simp at h, fun i h => by simp at h⟩
theorem Rise.lt {l : List Pr} (h : Rise l) : ∀ (j i : Nat), i < j → j < l.length → step (pr l i) (pr l j)
  | 0, i, hij, _ => absurd hij (Nat.not_lt_zero _)
  | j + 1, i, hij, hj => by
    have h1 := h j hj
    by_cases e : i = j
    · rw [e]; exact h1
    · have h2 := Rise.lt h j i (by omega) (by omega)
      exact ⟨by have := h1.1; have := h2.1; omega, by have := h1.2; have := h2.2; omega⟩
theorem Rise.le {l : List Pr} (h : Rise l) {i j : Nat} (hij : i ≤ j) (hj : j < l.length) : (pr l i).ep ≤ (pr l j).ep ∧ (pr l i).st ≤ (pr l j).st := by
  by_cases e : i = j
  · rw [e]; exact ⟨Int.le_refl _, Int.le_refl _⟩
  · have := h.lt j i (by omega) hj
    exact ⟨Int.le_of_lt this.1, Int.le_of_lt this.2⟩
/-- What follows from the order of the starts: places by starts. -/
theorem Rise.st_lt {l : List Pr} (h : Rise l) {i j : Nat} (hi : i < l.length) (hj : j < l.length) : (pr l i).st < (pr l j).st ↔ i < j := by
  constructor
  · intro hl
    rcases Nat.lt_or_ge i j with k | k
    · exact k
    · have := (h.le k hi).2; omega
  · exact fun k => (h.lt j i k hj).2
theorem Rise.take {l : List Pr} (h : Rise l) (k : Nat) : Rise (l.take k) := fun i hi => by
  rw [List.length_take] at hi
  rw [pr_take (by omega), pr_take (by omega)]
  exact h i (by omega)
theorem Rise.drop {l : List Pr} (h : Rise l) (k : Nat) : Rise (l.drop k) := fun i hi => by
  rw [List.length_drop] at hi
  rw [pr_drop, pr_drop, ← Nat.add_assoc]
  exact h (k + i) (by omega)
theorem Rights.take {l : List Pr} (h : Rights l) (k : Nat) : Rights (l.take k) := fun i hi => by
  rw [List.length_take] at hi
  rw [pr_take (by omega)]
  exact h i (by omega)
theorem Ok.take {l : List Pr} (h : Ok l) (k : Nat) : Ok (l.take k) := ⟨by rw [List.length_take]; have := h.len; omega, h.right.take k, h.rise.take k⟩

/-- How many pairs the test lets pass, from the first one on. -/
def cnt (l : List Pr) (P : Pr → Bool) : Nat := (List.range l.length).countP (fun i => !P (pr l i))
theorem cnt_le (l : List Pr) (P : Pr → Bool) : cnt l P ≤ l.length := by
  have := List.countP_le_length (p := fun i => !P (pr l i)) (l := List.range l.length)
  simpa [cnt] using this
def Mono (l : List Pr) (P : Pr → Bool) : Prop := ∀ a b, a ≤ b → b < l.length → P (pr l a) = true → P (pr l b) = true
theorem countP_split (P : Nat → Bool) : ∀ n, (∀ a b, a ≤ b → b < n → P a = true → P b = true) → ∃ k, k ≤ n ∧ (List.range n).countP (fun i => !P i) = k ∧ ∀ i, i < n → P i = decide (k ≤ i)
  | 0, _ => ⟨0, Nat.le_refl _, rfl, fun i h => absurd h (Nat.not_lt_zero _)⟩
  | n + 1, hm => by
    obtain ⟨k, hk, hc, hp⟩ := countP_split P n fun a b hab hb => hm a b hab (by omega)
    rw [List.range_succ, List.countP_append, hc]
    cases hn : P n with
    | true =>
      refine ⟨k, by omega, by simp [hn], fun i hi => ?_⟩
      by_cases e : i = n
      · rw [e, hn, decide_eq_true hk]
      · exact hp i (by omega)
    | false =>
      have hkn : k = n := by
        rcases Nat.lt_or_ge k n with h | h
        · have h1 := hp k h
          rw [decide_eq_true (Nat.le_refl _)] at h1
          have := hm k n (by omega) (by omega) h1
          rw [hn] at this; cases this
        · omega
      refine ⟨n + 1, Nat.le_refl _, by simp [hn, hkn], fun i hi => ?_⟩
      by_cases e : i = n
      · rw [e, hn, decide_eq_false (by omega)]
      · rw [hp i (by omega), hkn, decide_eq_false (by omega), decide_eq_false (by omega)]
theorem cnt_iff {l : List Pr} {P : Pr → Bool} (hm : Mono l P) {i : Nat} (hi : i < l.length) : P (pr l i) = decide (cnt l P ≤ i) := by
  obtain ⟨k, _, hc, hp⟩ := countP_split (fun i => P (pr l i)) l.length hm
  rw [show cnt l P = k from hc]
  exact hp i hi
theorem cnt_eq {l : List Pr} {P : Pr → Bool} (k : Nat) (hk : k ≤ l.length) (h : ∀ i, i < l.length → P (pr l i) = decide (k ≤ i)) : cnt l P = k := by
  have hm : Mono l P := fun a b hab hb ha => by
    rw [h a (by omega)] at ha
    rw [h b hb]
    have := of_decide_eq_true ha
    exact decide_eq_true (by omega)
  have hl := cnt_le l P
  rcases Nat.lt_trichotomy (cnt l P) k with h1 | h1 | h1
  · have a := cnt_iff hm (i := cnt l P) (by omega)
    rw [h _ (by omega), decide_eq_true (Nat.le_refl _)] at a
    have := of_decide_eq_true a
    omega
  · exact h1
  · have a := cnt_iff hm (i := k) (by omega)
    rw [h _ (by omega), decide_eq_true (Nat.le_refl _)] at a
    have := of_decide_eq_true a.symm
    omega
/-- How many start ahead of o; how many start at it or ahead; how many epochs are e or below. -/
def ahead (l : List Pr) (o : Int) : Nat := cnt l (fun p => decide (o ≤ p.st))
def upto (l : List Pr) (o : Int) : Nat := cnt l (fun p => decide (o < p.st))
def elder (l : List Pr) (e : Int) : Nat := cnt l (fun p => decide (e < p.ep))
theorem ahead_eq {l : List Pr} (o : Int) (k : Nat) (hk : k ≤ l.length) (h : ∀ i, i < l.length → ((pr l i).st < o ↔ i < k)) : ahead l o = k :=
  cnt_eq k hk fun i hi => by have := h i hi; exact decide_eq_decide.2 (by omega)
def last (l : List Pr) : Pr := pr l (l.length - 1)
/-- The first one's start is set. -/
def front (s : Int) : List Pr → List Pr
  | [] => []
  | p :: l => ⟨p.ep, s⟩ :: l
def cutEnd (l : List Pr) (o : Int) : List Pr := l.take (ahead l o)
open Classical in
noncomputable def begin (l : List Pr) (e s : Int) : Option Nat × List Pr :=
  if ¬ right ⟨e, s⟩ then (some 4, l)
  else if l = [] then (none, [⟨e, s⟩])
  else if e < (last l).ep then (some 13, l)
  else if e = (last l).ep then (none, l)
  else if s < (last l).st then (some 2, l)
  else if 256 ≤ l.length then (some 3, l)
  else if s = (last l).st then (none, cutEnd l s ++ [⟨e, s⟩])
  else (none, l ++ [⟨e, s⟩])
def at_ (l : List Pr) (o : Int) : Int × Bool := if upto l o = 0 then (0, false) else ((pr l (upto l o - 1)).ep, true)
def span (l : List Pr) (a b : Int) : List Pr :=
  if b ≤ a then [] else let m := (l.take (ahead l b)).drop (upto l a - 1); front (max (pr m 0).st a) m
open Classical in
noncomputable def has (l q : List Pr) (z whole : Int) : Bool :=
  if bad q ≠ none ∨ q = [] ∨ z ≤ (last q).st ∨ whole < z then false else if span l (pr q 0).st z = q then true else false

/-- What is left of a lineage is one. -/
theorem Ok.cutEnd {l : List Pr} (h : Ok l) (o : Int) : Ok (cutEnd l o) := h.take _
theorem Ok.push {l : List Pr} (h : Ok l) (p : Pr) (hr : Ep.right p) (hl : l.length < 256) (hs : l = [] ∨ step (last l) p) : Ok (l ++ [p]) := by
  refine ⟨by simp; omega, fun i hi => ?_, fun i hi => ?_⟩
  · simp only [List.length_append, List.length_cons, List.length_nil] at hi
    by_cases e : i < l.length
    · rw [pr_left e]; exact h.right i e
    · rw [pr_right (by omega), show i - l.length = 0 by omega]; exact hr
  · simp only [List.length_append, List.length_cons, List.length_nil] at hi
    rw [pr_left (by omega)]
    by_cases e : i + 1 < l.length
    · rw [pr_left e]; exact h.rise i e
    · rw [pr_right (by omega), show i + 1 - l.length = 0 by omega]
      rcases hs with hs | hs
      · rw [hs] at hi; simp at hi
      · have : last l = pr l i := by unfold last; rw [show l.length - 1 = i by omega]
        rw [this] at hs; exact hs
/-- Where the last one has the start, all but it are left. -/
theorem cutEnd_last {l : List Pr} (h : Rise l) (h0 : l ≠ []) : ahead l (last l).st = l.length - 1 := by
  have hp : 0 < l.length := List.length_pos_iff.2 h0
  exact ahead_eq _ _ (by omega) fun i hi => by unfold last; rw [h.st_lt hi (by omega)]
theorem Ok.begin {l : List Pr} (h : Ok l) (e s : Int) : Ok (begin l e s).2 := by
  unfold Ep.begin
  by_cases h1 : Ep.right ⟨e, s⟩
  · rw [if_neg (fun k => k h1)]
    by_cases h2 : l = []
    · rw [if_pos h2]; exact Ok.nil.push _ h1 (by simp) (.inl rfl)
    · rw [if_neg h2]
      have hp : 0 < l.length := List.length_pos_iff.2 h2
      by_cases h3 : e < (last l).ep
      · rw [if_pos h3]; exact h
      · rw [if_neg h3]
        by_cases h4 : e = (last l).ep
        · rw [if_pos h4]; exact h
        · rw [if_neg h4]
          by_cases h5 : s < (last l).st
          · rw [if_pos h5]; exact h
          · rw [if_neg h5]
            by_cases h6 : 256 ≤ l.length
            · rw [if_pos h6]; exact h
            · rw [if_neg h6]
              by_cases h7 : s = (last l).st
              · rw [if_pos h7]
                have hc := cutEnd_last h.rise h2
                have hlen : (Ep.cutEnd l s).length = l.length - 1 := by unfold Ep.cutEnd; rw [List.length_take, h7, hc]; omega
                refine (h.cutEnd s).push _ h1 (by rw [hlen]; omega) ?_
                by_cases h8 : l.length = 1
                · exact .inl (List.eq_nil_of_length_eq_zero (by rw [hlen]; omega))
                · have h9 : last (Ep.cutEnd l s) = pr l (l.length - 2) := by
                    unfold last; rw [hlen]; unfold Ep.cutEnd
                    rw [pr_take (by rw [h7, hc]; omega), show l.length - 1 - 1 = l.length - 2 by omega]
                  have h10 := h.rise.lt (l.length - 1) (l.length - 2) (by omega) (by omega)
                  right
                  rw [h9]
                  unfold last at h3 h4 h7
                  exact ⟨by show (pr l (l.length - 2)).ep < e; have := h10.1; omega, by show (pr l (l.length - 2)).st < s; have := h10.2; omega⟩
              · rw [if_neg h7]
                exact h.push _ h1 (by omega) (.inr ⟨by show (last l).ep < e; omega, by show (last l).st < s; omega⟩)
  · rw [if_pos h1]; exact h
end Ep
end Go.Proofs.YtcmgppacipdnaaaGreatDoor

namespace Go.Proofs.YtcmgppacipdnaaaGreatDoor
open Go.RowKit

abbrev prCells (p : Ep.Pr) : List Value := [.int .i64 p.ep, .int .i64 p.st]
theorem prs_len (l : List Ep.Pr) : (l.flatMap prCells).length = l.length * 2 := by
  induction l with
  | nil => rfl
  | cons m l ih => simp only [List.flatMap_cons, List.length_append, ih, List.length_cons, List.length_nil]; omega
theorem prs_at : ∀ (l : List Ep.Pr) (k : Nat), k < l.length → (l.flatMap prCells)[k * 2]? = some (.int .i64 (Ep.pr l k).ep) ∧ (l.flatMap prCells)[k * 2 + 1]? = some (.int .i64 (Ep.pr l k).st)
  | m :: l, 0, _ => ⟨rfl, rfl⟩
  | m :: l, k + 1, hk => by
    obtain ⟨h1, h2⟩ := prs_at l k (by simp at hk; omega)
    have e : Ep.pr (m :: l) (k + 1) = Ep.pr l k := rfl
    rw [e]
    simp only [List.flatMap_cons]
    rw [List.getElem?_append_right (by simp; omega), List.getElem?_append_right (by simp; omega)]
    simp only [List.length_cons, List.length_nil]
    rw [show (k + 1) * 2 - (0 + 1 + 1) = k * 2 by omega, show (k + 1) * 2 + 1 - (0 + 1 + 1) = k * 2 + 1 by omega]
    exact ⟨h1, h2⟩
/-- A row of pairs, as it is read. -/
structure PrAt (w : World) (A : Option Addr) (c : Nat) (l : List Ep.Pr) : Prop where
  le : l.length ≤ c
  mx : c ≤ 9223372036854775807
  at_ : ∀ k, k < l.length → ∃ g o, A = some ⟨g, o, none⟩ ∧ g < w.heap.size ∧ w.cell? ⟨g, o + k * 2, none⟩ = some (.int .i64 (Ep.pr l k).ep) ∧ w.cell? ⟨g, o + k * 2 + 1, none⟩ = some (.int .i64 (Ep.pr l k).st)
theorem PrAt.nil (w : World) (A : Option Addr) (c : Nat) (hc : c ≤ 9223372036854775807) : PrAt w A c [] := ⟨by simp, hc, fun k hk => by simp at hk⟩
theorem pairs_at {w : World} {base : Nat} {v : Value} {l : List Ep.Pr} (h : w.ownsRow base 75 2 v l.length (l.flatMap prCells)) : ∃ A c, v = .slice A l.length c ∧ PrAt w A c l ∧ (A = none → l = [] ∧ c = 0) ∧ ∀ a, A = some a → ∃ g, a = ⟨g, 0, none⟩ ∧ base ≤ g := by
  rcases h.2 with ⟨e, k0⟩ | ⟨g, cap, cur, e, hg, hh, hcap, hmx, _⟩
  · exact ⟨none, 0, by rw [e, k0], ⟨by omega, by omega, fun k hk => by omega⟩, fun _ => ⟨List.eq_nil_of_length_eq_zero k0, rfl⟩, fun a e => by cases e⟩
  · refine ⟨_, _, e, ⟨by omega, by simp only [maxLen] at hmx; omega, fun k hk => ⟨g, 0, rfl, (Array.getElem?_eq_some_iff.1 hh).1, ?_⟩⟩, fun e => (by cases e), fun a e => (by cases e; exact ⟨g, rfl, hg⟩)⟩
    obtain ⟨k1, k2⟩ := prs_at l k hk
    have hc := h.cells (g := g) (by rw [e]; rfl)
    refine ⟨?_, ?_⟩
    · have := hc _ _ k1; rwa [Addr.add_lit] at this
    · have := hc _ _ k2; rwa [Addr.add_lit, ← Nat.add_assoc] at this
theorem PrAt.same {w w' : World} {A : Option Addr} {c : Nat} {l : List Ep.Pr} (h : PrAt w A c l) (hs : w.heap.size ≤ w'.heap.size) (hk : ∀ g o, A = some ⟨g, o, none⟩ → g < w.heap.size → w'.heap[g]? = w.heap[g]?) : PrAt w' A c l :=
  ⟨h.le, h.mx, fun k hkl => by
    obtain ⟨g, o, e, hg, h0, h1⟩ := h.at_ k hkl
    have hb := hk g o e hg
    refine ⟨g, o, e, Nat.lt_of_lt_of_le hg hs, ?_, ?_⟩
    · rw [← h0]; simp only [World.cell?, hb]
    · rw [← h1]; simp only [World.cell?, hb]⟩
theorem PrAt.below {w w' : World} {A : Option Addr} {c : Nat} {l : List Ep.Pr} (h : PrAt w A c l) (hb : Below w.heap.size w w') : PrAt w' A c l := h.same hb.size fun g _ _ hg => hb.block g hg
/-- Its cells, as an append reads them. -/
theorem PrAt.news {w : World} {a : Addr} {c : Nat} {l : List Ep.Pr} (h : PrAt w (some a) c l) : ∀ j u, (l.flatMap prCells)[j]? = some u → w.cell? (a.add j) = some u := fun j u hu => by
  have hj : j < l.length * 2 := by rw [← prs_len]; exact (List.getElem?_eq_some_iff.1 hu).1
  obtain ⟨g, o, e, hg, h0, h1⟩ := h.at_ (j / 2) (by omega)
  obtain ⟨k1, k2⟩ := prs_at l (j / 2) (by omega)
  injection e with e; subst e
  rw [Addr.add_lit]
  rcases Nat.mod_two_eq_zero_or_one j with e | e
  · have e2 : j / 2 * 2 = j := by omega
    rw [e2] at k1 h0
    rw [h0, ← hu, k1]
  · have e2 : j / 2 * 2 + 1 = j := by omega
    rw [Nat.add_assoc, e2] at h1
    rw [e2] at k2
    rw [h1, ← hu, k2]

section
variable {w w' : World} {X : Nat} {v : Value} {l : List Ep.Pr} {S T : Nat → Prop}
end
end Go.Proofs.YtcmgppacipdnaaaGreatDoor

namespace Go.Proofs.YtcmgppacipdnaaaGreatDoor
open Go.RowKit

end Go.Proofs.YtcmgppacipdnaaaGreatDoor

namespace Go.Proofs.YtcmgppacipdnaaaGreatDoor
open Go.RowKit Go.Maps

namespace Ht
/-- The epochs of these batches, and where each begins first. -/
def prs (l : List (Int × Int)) : List Ep.Pr := l.foldl (fun acc b => if acc = [] ∨ (Ep.pr acc (acc.length - 1)).ep ≠ b.2 then acc ++ [⟨b.2, b.1⟩] else acc) []
theorem prs_snoc (l : List (Int × Int)) (b : Int × Int) : prs (l ++ [b]) = if prs l = [] ∨ (Ep.pr (prs l) ((prs l).length - 1)).ep ≠ b.2 then prs l ++ [⟨b.2, b.1⟩] else prs l := by
  unfold prs
  rw [List.foldl_append]
  rfl
theorem prs_len (l : List (Int × Int)) : (prs l).length ≤ l.length := by
  have key : ∀ l : List (Int × Int), (prs l.reverse).length ≤ l.reverse.length := fun l => by
    induction l with
    | nil => simp [prs]
    | cons b l ih =>
      rw [List.reverse_cons, prs_snoc, List.length_append, List.length_singleton]
      split
      · rw [List.length_append, List.length_singleton]; omega
      · omega
  have := key l.reverse
  rwa [List.reverse_reverse] at this
end Ht
def OwnPr (w : World) (base : Nat) (v : Value) (l : List Ep.Pr) : Prop := w.ownsRow base 75 2 v l.length (l.flatMap prCells)
end Go.Proofs.YtcmgppacipdnaaaGreatDoor

namespace Go.Proofs.YtcmgppacipdnaaaGreatDoor
open Go.RowKit Go.Maps

section
variable {w0 w : World} {U : Nat → Prop} {n Bd H : Nat} {sz base : Int} {cs : List Rc.Bat}
end
theorem OwnPr.at_ {w : World} {base : Nat} {v : Value} {l : List Ep.Pr} (h : OwnPr w base v l) : ∃ A c, v = .slice A l.length c ∧ PrAt w A c l := by
  obtain ⟨A, c, e, hp, -⟩ := pairs_at h
  exact ⟨A, c, e, hp⟩

end Go.Proofs.YtcmgppacipdnaaaGreatDoor
