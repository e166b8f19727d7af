/-
  A lineage, plain: its pairs; what each call does to it.
  A lineage, plain: what the statements say of it.
  A row of pairs, and a lineage in memory.
  Package epoch: ahead, place, right; Last, At, End.
  Package epoch: right, check; copies of pairs; New, Pairs, Clone.
  Package epoch: New of what is right; the statements' first().
  What a row's reading says of an argument of pairs.
-/
import Derived.Test.YtplpakdbahlgaaaDoorRows
import Derived.Test.YtplpakdbahlgaaaDoorE2
import Derived.Test.YtplpakdbahlgaaaDoorE1
import Derived.Deep.Slices
import Derived.Deep.Fields
import Derived.ChangeSame
namespace Go.Proofs.YtplpakdbahlgaaaDoor
namespace Ep

structure Pr where
  ep : Int
  st : Int
theorem Pr.ext2 {a b : Pr} (h1 : a.ep = b.ep) (h2 : a.st = b.st) : a = b := by cases a; cases b; simp_all
def z0 : Pr := ⟨0, 0⟩
def pr (l : List Pr) (i : Nat) : Pr := l.getD i z0
theorem pr_lt {l : List Pr} {i : Nat} (h : i < l.length) : pr l i = l[i] := by simp [pr, List.getD, h]
theorem pr_mem {l : List Pr} {i : Nat} (h : i < l.length) : pr l i ∈ l := by rw [pr_lt h]; exact List.getElem_mem h
theorem pr_get? {l : List Pr} {i : Nat} (h : i < l.length) : l[i]? = some (pr l i) := by rw [pr_lt h, List.getElem?_eq_getElem h]
theorem pr_take {l : List Pr} {k i : Nat} (h : i < k) : pr (l.take k) i = pr l i := by
  simp only [pr, List.getD_eq_getElem?_getD, List.getElem?_take, if_pos h]
theorem pr_drop {l : List Pr} {k i : Nat} : pr (l.drop k) i = pr l (k + i) := by
  simp only [pr, List.getD_eq_getElem?_getD, List.getElem?_drop]
theorem pr_left {l m : List Pr} {i : Nat} (h : i < l.length) : pr (l ++ m) i = pr l i := by
  simp only [pr, List.getD_eq_getElem?_getD, List.getElem?_append_left h]
theorem pr_right {l m : List Pr} {i : Nat} (h : l.length ≤ i) : pr (l ++ m) i = pr m (i - l.length) := by
  simp only [pr, List.getD_eq_getElem?_getD, List.getElem?_append_right h]
theorem ext_pr {l m : List Pr} (h : l.length = m.length) (hp : ∀ i, i < l.length → pr l i = pr m i) : l = m := by
  apply List.ext_getElem h
  intro i h1 h2
  have := hp i h1
  rwa [pr_lt h1, pr_lt h2] at this
theorem take_succ {l : List Pr} {i : Nat} (h : i < l.length) : l.take (i + 1) = l.take i ++ [pr l i] := by
  rw [List.take_add_one, pr_get? h]; rfl

def right (p : Pr) : Prop := (0 ≤ p.ep ∧ p.ep ≤ 1073741824) ∧ 0 ≤ p.st ∧ p.st ≤ 1099511627776
instance (p : Pr) : Decidable (right p) := by unfold right; infer_instance
def Rights (l : List Pr) : Prop := ∀ i, i < l.length → right (pr l i)
def step (a b : Pr) : Prop := a.ep < b.ep ∧ a.st < b.st
instance (a b : Pr) : Decidable (step a b) := by unfold step; infer_instance
def Rise (l : List Pr) : Prop := ∀ i, i + 1 < l.length → step (pr l i) (pr l (i + 1))
structure Ok (l : List Pr) : Prop where
  len : l.length ≤ 256
  right : Rights l
  rise : Rise l
open Classical in
/-- Why these are no pairs of a lineage: the error's place among the errors. -/
noncomputable def bad (l : List Pr) : Option Nat := if 256 < l.length then some 3 else if ¬ Rights l then some 4 else if ¬ Rise l then some 2 else none
theorem bad_none {l : List Pr} : bad l = none ↔ Ok l := by
  unfold bad
  by_cases h1 : 256 < l.length
  · rw [if_pos h1]; exact ⟨fun h => (by cases h), fun h => by have := h.len; omega⟩
  · rw [if_neg h1]
    by_cases h2 : Rights l
    · rw [if_neg (fun h => h h2)]
      by_cases h3 : Rise l
      · rw [if_neg (fun h => h h3)]; exact ⟨fun _ => ⟨by omega, h2, h3⟩, fun _ => rfl⟩
      · rw [if_pos h3]; exact ⟨fun h => (by cases h), fun h => absurd h.rise h3⟩
    · rw [if_pos h2]; exact ⟨fun h => (by cases h), fun h => absurd h.right h2⟩
theorem Ok.bad {l : List Pr} (h : Ok l) : bad l = none := bad_none.2 h
theorem Ok.nil : Ok [] := ⟨by simp, fun i h => by simp at h, fun i h => by simp at h⟩
theorem Rise.lt {l : List Pr} (h : Rise l) : ∀ (j i : Nat), i < j → j < l.length → step (pr l i) (pr l j)
  | 0, i, hij, _ => absurd hij (Nat.not_lt_zero _)
  | j + 1, i, hij, hj => by
    have h1 := h j hj
    by_cases e : i = j
    · rw [e]; exact h1
    · have h2 := Rise.lt h j i (by omega) (by omega)
      exact ⟨by have := h1.1; have := h2.1; omega, by have := h1.2; have := h2.2; omega⟩
theorem Rise.le {l : List Pr} (h : Rise l) {i j : Nat} (hij : i ≤ j) (hj : j < l.length) : (pr l i).ep ≤ (pr l j).ep ∧ (pr l i).st ≤ (pr l j).st := by
  by_cases e : i = j
  · rw [e]; exact ⟨Int.le_refl _, Int.le_refl _⟩
  · have := h.lt j i (by omega) hj
    exact ⟨Int.le_of_lt this.1, Int.le_of_lt this.2⟩
/-- What follows from the order of the starts: places by starts. -/
theorem Rise.st_lt {l : List Pr} (h : Rise l) {i j : Nat} (hi : i < l.length) (hj : j < l.length) : (pr l i).st < (pr l j).st ↔ i < j := by
  constructor
  · intro hl
    rcases Nat.lt_or_ge i j with k | k
    · exact k
    · have := (h.le k hi).2; omega
  · exact fun k => (h.lt j i k hj).2
theorem Rise.ep_inj {l : List Pr} (h : Rise l) {i j : Nat} (hi : i < l.length) (hj : j < l.length) (e : (pr l i).ep = (pr l j).ep) : i = j := by
  rcases Nat.lt_trichotomy i j with k | k | k
  · have := (h.lt j i k hj).1; omega
  · exact k
  · have := (h.lt i j k hi).1; omega
theorem Rise.take {l : List Pr} (h : Rise l) (k : Nat) : Rise (l.take k) := fun i hi => by
  rw [List.length_take] at hi
  rw [pr_take (by omega), pr_take (by omega)]
  exact h i (by omega)
theorem Rise.drop {l : List Pr} (h : Rise l) (k : Nat) : Rise (l.drop k) := fun i hi => by
  rw [List.length_drop] at hi
  rw [pr_drop, pr_drop, ← Nat.add_assoc]
  exact h (k + i) (by omega)
theorem Rights.take {l : List Pr} (h : Rights l) (k : Nat) : Rights (l.take k) := fun i hi => by
  rw [List.length_take] at hi
  rw [pr_take (by omega)]
  exact h i (by omega)
theorem Ok.take {l : List Pr} (h : Ok l) (k : Nat) : Ok (l.take k) := ⟨by rw [List.length_take]; have := h.len; omega, h.right.take k, h.rise.take k⟩

/-- How many pairs the test lets pass, from the first one on. -/
def cnt (l : List Pr) (P : Pr → Bool) : Nat := (List.range l.length).countP (fun i => !P (pr l i))
theorem cnt_le (l : List Pr) (P : Pr → Bool) : cnt l P ≤ l.length := by
  have := List.countP_le_length (p := fun i => !P (pr l i)) (l := List.range l.length)
  simpa [cnt] using this
def Mono (l : List Pr) (P : Pr → Bool) : Prop := ∀ a b, a ≤ b → b < l.length → P (pr l a) = true → P (pr l b) = true
theorem countP_split (P : Nat → Bool) : ∀ n, (∀ a b, a ≤ b → b < n → P a = true → P b = true) → ∃ k, k ≤ n ∧ (List.range n).countP (fun i => !P i) = k ∧ ∀ i, i < n → P i = decide (k ≤ i)
  | 0, _ => ⟨0, Nat.le_refl _, rfl, fun i h => absurd h (Nat.not_lt_zero _)⟩
  | n + 1, hm => by
    obtain ⟨k, hk, hc, hp⟩ := countP_split P n fun a b hab hb => hm a b hab (by omega)
    rw [List.range_succ, List.countP_append, hc]
    cases hn : P n with
    | true =>
      refine ⟨k, by omega, by simp [hn], fun i hi => ?_⟩
      by_cases e : i = n
      · rw [e, hn, decide_eq_true hk]
      · exact hp i (by omega)
    | false =>
      have hkn : k = n := by
        rcases Nat.lt_or_ge k n with h | h
        · have h1 := hp k h
          rw [decide_eq_true (Nat.le_refl _)] at h1
          have := hm k n (by omega) (by omega) h1
          rw [hn] at this; cases this
        · omega
      refine ⟨n + 1, Nat.le_refl _, by simp [hn, hkn], fun i hi => ?_⟩
      by_cases e : i = n
      · rw [e, hn, decide_eq_false (by omega)]
      · rw [hp i (by omega), hkn, decide_eq_false (by omega), decide_eq_false (by omega)]
theorem cnt_iff {l : List Pr} {P : Pr → Bool} (hm : Mono l P) {i : Nat} (hi : i < l.length) : P (pr l i) = decide (cnt l P ≤ i) := by
  obtain ⟨k, _, hc, hp⟩ := countP_split (fun i => P (pr l i)) l.length hm
  rw [show cnt l P = k from hc]
  exact hp i hi
theorem cnt_eq {l : List Pr} {P : Pr → Bool} (k : Nat) (hk : k ≤ l.length) (h : ∀ i, i < l.length → P (pr l i) = decide (k ≤ i)) : cnt l P = k := by
  have hm : Mono l P := fun a b hab hb ha => by
    rw [h a (by omega)] at ha
    rw [h b hb]
    have := of_decide_eq_true ha
    exact decide_eq_true (by omega)
  have hl := cnt_le l P
  rcases Nat.lt_trichotomy (cnt l P) k with h1 | h1 | h1
  · have a := cnt_iff hm (i := cnt l P) (by omega)
    rw [h _ (by omega), decide_eq_true (Nat.le_refl _)] at a
    have := of_decide_eq_true a
    omega
  · exact h1
  · have a := cnt_iff hm (i := k) (by omega)
    rw [h _ (by omega), decide_eq_true (Nat.le_refl _)] at a
    have := of_decide_eq_true a.symm
    omega
/-- How many start ahead of o; how many start at it or ahead; how many epochs are e or below. -/
def ahead (l : List Pr) (o : Int) : Nat := cnt l (fun p => decide (o ≤ p.st))
def upto (l : List Pr) (o : Int) : Nat := cnt l (fun p => decide (o < p.st))
def elder (l : List Pr) (e : Int) : Nat := cnt l (fun p => decide (e < p.ep))
theorem mono_ahead {l : List Pr} (h : Rise l) (o : Int) : Mono l (fun p => decide (o ≤ p.st)) := fun a b hab hb ha => decide_eq_true (by have := of_decide_eq_true ha; have := (h.le hab hb).2; omega)
theorem mono_upto {l : List Pr} (h : Rise l) (o : Int) : Mono l (fun p => decide (o < p.st)) := fun a b hab hb ha => decide_eq_true (by have := of_decide_eq_true ha; have := (h.le hab hb).2; omega)
theorem mono_elder {l : List Pr} (h : Rise l) (e : Int) : Mono l (fun p => decide (e < p.ep)) := fun a b hab hb ha => decide_eq_true (by have := of_decide_eq_true ha; have := (h.le hab hb).1; omega)
theorem ahead_le (l : List Pr) (o : Int) : ahead l o ≤ l.length := cnt_le _ _
theorem upto_le (l : List Pr) (o : Int) : upto l o ≤ l.length := cnt_le _ _
theorem elder_le (l : List Pr) (e : Int) : elder l e ≤ l.length := cnt_le _ _
theorem ahead_iff {l : List Pr} (h : Rise l) (o : Int) {i : Nat} (hi : i < l.length) : (pr l i).st < o ↔ i < ahead l o := by
  have h1 := cnt_iff (mono_ahead h o) hi
  have h2 : o ≤ (pr l i).st ↔ ahead l o ≤ i := by
    constructor
    · intro k; exact of_decide_eq_true (h1.symm.trans (decide_eq_true k))
    · intro k; exact of_decide_eq_true (h1.trans (decide_eq_true k))
  omega
theorem upto_iff {l : List Pr} (h : Rise l) (o : Int) {i : Nat} (hi : i < l.length) : (pr l i).st ≤ o ↔ i < upto l o := by
  have h1 := cnt_iff (mono_upto h o) hi
  have h2 : o < (pr l i).st ↔ upto l o ≤ i := by
    constructor
    · intro k; exact of_decide_eq_true (h1.symm.trans (decide_eq_true k))
    · intro k; exact of_decide_eq_true (h1.trans (decide_eq_true k))
  omega
theorem elder_iff {l : List Pr} (h : Rise l) (e : Int) {i : Nat} (hi : i < l.length) : (pr l i).ep ≤ e ↔ i < elder l e := by
  have h1 := cnt_iff (mono_elder h e) hi
  have h2 : e < (pr l i).ep ↔ elder l e ≤ i := by
    constructor
    · intro k; exact of_decide_eq_true (h1.symm.trans (decide_eq_true k))
    · intro k; exact of_decide_eq_true (h1.trans (decide_eq_true k))
  omega
theorem ahead_eq {l : List Pr} (o : Int) (k : Nat) (hk : k ≤ l.length) (h : ∀ i, i < l.length → ((pr l i).st < o ↔ i < k)) : ahead l o = k :=
  cnt_eq k hk fun i hi => by have := h i hi; exact decide_eq_decide.2 (by omega)
theorem upto_eq {l : List Pr} (o : Int) (k : Nat) (hk : k ≤ l.length) (h : ∀ i, i < l.length → ((pr l i).st ≤ o ↔ i < k)) : upto l o = k :=
  cnt_eq k hk fun i hi => by have := h i hi; exact decide_eq_decide.2 (by omega)
theorem elder_eq {l : List Pr} (e : Int) (k : Nat) (hk : k ≤ l.length) (h : ∀ i, i < l.length → ((pr l i).ep ≤ e ↔ i < k)) : elder l e = k :=
  cnt_eq k hk fun i hi => by have := h i hi; exact decide_eq_decide.2 (by omega)

def last (l : List Pr) : Pr := pr l (l.length - 1)
/-- The first one's start is set. -/
def front (s : Int) : List Pr → List Pr
  | [] => []
  | p :: l => ⟨p.ep, s⟩ :: l
theorem front_len (s : Int) (l : List Pr) : (front s l).length = l.length := by cases l <;> rfl
theorem front_zero (s : Int) {l : List Pr} (h : 0 < l.length) : pr (front s l) 0 = ⟨(pr l 0).ep, s⟩ := by cases l with | nil => simp at h | cons p l => rfl
theorem front_succ (s : Int) (l : List Pr) (i : Nat) : pr (front s l) (i + 1) = pr l (i + 1) := by cases l <;> rfl

def cutEnd (l : List Pr) (o : Int) : List Pr := l.take (ahead l o)
def cutStart (l : List Pr) (o : Int) : List Pr := if upto l o = 0 then l else front (min o 1099511627776) (l.drop (upto l o - 1))
open Classical in
noncomputable def begin (l : List Pr) (e s : Int) : Option Nat × List Pr :=
  if ¬ right ⟨e, s⟩ then (some 4, l)
  else if l = [] then (none, [⟨e, s⟩])
  else if e < (last l).ep then (some 13, l)
  else if e = (last l).ep then (none, l)
  else if s < (last l).st then (some 2, l)
  else if 256 ≤ l.length then (some 3, l)
  else if s = (last l).st then (none, cutEnd l s ++ [⟨e, s⟩])
  else (none, l ++ [⟨e, s⟩])
def at_ (l : List Pr) (o : Int) : Int × Bool := if upto l o = 0 then (0, false) else ((pr l (upto l o - 1)).ep, true)
def end_ (l : List Pr) (e : Int) (z : Int) : Int × Int × Bool :=
  if elder l e = 0 then (0, 0, false) else ((pr l (elder l e - 1)).ep, if elder l e < l.length then (pr l (elder l e)).st else z, true)
def span (l : List Pr) (a b : Int) : List Pr :=
  if b ≤ a then [] else let m := (l.take (ahead l b)).drop (upto l a - 1); front (max (pr m 0).st a) m
open Classical in
noncomputable def has (l q : List Pr) (z whole : Int) : Bool :=
  if bad q ≠ none ∨ q = [] ∨ z ≤ (last q).st ∨ whole < z then false else if span l (pr q 0).st z = q then true else false

/-- What is left of a lineage is one. -/
theorem Ok.cutEnd {l : List Pr} (h : Ok l) (o : Int) : Ok (cutEnd l o) := h.take _
theorem Ok.cutStart {l : List Pr} (h : Ok l) (o : Int) : Ok (cutStart l o) := by
  unfold Ep.cutStart
  by_cases h0 : upto l o = 0
  · rw [if_pos h0]; exact h
  · rw [if_neg h0]
    have hle := upto_le l o
    have hu := (upto_iff h.rise o (i := upto l o - 1) (by omega)).2 (by omega)
    refine ⟨by rw [front_len, List.length_drop]; have := h.len; omega, fun i hi => ?_, fun i hi => ?_⟩
    · rw [front_len, List.length_drop] at hi
      cases i with
      | zero =>
        rw [front_zero _ (by rw [List.length_drop]; omega), pr_drop]
        have h1 := h.right (upto l o - 1 + 0) (by omega)
        have h2 := (h.right (upto l o - 1) (by omega)).2
        exact ⟨h1.1, by show 0 ≤ min o 1099511627776; omega, by show min o 1099511627776 ≤ _; omega⟩
      | succ i => rw [front_succ, pr_drop]; exact h.right _ (by omega)
    · rw [front_len, List.length_drop] at hi
      cases i with
      | zero =>
        rw [front_zero _ (by rw [List.length_drop]; omega), front_succ, pr_drop, pr_drop]
        have h1 := h.rise (upto l o - 1) (by omega)
        have h2 : ¬ (pr l (upto l o - 1 + 1)).st ≤ o := fun k => by have := (upto_iff h.rise o (by omega)).1 k; omega
        exact ⟨h1.1, by show min o 1099511627776 < (pr l (upto l o - 1 + (0 + 1))).st; rw [Nat.zero_add]; omega⟩
      | succ i =>
        rw [front_succ, front_succ, pr_drop, pr_drop]
        exact h.rise _ (by omega)
theorem Ok.push {l : List Pr} (h : Ok l) (p : Pr) (hr : Ep.right p) (hl : l.length < 256) (hs : l = [] ∨ step (last l) p) : Ok (l ++ [p]) := by
  refine ⟨by simp; omega, fun i hi => ?_, fun i hi => ?_⟩
  · simp only [List.length_append, List.length_cons, List.length_nil] at hi
    by_cases e : i < l.length
    · rw [pr_left e]; exact h.right i e
    · rw [pr_right (by omega), show i - l.length = 0 by omega]; exact hr
  · simp only [List.length_append, List.length_cons, List.length_nil] at hi
    rw [pr_left (by omega)]
    by_cases e : i + 1 < l.length
    · rw [pr_left e]; exact h.rise i e
    · rw [pr_right (by omega), show i + 1 - l.length = 0 by omega]
      rcases hs with hs | hs
      · rw [hs] at hi; simp at hi
      · have : last l = pr l i := by unfold last; rw [show l.length - 1 = i by omega]
        rw [this] at hs; exact hs
/-- Where the last one has the start, all but it are left. -/
theorem cutEnd_last {l : List Pr} (h : Rise l) (h0 : l ≠ []) : ahead l (last l).st = l.length - 1 := by
  have hp : 0 < l.length := List.length_pos_iff.2 h0
  exact ahead_eq _ _ (by omega) fun i hi => by unfold last; rw [h.st_lt hi (by omega)]
theorem Ok.begin {l : List Pr} (h : Ok l) (e s : Int) : Ok (begin l e s).2 := by
  unfold Ep.begin
  by_cases h1 : Ep.right ⟨e, s⟩
  · rw [if_neg (fun k => k h1)]
    by_cases h2 : l = []
    · rw [if_pos h2]; exact Ok.nil.push _ h1 (by simp) (.inl rfl)
    · rw [if_neg h2]
      have hp : 0 < l.length := List.length_pos_iff.2 h2
      by_cases h3 : e < (last l).ep
      · rw [if_pos h3]; exact h
      · rw [if_neg h3]
        by_cases h4 : e = (last l).ep
        · rw [if_pos h4]; exact h
        · rw [if_neg h4]
          by_cases h5 : s < (last l).st
          · rw [if_pos h5]; exact h
          · rw [if_neg h5]
            by_cases h6 : 256 ≤ l.length
            · rw [if_pos h6]; exact h
            · rw [if_neg h6]
              by_cases h7 : s = (last l).st
              · rw [if_pos h7]
                have hc := cutEnd_last h.rise h2
                have hlen : (Ep.cutEnd l s).length = l.length - 1 := by unfold Ep.cutEnd; rw [List.length_take, h7, hc]; omega
                refine (h.cutEnd s).push _ h1 (by rw [hlen]; omega) ?_
                by_cases h8 : l.length = 1
                · exact .inl (List.eq_nil_of_length_eq_zero (by rw [hlen]; omega))
                · have h9 : last (Ep.cutEnd l s) = pr l (l.length - 2) := by
                    unfold last; rw [hlen]; unfold Ep.cutEnd
                    rw [pr_take (by rw [h7, hc]; omega), show l.length - 1 - 1 = l.length - 2 by omega]
                  have h10 := h.rise.lt (l.length - 1) (l.length - 2) (by omega) (by omega)
                  right
                  rw [h9]
                  unfold last at h3 h4 h7
                  exact ⟨by show (pr l (l.length - 2)).ep < e; have := h10.1; omega, by show (pr l (l.length - 2)).st < s; have := h10.2; omega⟩
              · rw [if_neg h7]
                exact h.push _ h1 (by omega) (.inr ⟨by show (last l).ep < e; omega, by show (last l).st < s; omega⟩)
  · rw [if_pos h1]; exact h
end Ep
end Go.Proofs.YtplpakdbahlgaaaDoor

namespace Go.Proofs.YtplpakdbahlgaaaDoor
namespace Ep

/-- An epoch that is there ends where the next one begins. -/
theorem elder_at {l : List Pr} (h : Rise l) {i : Nat} (hi : i < l.length) : elder l (pr l i).ep = i + 1 :=
  elder_eq _ _ (by omega) fun j hj => by
    constructor
    · intro hk
      rcases Nat.lt_or_ge i j with k | k
      · have := (h.lt j i k hj).1; omega
      · omega
    · intro hk; exact (h.le (by omega) hi).1
theorem end_at {l : List Pr} (h : Rise l) {i : Nat} (hi : i < l.length) (z : Int) : end_ l (pr l i).ep z = ((pr l i).ep, if i + 1 < l.length then (pr l (i + 1)).st else z, true) := by
  unfold end_
  rw [elder_at h hi, if_neg (by omega), Nat.add_sub_cancel]
theorem end_none {l : List Pr} (h : Rise l) (e z : Int) (h0 : l.length = 0 ∨ e < (pr l 0).ep) : end_ l e z = (0, 0, false) := by
  have : elder l e = 0 := elder_eq _ _ (Nat.zero_le _) fun j hj => by
    rcases h0 with h0 | h0
    · omega
    · have := (h.le (Nat.zero_le j) hj).1
      omega
  unfold end_
  rw [if_pos this]
theorem end_some {l : List Pr} (h : Rise l) (e z : Int) (h0 : 0 < l.length) (h1 : (pr l 0).ep ≤ e) : (end_ l e z).2.2 = true ∧ (end_ l e z).1 ≤ e ∧ ∀ i, i < l.length → (pr l i).ep ≤ e → (pr l i).ep ≤ (end_ l e z).1 := by
  have hp := (elder_iff h e h0).1 h1
  have hl := elder_le l e
  unfold end_
  rw [if_neg (by omega)]
  refine ⟨rfl, (elder_iff h e (i := elder l e - 1) (by omega)).2 (by omega), fun i hi hie => ?_⟩
  have := (elder_iff h e hi).1 hie
  exact (h.le (by omega) (by omega)).1

theorem upto_mono {l : List Pr} (h : Rise l) {a b : Int} (hab : a ≤ b) : upto l a ≤ upto l b := by
  rcases Nat.lt_or_ge (upto l b) (upto l a) with k | k
  · have hl := upto_le l a
    have h1 := (upto_iff h a (i := upto l b) (by omega)).2 (by omega)
    have h2 := (upto_iff h b (i := upto l b) (by omega)).1 (by omega)
    omega
  · exact k
theorem ahead_mono {l : List Pr} (h : Rise l) {a b : Int} (hab : a ≤ b) : ahead l a ≤ ahead l b := by
  rcases Nat.lt_or_ge (ahead l b) (ahead l a) with k | k
  · have hl := ahead_le l a
    have h1 := (ahead_iff h a (i := ahead l b) (by omega)).2 (by omega)
    have h2 := (ahead_iff h b (i := ahead l b) (by omega)).1 (by omega)
    omega
  · exact k
theorem upto_ahead {l : List Pr} (h : Rise l) {a b : Int} (hab : a < b) : upto l a ≤ ahead l b := by
  rcases Nat.lt_or_ge (ahead l b) (upto l a) with k | k
  · have hl := upto_le l a
    have h1 := (upto_iff h a (i := ahead l b) (by omega)).2 (by omega)
    have h2 := (ahead_iff h b (i := ahead l b) (by omega)).1 (by omega)
    omega
  · exact k
theorem ahead_upto {l : List Pr} (h : Rise l) (a : Int) : ahead l a ≤ upto l a ∧ upto l a ≤ ahead l a + 1 := by
  constructor
  · rcases Nat.lt_or_ge (upto l a) (ahead l a) with k | k
    · have hl := ahead_le l a
      have h1 := (ahead_iff h a (i := upto l a) (by omega)).2 (by omega)
      have h2 := (upto_iff h a (i := upto l a) (by omega)).1 (by omega)
      omega
    · exact k
  · rcases Nat.lt_or_ge (ahead l a + 1) (upto l a) with k | k
    · have hl := upto_le l a
      have h1 := (upto_iff h a (i := ahead l a + 1) (by omega)).2 (by omega)
      have h2 := (h.lt (ahead l a + 1) (ahead l a) (by omega) (by omega)).2
      have h3 := (ahead_iff h a (i := ahead l a) (by omega)).1 (by omega)
      omega
    · exact k
theorem len_cutEnd (l : List Pr) (o : Int) : (cutEnd l o).length = ahead l o := by
  unfold cutEnd; rw [List.length_take]; have := ahead_le l o; omega
/-- Cut at its end: offsets ahead are of the epochs they were of. -/
theorem at_cutEnd {l : List Pr} (h : Rise l) {a o : Int} (ho : o < a) : at_ (cutEnd l a) o = at_ l o := by
  have h1 := upto_ahead h ho
  have h2 := ahead_le l a
  have e : upto (cutEnd l a) o = upto l o := upto_eq _ _ (by rw [len_cutEnd]; exact h1) fun i hi => by
    rw [len_cutEnd] at hi
    unfold cutEnd
    rw [pr_take hi]
    exact upto_iff h o (by omega)
  unfold at_
  rw [e]
  by_cases h0 : upto l o = 0
  · rw [if_pos h0, if_pos h0]
  · rw [if_neg h0, if_neg h0]
    unfold cutEnd
    rw [pr_take (by omega)]
theorem len_cutStart (l : List Pr) (a : Int) : (cutStart l a).length = l.length - (upto l a - 1) := by
  unfold cutStart
  by_cases h0 : upto l a = 0
  · rw [if_pos h0, h0]; rfl
  · rw [if_neg h0, front_len, List.length_drop]
/-- Cut at its start: offsets from there on are as they were. -/
theorem at_cutStart {l : List Pr} (h : Rise l) {a o : Int} (ho : a ≤ o) : at_ (cutStart l a) o = at_ l o := by
  have h1 := upto_mono h ho
  have h2 := upto_le l o
  by_cases h0 : upto l a = 0
  · unfold cutStart; rw [if_pos h0]
  · have hl := len_cutStart l a
    have hc : cutStart l a = front (min a 1099511627776) (l.drop (upto l a - 1)) := by unfold cutStart; rw [if_neg h0]
    have e : upto (cutStart l a) o = upto l o - (upto l a - 1) := upto_eq _ _ (by omega) fun i hi => by
      rw [hl] at hi
      rw [hc]
      cases i with
      | zero => rw [front_zero _ (by rw [List.length_drop]; omega)]; show min a 1099511627776 ≤ o ↔ _; omega
      | succ i =>
        rw [front_succ, pr_drop, upto_iff h o (by omega)]; omega
    unfold at_
    rw [e, if_neg (by omega), if_neg (by omega), hc]
    have e2 : (pr (front (min a 1099511627776) (l.drop (upto l a - 1))) (upto l o - (upto l a - 1) - 1)).ep = (pr l (upto l o - 1)).ep := by
      cases hk : upto l o - (upto l a - 1) - 1 with
      | zero => rw [front_zero _ (by rw [List.length_drop]; omega), pr_drop]; show (pr l (upto l a - 1 + 0)).ep = _; congr 2; omega
      | succ i => rw [front_succ, pr_drop]; congr 2; omega
    rw [e2]
theorem cutEnd_lt {l : List Pr} (h : Rise l) (a : Int) (h0 : 0 < (cutEnd l a).length) : (pr (cutEnd l a) ((cutEnd l a).length - 1)).st < a := by
  rw [len_cutEnd] at h0 ⊢
  have := ahead_le l a
  unfold cutEnd
  rw [pr_take (by omega)]
  exact (ahead_iff h a (by omega)).2 (by omega)
theorem cutStart_pos {l : List Pr} (a : Int) : 0 < (cutStart l a).length ↔ 0 < l.length := by
  rw [len_cutStart]
  have := upto_le l a
  omega

/-- A span, pair by pair. -/
theorem span_len {l : List Pr} (a b : Int) (hab : a < b) : (span l a b).length = ahead l b - (upto l a - 1) := by
  unfold span
  rw [if_neg (by omega)]
  simp only [front_len, List.length_drop, List.length_take]
  have := ahead_le l b
  omega
theorem span_pr0 {l : List Pr} (a b : Int) (hab : a < b) (h0 : 0 < (span l a b).length) : pr (span l a b) 0 = ⟨(pr l (upto l a - 1)).ep, max (pr l (upto l a - 1)).st a⟩ := by
  rw [span_len a b hab] at h0
  unfold span
  rw [if_neg (by omega)]
  simp only
  rw [front_zero _ (by rw [List.length_drop, List.length_take]; have := ahead_le l b; omega), pr_drop, Nat.add_zero, pr_take (by omega)]
theorem span_pr {l : List Pr} (a b : Int) (hab : a < b) (i : Nat) (hi : i + 1 < (span l a b).length) : pr (span l a b) (i + 1) = pr l (upto l a - 1 + (i + 1)) := by
  rw [span_len a b hab] at hi
  unfold span
  rw [if_neg (by omega)]
  simp only
  rw [front_succ, pr_drop, pr_take (by omega)]
/-- The first one's start, where there is one ahead or not. -/
theorem first_st {l : List Pr} (h : Rise l) (a : Int) : (upto l a = 0 ∧ ∀ i, i < l.length → a < (pr l i).st) ∨ (0 < upto l a ∧ (pr l (upto l a - 1)).st ≤ a ∧ ∀ i, upto l a ≤ i → i < l.length → a < (pr l i).st) := by
  have hl := upto_le l a
  have hi : ∀ i, upto l a ≤ i → i < l.length → a < (pr l i).st := fun i h1 h2 => by
    have := upto_iff h a h2
    omega
  rcases Nat.eq_zero_or_pos (upto l a) with h0 | h0
  · exact .inl ⟨h0, fun i h2 => hi i (by omega) h2⟩
  · exact .inr ⟨h0, (upto_iff h a (i := upto l a - 1) (by omega)).2 (by omega), hi⟩
theorem Ok.span {l : List Pr} (h : Ok l) (a b : Int) (ha : a ≤ 1099511627776) : Ok (span l a b) := by
  by_cases hab : a < b
  · have hl := span_len (l := l) a b hab
    have hb := ahead_le l b
    have hu := upto_le l a
    have hn := h.len
    refine ⟨by omega, fun i hi => ?_, fun i hi => ?_⟩
    · cases i with
      | zero =>
        rw [span_pr0 a b hab hi]
        have h1 := h.right (upto l a - 1) (by omega)
        refine ⟨h1.1, ?_, ?_⟩
        · show 0 ≤ max _ _; have := h1.2.1; omega
        · show max _ _ ≤ _; have := h1.2.2; omega
      | succ i => rw [span_pr a b hab i hi]; exact h.right _ (by omega)
    · rw [span_pr a b hab i hi]
      cases i with
      | zero =>
        rw [span_pr0 a b hab (by omega)]
        have h1 := h.rise (upto l a - 1) (by omega)
        refine ⟨h1.1, ?_⟩
        show max (pr l (upto l a - 1)).st a < (pr l (upto l a - 1 + (0 + 1))).st
        have h2 := h1.2
        rw [Nat.zero_add]
        rcases first_st h.rise a with ⟨_, k⟩ | ⟨k0, k1, k2⟩
        · have := k (upto l a - 1 + 1) (by omega); omega
        · have := k2 (upto l a - 1 + 1) (by omega) (by omega); omega
      | succ i => rw [span_pr a b hab i (by omega)]; exact h.rise (upto l a - 1 + (i + 1)) (by omega)
  · unfold Ep.span; rw [if_pos (by omega)]; exact Ok.nil
/-- Two spans that meet are one span. -/
theorem span_join {l : List Pr} (h : Ok l) (f m t : Int) (h1 : f < m) (h2 : m < t) :
    (0 < (span l f m).length ∧ 0 < (span l m t).length ∧ (pr (span l f m) ((span l f m).length - 1)).ep = (pr (span l m t) 0).ep → span l f m ++ (span l m t).drop 1 = span l f t) ∧
    (¬ (0 < (span l f m).length ∧ 0 < (span l m t).length ∧ (pr (span l f m) ((span l f m).length - 1)).ep = (pr (span l m t) 0).ep) → span l f m ++ span l m t = span l f t) := by
  have la := span_len (l := l) f m h1
  have lb := span_len (l := l) m t h2
  have lc := span_len (l := l) f t (by omega)
  have hf := first_st h.rise f
  have hm := first_st h.rise m
  have um := upto_mono h.rise (Int.le_of_lt h1)
  have ua := upto_ahead h.rise h1
  have ub := upto_ahead h.rise h2
  have am := ahead_upto h.rise m
  have at_ := ahead_mono h.rise (Int.le_of_lt h2)
  have lm := ahead_le l m
  have lt := ahead_le l t
  have lum := upto_le l m
  have luf := upto_le l f
  -- the last one of the first span, the first one of the second
  have ea : 0 < (span l f m).length → (pr (span l f m) ((span l f m).length - 1)).ep = (pr l (ahead l m - 1)).ep := fun h0 => by
    cases hk : (span l f m).length - 1 with
    | zero => rw [span_pr0 f m h1 h0]; show (pr l (upto l f - 1)).ep = _; congr 2; omega
    | succ i => rw [span_pr f m h1 i (by omega)]; congr 2; omega
  have eb : 0 < (span l m t).length → (pr (span l m t) 0).ep = (pr l (upto l m - 1)).ep := fun h0 => by rw [span_pr0 m t h2 h0]
  constructor
  · rintro ⟨p1, p2, p3⟩
    rw [ea p1, eb p2] at p3
    have e := h.rise.ep_inj (by omega) (by omega) p3
    apply ext_pr
    · simp only [List.length_append, List.length_drop]; omega
    · intro i hi
      simp only [List.length_append, List.length_drop] at hi
      rcases Nat.lt_or_ge i (span l f m).length with k | k
      · rw [pr_left k]
        cases i with
        | zero => rw [span_pr0 f m h1 k, span_pr0 f t (by omega) (by omega)]
        | succ i => rw [span_pr f m h1 i k, span_pr f t (by omega) i (by omega)]
      · rw [pr_right k, pr_drop, Nat.add_comm, span_pr m t h2 _ (by omega)]
        cases i with
        | zero => omega
        | succ i => rw [span_pr f t (by omega) i (by omega)]; congr 1; omega
  · intro hn
    have hcase : (span l f m).length = 0 ∨ (span l m t).length = 0 ∨ ahead l m + 1 = upto l m := by
      rcases Nat.eq_zero_or_pos (span l f m).length with k | k
      · exact .inl k
      · rcases Nat.eq_zero_or_pos (span l m t).length with k2 | k2
        · exact .inr (.inl k2)
        · refine .inr (.inr ?_)
          rcases Nat.eq_or_lt_of_le am.2 with k3 | k3
          · exact k3.symm
          · exfalso
            apply hn
            refine ⟨k, k2, ?_⟩
            rw [ea k, eb k2]
            congr 2; omega
    apply ext_pr
    · simp only [List.length_append]; omega
    · intro i hi
      simp only [List.length_append] at hi
      rcases Nat.lt_or_ge i (span l f m).length with k | k
      · rw [pr_left k]
        cases i with
        | zero => rw [span_pr0 f m h1 k, span_pr0 f t (by omega) (by omega)]
        | succ i => rw [span_pr f m h1 i k, span_pr f t (by omega) i (by omega)]
      · rw [pr_right k]
        cases hj : i - (span l f m).length with
        | zero =>
          rw [span_pr0 m t h2 (by omega)]
          cases i with
          | zero =>
            rw [span_pr0 f t (by omega) (by omega)]
            have e1 : upto l f - 1 = upto l m - 1 := by omega
            rw [e1]
            refine Pr.ext2 rfl ?_
            show max _ m = max _ f
            rcases hf with ⟨f0, f1⟩ | ⟨f0, f1, f2⟩
            · rcases hm with ⟨m0, m1⟩ | ⟨m0, m1, m2⟩
              · have := m1 (upto l m - 1) (by omega)
                omega
              · have := f1 (upto l m - 1) (by omega)
                have h3 := ahead_iff h.rise m (i := upto l m - 1) (by omega)
                omega
            · rw [← e1]
              have h3 := ahead_iff h.rise m (i := upto l f - 1) (by omega)
              omega
          | succ i =>
            rw [span_pr f t (by omega) i (by omega)]
            have e1 : upto l f - 1 + (i + 1) = upto l m - 1 := by omega
            rw [e1]
            refine Pr.ext2 rfl ?_
            show max _ m = _
            have h3 := ahead_iff h.rise m (i := upto l m - 1) (by omega)
            omega
        | succ j =>
          rw [span_pr m t h2 j (by omega)]
          cases i with
          | zero => omega
          | succ i => rw [span_pr f t (by omega) i (by omega)]; congr 1; omega
theorem span_last_lt {l : List Pr} (h : Rise l) (a b : Int) (hab : a < b) (h0 : 0 < (span l a b).length) : (last (span l a b)).st < b := by
  have hl := span_len (l := l) a b hab
  have hb := ahead_le l b
  unfold last
  cases hk : (span l a b).length - 1 with
  | zero =>
    rw [span_pr0 a b hab h0]
    show max _ a < b
    have := (ahead_iff h b (i := upto l a - 1) (by omega)).2 (by omega)
    omega
  | succ i =>
    rw [span_pr a b hab i (by omega)]
    exact (ahead_iff h b (by omega)).2 (by omega)
/-- A span again, from its own first start. -/
theorem span_again {l : List Pr} (h : Rise l) (a b : Int) (hab : a < b) (h0 : 0 < (span l a b).length) : span l (pr (span l a b) 0).st b = span l a b := by
  have hl := span_len (l := l) a b hab
  have hb := ahead_le l b
  have hu := upto_le l a
  rw [span_pr0 a b hab h0]
  show span l (max (pr l (upto l a - 1)).st a) b = _
  rcases first_st h a with ⟨k0, k1⟩ | ⟨k0, k1, k2⟩
  · have h1 := k1 0 (by omega)
    rw [k0, show max (pr l (0 - 1)).st a = (pr l 0).st by show max (pr l 0).st a = _; omega]
    have hlt := (ahead_iff h b (i := 0) (by omega)).2 (by omega)
    have e : upto l (pr l 0).st = 1 := upto_eq _ _ (by omega) fun i hi => by
      have := h.st_lt (i := 0) (j := i) (by omega) hi
      have h2 : i = 0 → (pr l i).st = (pr l 0).st := fun e => by rw [e]
      omega
    apply ext_pr
    · rw [span_len _ b hlt, hl, e, k0]
    · intro i hi
      cases i with
      | zero =>
        rw [span_pr0 _ b hlt hi, span_pr0 a b hab h0, e, k0]
        refine Pr.ext2 rfl ?_
        show max (pr l 0).st (pr l 0).st = max (pr l 0).st a
        omega
      | succ i => rw [span_pr _ b hlt i hi, span_pr a b hab i (by rw [hl, k0]; rw [span_len _ b hlt, e] at hi; omega), e, k0]
  · rw [show max (pr l (upto l a - 1)).st a = a by omega]
/-- A span is part of its lineage. -/
theorem has_span {l : List Pr} (h : Ok l) (a b w : Int) (ha : a ≤ 1099511627776) (hab : a < b) (h0 : 0 < (span l a b).length) : has l (span l a b) b w = decide (b ≤ w) := by
  have h1 := span_last_lt h.rise a b hab h0
  have hne : span l a b ≠ [] := fun e => by rw [e] at h0; simp at h0
  unfold has
  by_cases hw : b ≤ w
  · rw [if_neg (by rintro (k | k | k | k); exact k (h.span a b ha).bad; exact hne k; all_goals omega), decide_eq_true hw]
    exact if_pos (span_again h.rise a b hab h0)
  · rw [if_pos (by omega), decide_eq_false hw]
theorem has_nil (l : List Pr) (b w : Int) : has l [] b w = false := if_pos (.inr (.inl rfl))
/-- A new leader from within the span on. -/
theorem begin_cut {l : List Pr} (h : Ok l) (n t : Int) (hn : ∀ i, i < l.length → (pr l i).ep < n) (hr : right ⟨n, t⟩) :
    begin (cutEnd l t) n t = if 256 ≤ ahead l t then (some 3, cutEnd l t) else (none, cutEnd l t ++ [⟨n, t⟩]) := by
  have hlen := len_cutEnd l t
  have hle := ahead_le l t
  have h256 := h.len
  unfold begin
  rw [if_neg (fun k => k hr)]
  by_cases h0 : cutEnd l t = []
  · rw [if_pos h0, h0]
    rw [h0] at hlen
    simp only [List.length_nil] at hlen
    rw [if_neg (by omega)]; rfl
  · have hp := List.length_pos_iff.2 h0
    have hlt := cutEnd_lt h.rise t hp
    have hl2 : (last (cutEnd l t)).ep < n := by
      unfold last
      have : pr (cutEnd l t) (ahead l t - 1) = pr l (ahead l t - 1) := by unfold cutEnd; exact pr_take (by omega)
      rw [hlen, this]
      exact hn _ (by omega)
    have hl3 : (last (cutEnd l t)).st < t := hlt
    rw [if_neg h0, if_neg (by omega), if_neg (by omega), if_neg (by omega), hlen]
    by_cases k : 256 ≤ ahead l t
    · rw [if_pos k, if_pos k]
    · rw [if_neg k, if_neg k, if_neg (by omega)]
theorem not_has {l q : List Pr} {n t : Int} (h : Ok (l ++ [⟨n, t⟩])) (hq : ∀ i, i < q.length → (pr q i).ep < n) (w : Int) : has (l ++ [⟨n, t⟩]) q (t + 1) w = false := by
  unfold has
  split
  · rfl
  · rename_i hc
    have hne : q ≠ [] := fun e => hc (.inr (.inl e))
    have hlt : ¬ t + 1 ≤ (last q).st := fun e => hc (.inr (.inr (.inl e)))
    have hb : bad q = none := by cases hh : bad q with | none => rfl | some _ => exact absurd (.inl (by rw [hh]; simp)) hc
    have hqo := bad_none.1 hb
    have hp := List.length_pos_iff.2 hne
    have hs : (pr q 0).st < t + 1 := by
      have := (hqo.rise.le (i := 0) (j := q.length - 1) (by omega) (by omega)).2
      unfold last at hlt; omega
    refine if_neg fun e => ?_
    have hL : (l ++ [(⟨n, t⟩ : Pr)]).length = l.length + 1 := by simp
    have hA : ahead (l ++ [⟨n, t⟩]) (t + 1) = l.length + 1 := ahead_eq _ _ (by omega) fun i hi => by
      have h1 := (h.rise.le (i := i) (j := l.length) (by omega) (by omega)).2
      rw [pr_right (Nat.le_refl _), Nat.sub_self] at h1
      have h2 : (pr [(⟨n, t⟩ : Pr)] 0).st = t := rfl
      omega
    have hl := span_len (l := l ++ [⟨n, t⟩]) (pr q 0).st (t + 1) hs
    have hu := upto_le (l ++ [⟨n, t⟩]) (pr q 0).st
    rw [e, hA] at hl
    have hlast : (pr q (q.length - 1)).ep = n := by
      cases hk : q.length - 1 with
      | zero =>
        have h1 := span_pr0 (l := l ++ [⟨n, t⟩]) (pr q 0).st (t + 1) hs (by rw [e]; omega)
        rw [e] at h1
        rw [h1]
        show (pr (l ++ [⟨n, t⟩]) _).ep = n
        rw [show upto (l ++ [⟨n, t⟩]) (pr q 0).st - 1 = l.length by omega, pr_right (Nat.le_refl _), Nat.sub_self]; rfl
      | succ i =>
        have h1 := span_pr (l := l ++ [⟨n, t⟩]) (pr q 0).st (t + 1) hs i (by rw [e]; omega)
        rw [e] at h1
        rw [h1, show upto (l ++ [⟨n, t⟩]) (pr q 0).st - 1 + (i + 1) = l.length by omega, pr_right (Nat.le_refl _), Nat.sub_self]; rfl
    have := hq (q.length - 1) (by omega)
    omega
/-- Every epoch of a span is one of the lineage. -/
theorem span_ep {l : List Pr} (a b : Int) (hab : a < b) {n : Int} (hn : ∀ i, i < l.length → (pr l i).ep < n) : ∀ i, i < (span l a b).length → (pr (span l a b) i).ep < n := fun i hi => by
  have hl := span_len (l := l) a b hab
  have hb := ahead_le l b
  cases i with
  | zero => rw [span_pr0 a b hab hi]; exact hn _ (by omega)
  | succ i => rw [span_pr a b hab i hi]; exact hn _ (by omega)
end Ep
end Go.Proofs.YtplpakdbahlgaaaDoor

namespace Go.Proofs.YtplpakdbahlgaaaDoor
open Go.RowKit

abbrev prCells (p : Ep.Pr) : List Value := [.int .i64 p.ep, .int .i64 p.st]
abbrev prV (p : Ep.Pr) : Value := .agg #[.int .i64 p.ep, .int .i64 p.st]
theorem pair_info : (Tryd.prog.info? 59).map (fun i => (i.zero, i.size, i.bytes)) = some (some (.agg #[.int .i64 0, .int .i64 0]), 2, 16) := by kernel_rfl
theorem prs_len (l : List Ep.Pr) : (l.flatMap prCells).length = l.length * 2 := by
  induction l with
  | nil => rfl
  | cons m l ih => simp only [List.flatMap_cons, List.length_append, ih, List.length_cons, List.length_nil]; omega
theorem prs_at : ∀ (l : List Ep.Pr) (k : Nat), k < l.length → (l.flatMap prCells)[k * 2]? = some (.int .i64 (Ep.pr l k).ep) ∧ (l.flatMap prCells)[k * 2 + 1]? = some (.int .i64 (Ep.pr l k).st)
  | m :: l, 0, _ => ⟨rfl, rfl⟩
  | m :: l, k + 1, hk => by
    obtain ⟨h1, h2⟩ := prs_at l k (by simp at hk; omega)
    have e : Ep.pr (m :: l) (k + 1) = Ep.pr l k := rfl
    rw [e]
    simp only [List.flatMap_cons]
    rw [List.getElem?_append_right (by simp; omega), List.getElem?_append_right (by simp; omega)]
    simp only [List.length_cons, List.length_nil]
    rw [show (k + 1) * 2 - (0 + 1 + 1) = k * 2 by omega, show (k + 1) * 2 + 1 - (0 + 1 + 1) = k * 2 + 1 by omega]
    exact ⟨h1, h2⟩
theorem prs_one (l : List Ep.Pr) : ∀ u ∈ l.flatMap prCells, u.oneCell' = true := by
  intro u hu
  obtain ⟨m, _, hu⟩ := List.mem_flatMap.1 hu
  simp at hu
  rcases hu with rfl | rfl <;> rfl
theorem prs_take (l : List Ep.Pr) (k : Nat) (hk : k ≤ l.length) : (l.flatMap prCells).take (k * 2) = (l.take k).flatMap prCells := by
  conv => lhs; rw [← List.take_append_drop k l, List.flatMap_append]
  have e := prs_len (l.take k)
  rw [List.length_take, Nat.min_eq_left hk] at e
  rw [List.take_append_of_le_length (by omega), List.take_of_length_le (by omega)]
/-- A row of pairs, as it is read. -/
structure PrAt (w : World) (A : Option Addr) (c : Nat) (l : List Ep.Pr) : Prop where
  le : l.length ≤ c
  mx : c ≤ 9223372036854775807
  at_ : ∀ k, k < l.length → ∃ g o, A = some ⟨g, o, none⟩ ∧ g < w.heap.size ∧ w.cell? ⟨g, o + k * 2, none⟩ = some (.int .i64 (Ep.pr l k).ep) ∧ w.cell? ⟨g, o + k * 2 + 1, none⟩ = some (.int .i64 (Ep.pr l k).st)
theorem PrAt.nil (w : World) (A : Option Addr) (c : Nat) (hc : c ≤ 9223372036854775807) : PrAt w A c [] := ⟨by simp, hc, fun k hk => by simp at hk⟩
theorem pairs_at {w : World} {base : Nat} {v : Value} {l : List Ep.Pr} (h : w.ownsRow base 59 2 v l.length (l.flatMap prCells)) : ∃ A c, v = .slice A l.length c ∧ PrAt w A c l ∧ (A = none → l = [] ∧ c = 0) ∧ ∀ a, A = some a → ∃ g, a = ⟨g, 0, none⟩ ∧ base ≤ g := by
  rcases h.2 with ⟨e, k0⟩ | ⟨g, cap, cur, e, hg, hh, hcap, hmx, _⟩
  · exact ⟨none, 0, by rw [e, k0], ⟨by omega, by omega, fun k hk => by omega⟩, fun _ => ⟨List.eq_nil_of_length_eq_zero k0, rfl⟩, fun a e => by cases e⟩
  · refine ⟨_, _, e, ⟨by omega, by simp only [maxLen] at hmx; omega, fun k hk => ⟨g, 0, rfl, (Array.getElem?_eq_some_iff.1 hh).1, ?_⟩⟩, fun e => (by cases e), fun a e => (by cases e; exact ⟨g, rfl, hg⟩)⟩
    obtain ⟨k1, k2⟩ := prs_at l k hk
    have hc := h.cells (g := g) (by rw [e]; rfl)
    refine ⟨?_, ?_⟩
    · have := hc _ _ k1; rwa [Addr.add_lit] at this
    · have := hc _ _ k2; rwa [Addr.add_lit, ← Nat.add_assoc] at this
theorem PrAt.same {w w' : World} {A : Option Addr} {c : Nat} {l : List Ep.Pr} (h : PrAt w A c l) (hs : w.heap.size ≤ w'.heap.size) (hk : ∀ g o, A = some ⟨g, o, none⟩ → g < w.heap.size → w'.heap[g]? = w.heap[g]?) : PrAt w' A c l :=
  ⟨h.le, h.mx, fun k hkl => by
    obtain ⟨g, o, e, hg, h0, h1⟩ := h.at_ k hkl
    have hb := hk g o e hg
    refine ⟨g, o, e, Nat.lt_of_lt_of_le hg hs, ?_, ?_⟩
    · rw [← h0]; simp only [World.cell?, hb]
    · rw [← h1]; simp only [World.cell?, hb]⟩
theorem PrAt.below {w w' : World} {A : Option Addr} {c : Nat} {l : List Ep.Pr} (h : PrAt w A c l) (hb : Below w.heap.size w w') : PrAt w' A c l := h.same hb.size fun g _ _ hg => hb.block g hg
/-- A piece of it. -/
theorem PrAt.piece {w : World} {g o c : Nat} {l : List Ep.Pr} (h : PrAt w (some ⟨g, o, none⟩) c l) (i j : Nat) (hi : i ≤ j) (hj : j ≤ l.length) : PrAt w (some ⟨g, o + i * 2, none⟩) (c - i) ((l.take j).drop i) := by
  have hle := h.le
  have hmx := h.mx
  refine ⟨by rw [List.length_drop, List.length_take]; omega, by omega, fun k hk => ?_⟩
  rw [List.length_drop, List.length_take] at hk
  obtain ⟨g', o', e, hg, h0, h1⟩ := h.at_ (i + k) (by omega)
  injection e with e; injection e with e1 e2; subst e1 e2
  rw [Ep.pr_drop, Ep.pr_take (by omega)]
  refine ⟨g, o + i * 2, rfl, hg, ?_, ?_⟩
  · rw [← h0]; congr 2; omega
  · rw [← h1]; congr 2; omega
/-- Its cells, as an append reads them. -/
theorem PrAt.news {w : World} {a : Addr} {c : Nat} {l : List Ep.Pr} (h : PrAt w (some a) c l) : ∀ j u, (l.flatMap prCells)[j]? = some u → w.cell? (a.add j) = some u := fun j u hu => by
  have hj : j < l.length * 2 := by rw [← prs_len]; exact (List.getElem?_eq_some_iff.1 hu).1
  obtain ⟨g, o, e, hg, h0, h1⟩ := h.at_ (j / 2) (by omega)
  obtain ⟨k1, k2⟩ := prs_at l (j / 2) (by omega)
  injection e with e; subst e
  rw [Addr.add_lit]
  rcases Nat.mod_two_eq_zero_or_one j with e | e
  · have e2 : j / 2 * 2 = j := by omega
    rw [e2] at k1 h0
    rw [h0, ← hu, k1]
  · have e2 : j / 2 * 2 + 1 = j := by omega
    rw [Nat.add_assoc, e2] at h1
    rw [e2] at k2
    rw [h1, ← hu, k2]

/-- A lineage at block X, its row at v; S holds of its blocks. -/
structure EpL (w : World) (X : Nat) (v : Value) (l : List Ep.Pr) (S : Nat → Prop) : Prop where
  box : w.heap[X]? = some (.cells #[v] 75 (0, 0))
  own : w.ownsRow 0 59 2 v l.length (l.flatMap prCells)
  mX : S X
  mE : ∀ g, v.ownBlock = some g → S g
def EpAt (w : World) (X : Nat) (l : List Ep.Pr) (S : Nat → Prop) : Prop := ∃ v, EpL w X v l S
section
variable {w w' : World} {X : Nat} {v : Value} {l : List Ep.Pr} {S T : Nat → Prop}
theorem EpL.same (h : EpL w X v l S) (hk : ∀ k, S k → k < w.heap.size → w'.heap[k]? = w.heap[k]?) : EpL w' X v l S :=
  ⟨(hk _ h.mX (Array.getElem?_eq_some_iff.1 h.box).1).trans h.box, ownsRow_same h.own fun g hg => hk g (h.mE g hg) (h.own.lt g hg).2, h.mX, h.mE⟩
theorem EpL.below (h : EpL w X v l S) (hb : Below w.heap.size w w') : EpL w' X v l S := h.same fun k _ hk => hb.block k hk
theorem EpL.mono (h : EpL w X v l S) (hT : ∀ k, S k → T k) : EpL w X v l T := ⟨h.box, h.own, hT _ h.mX, fun g hg => hT _ (h.mE g hg)⟩
theorem EpAt.same (h : EpAt w X l S) (hk : ∀ k, S k → k < w.heap.size → w'.heap[k]? = w.heap[k]?) : EpAt w' X l S := by
  obtain ⟨v, h⟩ := h; exact ⟨v, h.same hk⟩
theorem EpAt.below (h : EpAt w X l S) (hb : Below w.heap.size w w') : EpAt w' X l S := h.same fun k _ hk => hb.block k hk
theorem EpAt.mono (h : EpAt w X l S) (hT : ∀ k, S k → T k) : EpAt w X l T := by
  obtain ⟨v, h⟩ := h; exact ⟨v, h.mono hT⟩
theorem EpL.lt (h : EpL w X v l S) : X < w.heap.size := (Array.getElem?_eq_some_iff.1 h.box).1
theorem EpL.cells (h : EpL w X v l S) : ∃ A c, v = .slice A l.length c ∧ PrAt w A c l ∧ (A = none → l = [] ∧ c = 0) ∧ w.cell? ⟨X, 0, none⟩ = some (.slice A l.length c) := by
  obtain ⟨A, c, e, h2, h3, -⟩ := pairs_at h.own
  subst e
  exact ⟨A, c, rfl, h2, h3, box_cell h.box 0⟩
theorem EpL.ne (h : EpL w X v l S) : v.ownBlock ≠ some X := fun e => by
  rcases h.own.2 with ⟨e2, _⟩ | ⟨g, cap, cur, e2, _, hh, _⟩
  · rw [e2] at e; cases e
  · rw [e2] at e
    have : g = X := by simpa [Value.ownBlock] using e
    subst this
    exact types_ne hh h.box (by decide) rfl
/-- The box stays where a row grows. -/
theorem EpL.boxed {w1 w2 : World} (h : EpL w X v l S) (hb : Below w.heap.size w w1) {row : Option Nat} (hg : w1.grownBy w2 row) (hr : row ≠ some X) : w2.heap[X]? = some (.cells #[v] 75 (0, 0)) := by
  have hX := h.lt
  have hs := hb.size
  exact (hg.block X (by omega) (fun e => hr e.symm)).trans ((hb.block X hX).trans h.box)
/-- Its row, stored anew: what is in it now, of its own block or a new one. -/
theorem EpL.set {w2 : World} {v' : Value} {m : List Ep.Pr} (h : EpL w X v l S) (hc : Chg S w w2) (hbx : w2.heap[X]? = some (.cells #[v] 75 (0, 0))) (ho : w2.ownsRow 0 59 2 v' m.length (m.flatMap prCells)) (hv : ∀ g, v'.ownBlock = some g → (S g ∧ g ≠ X) ∨ w.heap.size ≤ g) :
    EpL (w2.setCell ⟨X, 0, none⟩ v') X v' m (Up S w (w2.setCell ⟨X, 0, none⟩ v')) ∧ Chg S w (w2.setCell ⟨X, 0, none⟩ v') := by
  have hX := h.lt
  have hnx : v'.ownBlock ≠ some X := fun e => by
    rcases hv X e with ⟨_, k⟩ | k
    · exact k rfl
    · omega
  have hsz : (w2.setCell ⟨X, 0, none⟩ v').heap.size = w2.heap.size := by simp
  refine ⟨⟨heap_setCell_same w2 X 0 _ _ _ hbx, ownsRow_same ho fun g hg => Below.heap_setCell _ _ _ _ (fun e => hnx (by rw [hg, e])), .inl h.mX, fun g hg => ?_⟩, hc.then (Chg.setCell w2 X 0 _ h.mX)⟩
  rcases hv g hg with ⟨k, _⟩ | k
  · exact .inl k
  · exact .inr ⟨k, by rw [hsz]; exact (ho.lt g hg).2⟩
end
end Go.Proofs.YtplpakdbahlgaaaDoor

namespace Go.Proofs.YtplpakdbahlgaaaDoor
open Go.RowKit Go.Shelf Go.Sort

set_option maxRecDepth 100000 in
theorem ahead1_any (B1 B2 X g f n c i : Nat) (o st : Int) (w : World) (hi : i < n) (c1 : w.cell? ⟨B1, 0, none⟩ = some (.pointer (some ⟨X, 0, none⟩))) (c2 : w.cell? ⟨B2, 0, none⟩ = some (.int .i64 o)) (c3 : w.cell? ⟨X, 0, none⟩ = some (.slice (some ⟨g, f, none⟩) n c)) (c4 : w.cell? ⟨g, f + i * 2 + 1, none⟩ = some (.int .i64 st)) :
    Calls Tryd.prog 68 (#[.int .i64 i] ++ #[.pointer (some ⟨B1, 0, none⟩), .pointer (some ⟨B2, 0, none⟩)]) w fun e w' => e = .returned (.bool (decide (o ≤ st))) ∧ ∃ q, w' = w.drewN q := by
  show Calls Tryd.prog 68 #[.int .i64 i, .pointer (some ⟨B1, 0, none⟩), .pointer (some ⟨B2, 0, none⟩)] w _
  go_enter Tryd.func68, Tryd.ntmps68
  go_wp2_with fail
  go_quiet (fail)
  rename Nat => q
  go_wp2_with fail
  go_ret
  exact ⟨rfl, q, rfl⟩
set_option maxRecDepth 100000 in
theorem place1_any (B1 B2 X g f n c i : Nat) (o st : Int) (w : World) (hi : i < n) (c1 : w.cell? ⟨B1, 0, none⟩ = some (.pointer (some ⟨X, 0, none⟩))) (c2 : w.cell? ⟨B2, 0, none⟩ = some (.int .i64 o)) (c3 : w.cell? ⟨X, 0, none⟩ = some (.slice (some ⟨g, f, none⟩) n c)) (c4 : w.cell? ⟨g, f + i * 2 + 1, none⟩ = some (.int .i64 st)) :
    Calls Tryd.prog 69 (#[.int .i64 i] ++ #[.pointer (some ⟨B1, 0, none⟩), .pointer (some ⟨B2, 0, none⟩)]) w fun e w' => e = .returned (.bool (decide (o < st))) ∧ ∃ q, w' = w.drewN q := by
  show Calls Tryd.prog 69 #[.int .i64 i, .pointer (some ⟨B1, 0, none⟩), .pointer (some ⟨B2, 0, none⟩)] w _
  go_enter Tryd.func69, Tryd.ntmps69
  go_wp2_with fail
  go_quiet (fail)
  rename Nat => q
  go_wp2_with fail
  go_ret
  exact ⟨rfl, q, rfl⟩
set_option maxRecDepth 100000 in
theorem end1_any (B1 B2 X g f n c i : Nat) (o st : Int) (w : World) (hi : i < n) (c1 : w.cell? ⟨B1, 0, none⟩ = some (.pointer (some ⟨X, 0, none⟩))) (c2 : w.cell? ⟨B2, 0, none⟩ = some (.int .i64 o)) (c3 : w.cell? ⟨X, 0, none⟩ = some (.slice (some ⟨g, f, none⟩) n c)) (c4 : w.cell? ⟨g, f + i * 2, none⟩ = some (.int .i64 st)) :
    Calls Tryd.prog 67 (#[.int .i64 i] ++ #[.pointer (some ⟨B1, 0, none⟩), .pointer (some ⟨B2, 0, none⟩)]) w fun e w' => e = .returned (.bool (decide (o < st))) ∧ ∃ q, w' = w.drewN q := by
  show Calls Tryd.prog 67 #[.int .i64 i, .pointer (some ⟨B1, 0, none⟩), .pointer (some ⟨B2, 0, none⟩)] w _
  go_enter Tryd.func67, Tryd.ntmps67
  go_wp2_with fail
  go_quiet (fail)
  rename Nat => q
  go_wp2_with fail
  go_ret
  exact ⟨rfl, q, rfl⟩

/-- Two boxes, the line's and a number's, and what lies in them. -/
theorem boxes2 (w : World) (X : Nat) (o : Int) (t : TypeId) : ∃ W0, W0 = (w.alloc (.cells #[.pointer (some ⟨X, 0, none⟩)] 25)).alloc (.cells #[.int .i64 o] t) ∧ Below w.heap.size w W0 ∧ W0.cell? ⟨w.heap.size, 0, none⟩ = some (.pointer (some ⟨X, 0, none⟩)) ∧ W0.cell? ⟨w.heap.size + 1, 0, none⟩ = some (.int .i64 o) := by
  refine ⟨_, rfl, balloc (balloc (Below.refl _ _) _) _, cell_alloc_sl _ (cell_new_sl _ _ _), ?_⟩
  have e : (w.alloc (.cells #[.pointer (some ⟨X, 0, none⟩)] 25)).heap.size = w.heap.size + 1 := by simp
  rw [← e]; exact cell_new_sl _ _ _

set_option maxRecDepth 100000 in
theorem epAhead_any (X : Nat) (l : List Ep.Pr) (S : Nat → Prop) (o : Int) (w : World) (h : EpAt w X l S) (ho : Ep.Ok l) :
    Calls Tryd.prog 44 #[.pointer (some ⟨X, 0, none⟩), .int .i64 o] w fun e w' => e = .returned (.int .i64 (Ep.ahead l o : Nat)) ∧ Below w.heap.size w w' := by
  obtain ⟨v, h⟩ := h
  obtain ⟨A, c, rfl, hp, -, cX⟩ := h.cells
  obtain ⟨W0, hW0, hb0, b0, b1⟩ := boxes2 w X o 2
  have x0 : W0.cell? ⟨X, 0, none⟩ = some (.slice A l.length c) := (hb0.cell (p := ⟨X, 0, none⟩) h.lt).trans cX
  have hp0 := hp.below hb0
  have hlen := ho.len
  have hS := Any.sort_Search (P := Tryd.prog) lay_searchF 68 #[.pointer (some ⟨w.heap.size, 0, none⟩), .pointer (some ⟨w.heap.size + 1, 0, none⟩)] l.length (fun i => decide (o ≤ (Ep.pr l i).st)) W0 (enters_of Tryd.func68 (by kernel_rfl) rfl) (by omega)
    (fun m os i hi => by
      have hbg := below_grown_sl W0.heap.size W0 m os (Nat.le_refl _)
      have up : ∀ {a v}, W0.cell? a = some v → (grow (W0.drewN m) os).cell? a = some v := fun {a v} ha => (hbg.cell (p := a) (World.block_lt_of_cell? _ _ ha)).trans ha
      obtain ⟨g, f, rfl, -, -, k1⟩ := hp0.at_ i hi
      refine (ahead1_any w.heap.size (w.heap.size + 1) X g f l.length c i o _ _ hi (up b0) (up b1) (up x0) (up k1)).mono ?_
      rintro e w' ⟨rfl, q, rfl⟩
      exact ⟨rfl, q, #[], by rw [grow_empty]⟩)
    (fun a b hab hb ha => Ep.mono_ahead ho.rise o a b hab hb ha)
  rw [show (List.range l.length).countP (fun i => !decide (o ≤ (Ep.pr l i).st)) = Ep.ahead l o from rfl] at hS
  generalize Ep.ahead l o = k at *
  generalize l.length = n at *
  have HSE := hide hS
  have HB0 := hide hb0
  have HW0 := hide hW0
  clear h ho hS hb0 hW0 hp hp0 cX
  go_enter Tryd.func44, Tryd.ntmps44
  go_upto_region 1 with fail
  rw [← HW0.out]
  go_wp2_with (first
    | (go_at_call 66; refine HSE.out.mono ?_; rintro e w2 ⟨rfl, q, os, hw2⟩; have HB2 : Hid (Below W0.heap.size W0 w2) := hide (hw2 ▸ below_grown_sl W0.heap.size W0 q os (Nat.le_refl _)); clear hw2)
    | fail)
  go_ret
  exact ⟨rfl, HB0.out.trans (HB2.out.mono HB0.out.size)⟩

set_option maxRecDepth 100000 in
theorem epPlace_any (X : Nat) (l : List Ep.Pr) (S : Nat → Prop) (o : Int) (w : World) (h : EpAt w X l S) (ho : Ep.Ok l) :
    Calls Tryd.prog 45 #[.pointer (some ⟨X, 0, none⟩), .int .i64 o] w fun e w' => e = .returned (.int .i64 ((Ep.upto l o : Int) - 1)) ∧ Below w.heap.size w w' := by
  obtain ⟨v, h⟩ := h
  obtain ⟨A, c, rfl, hp, -, cX⟩ := h.cells
  obtain ⟨W0, hW0, hb0, b0, b1⟩ := boxes2 w X o 2
  have x0 : W0.cell? ⟨X, 0, none⟩ = some (.slice A l.length c) := (hb0.cell (p := ⟨X, 0, none⟩) h.lt).trans cX
  have hp0 := hp.below hb0
  have hlen := ho.len
  have hS := Any.sort_Search (P := Tryd.prog) lay_searchF 69 #[.pointer (some ⟨w.heap.size, 0, none⟩), .pointer (some ⟨w.heap.size + 1, 0, none⟩)] l.length (fun i => decide (o < (Ep.pr l i).st)) W0 (enters_of Tryd.func69 (by kernel_rfl) rfl) (by omega)
    (fun m os i hi => by
      have hbg := below_grown_sl W0.heap.size W0 m os (Nat.le_refl _)
      have up : ∀ {a v}, W0.cell? a = some v → (grow (W0.drewN m) os).cell? a = some v := fun {a v} ha => (hbg.cell (p := a) (World.block_lt_of_cell? _ _ ha)).trans ha
      obtain ⟨g, f, rfl, -, -, k1⟩ := hp0.at_ i hi
      refine (place1_any w.heap.size (w.heap.size + 1) X g f l.length c i o _ _ hi (up b0) (up b1) (up x0) (up k1)).mono ?_
      rintro e w' ⟨rfl, q, rfl⟩
      exact ⟨rfl, q, #[], by rw [grow_empty]⟩)
    (fun a b hab hb ha => Ep.mono_upto ho.rise o a b hab hb ha)
  rw [show (List.range l.length).countP (fun i => !decide (o < (Ep.pr l i).st)) = Ep.upto l o from rfl] at hS
  have hk := Ep.upto_le l o
  generalize Ep.upto l o = k at *
  generalize l.length = n at *
  have hw1 : IntKind.i64.wrap ((k : Int) - 1) = (k : Int) - 1 := by rw [IntKind.wrap_i64]; omega
  have HSE := hide hS
  have HB0 := hide hb0
  have HW0 := hide hW0
  clear h ho hS hb0 hW0 hp hp0 cX hk
  go_enter Tryd.func45, Tryd.ntmps45
  go_upto_region 1 with fail
  rw [← HW0.out]
  go_wp2_with (first
    | (go_at_call 66; refine HSE.out.mono ?_; rintro e w2 ⟨rfl, q, os, hw2⟩; have HB2 : Hid (Below W0.heap.size W0 w2) := hide (hw2 ▸ below_grown_sl W0.heap.size W0 q os (Nat.le_refl _)); clear hw2)
    | fail)
  go_ret
  exact ⟨rfl, HB0.out.trans (HB2.out.mono HB0.out.size)⟩

set_option maxRecDepth 100000 in
theorem epEnd_any (X : Nat) (l : List Ep.Pr) (S : Nat → Prop) (o z : Int) (w : World) (h : EpAt w X l S) (ho : Ep.Ok l) :
    Calls Tryd.prog 37 #[.pointer (some ⟨X, 0, none⟩), .int .i64 o, .int .i64 z] w fun e w' => e = .returned (.tuple #[.int .i64 (Ep.end_ l o z).1, .int .i64 (Ep.end_ l o z).2.1, .bool (Ep.end_ l o z).2.2]) ∧ Below w.heap.size w w' := by
  obtain ⟨v, h⟩ := h
  obtain ⟨A, c, rfl, hp, -, cX⟩ := h.cells
  obtain ⟨W0, hW0, hb0, b0, b1⟩ := boxes2 w X o 3
  have x0 : W0.cell? ⟨X, 0, none⟩ = some (.slice A l.length c) := (hb0.cell (p := ⟨X, 0, none⟩) h.lt).trans cX
  have hp0 := hp.below hb0
  have hlen := ho.len
  have hS := Any.sort_Search (P := Tryd.prog) lay_searchF 67 #[.pointer (some ⟨w.heap.size, 0, none⟩), .pointer (some ⟨w.heap.size + 1, 0, none⟩)] l.length (fun i => decide (o < (Ep.pr l i).ep)) W0 (enters_of Tryd.func67 (by kernel_rfl) rfl) (by omega)
    (fun m os i hi => by
      have hbg := below_grown_sl W0.heap.size W0 m os (Nat.le_refl _)
      have up : ∀ {a v}, W0.cell? a = some v → (grow (W0.drewN m) os).cell? a = some v := fun {a v} ha => (hbg.cell (p := a) (World.block_lt_of_cell? _ _ ha)).trans ha
      obtain ⟨g, f, rfl, -, k0, -⟩ := hp0.at_ i hi
      refine (end1_any w.heap.size (w.heap.size + 1) X g f l.length c i o _ _ hi (up b0) (up b1) (up x0) (up k0)).mono ?_
      rintro e w' ⟨rfl, q, rfl⟩
      exact ⟨rfl, q, #[], by rw [grow_empty]⟩)
    (fun a b hab hb ha => Ep.mono_elder ho.rise o a b hab hb ha)
  rw [show (List.range l.length).countP (fun i => !decide (o < (Ep.pr l i).ep)) = Ep.elder l o from rfl] at hS
  have hk := Ep.elder_le l o
  have hle := hp.le
  unfold Ep.end_
  generalize Ep.elder l o = k at *
  have HP := hide hp0
  have HSE := hide hS
  have HB0 := hide hb0
  have HW0 := hide hW0
  clear h ho hS hb0 hW0 hp hp0 cX
  cases k with
  | zero =>
    rw [if_pos rfl]
    simp only
    generalize l.length = n at *
    clear HP
    go_enter Tryd.func37, Tryd.ntmps37
    go_upto_region 1 with fail
    rw [← HW0.out]
    go_wp2_with (first
      | (go_at_call 66; refine HSE.out.mono ?_; rintro e w2 ⟨rfl, q, os, hw2⟩; have HB2 : Hid (Below W0.heap.size W0 w2) := hide (hw2 ▸ below_grown_sl W0.heap.size W0 q os (Nat.le_refl _)); clear hw2)
      | fail)
    go_returns
    exact ⟨rfl, HB0.out.trans (HB2.out.mono HB0.out.size)⟩
  | succ k =>
    rw [if_neg (by omega)]
    simp only [Nat.add_sub_cancel]
    obtain ⟨g, f, rfl, -, m0, -⟩ := HP.out.at_ k (by omega)
    have hw1 : IntKind.i64.wrap ((k : Int) + 1 - 1) = (k : Int) := by rw [IntKind.wrap_i64]; omega
    have hw2 : IntKind.i64.wrap (k : Int) = (k : Int) := by rw [IntKind.wrap_i64]; omega
    have e0 : (((k : Int) + 1) == 0) = false := by rw [beq_eq_false_iff_ne]; omega
    by_cases hkl : k + 1 < l.length
    · rw [if_pos hkl]
      obtain ⟨g', f', e', -, -, m1⟩ := HP.out.at_ (k + 1) hkl
      injection e' with e'; injection e' with e1 e2; subst e1 e2
      have d1 : decide ((k : Int) + 1 < (l.length : Int)) = true := decide_eq_true (by omega)
      generalize (Ep.pr l k).ep = pe at *
      generalize (Ep.pr l (k + 1)).st = ps at *
      generalize l.length = n at *
      clear HP
      go_enter Tryd.func37, Tryd.ntmps37
      go_upto_region 1 with fail
      rw [← HW0.out]
      go_wp2_with (first
        | (go_at_call 66; refine HSE.out.mono ?_; rintro e w2 ⟨rfl, q, os, hw2⟩; have HB2 : Hid (Below W0.heap.size W0 w2) := hide (hw2 ▸ below_grown_sl W0.heap.size W0 q os (Nat.le_refl _)); have b02 := (HB2.out.cell (World.block_lt_of_cell? _ _ b0)).trans b0; have x02 := (HB2.out.cell (World.block_lt_of_cell? _ _ x0)).trans x0; have m02 := (HB2.out.cell (World.block_lt_of_cell? _ _ m0)).trans m0; have m12 := (HB2.out.cell (World.block_lt_of_cell? _ _ m1)).trans m1; clear hw2)
        | fail)
      go_returns
      exact ⟨rfl, HB0.out.trans (HB2.out.mono HB0.out.size)⟩
    · rw [if_neg hkl]
      have d1 : decide ((k : Int) + 1 < (l.length : Int)) = false := decide_eq_false (by omega)
      generalize (Ep.pr l k).ep = pe at *
      generalize l.length = n at *
      clear HP
      go_enter Tryd.func37, Tryd.ntmps37
      go_upto_region 1 with fail
      rw [← HW0.out]
      go_wp2_with (first
        | (go_at_call 66; refine HSE.out.mono ?_; rintro e w2 ⟨rfl, q, os, hw2⟩; have HB2 : Hid (Below W0.heap.size W0 w2) := hide (hw2 ▸ below_grown_sl W0.heap.size W0 q os (Nat.le_refl _)); have b02 := (HB2.out.cell (World.block_lt_of_cell? _ _ b0)).trans b0; have x02 := (HB2.out.cell (World.block_lt_of_cell? _ _ x0)).trans x0; have m02 := (HB2.out.cell (World.block_lt_of_cell? _ _ m0)).trans m0; clear hw2)
        | fail)
      go_returns
      exact ⟨rfl, HB0.out.trans (HB2.out.mono HB0.out.size)⟩
end Go.Proofs.YtplpakdbahlgaaaDoor

namespace Go.Proofs.YtplpakdbahlgaaaDoor
open Go.RowKit

set_option maxRecDepth 100000 in
theorem epRight_any (p : Ep.Pr) (w : World) : Calls Tryd.prog 43 #[prV p] w fun r w' => r = .returned (.bool (decide (Ep.right p))) ∧ Below w.heap.size w w' := by
  have hb : Below w.heap.size w (w.alloc (.cells #[.int .i64 p.ep, .int .i64 p.st] 59)) := balloc (Below.refl _ _) _
  obtain ⟨e, s⟩ := p
  simp only at hb
  by_cases h1 : 0 ≤ e
  · have d1 : decide (0 ≤ e) = true := decide_eq_true h1
    by_cases h2 : e ≤ 1073741824
    · have d2 : decide (e ≤ 1073741824) = true := decide_eq_true h2
      by_cases h3 : 0 ≤ s
      · have d3 : decide (0 ≤ s) = true := decide_eq_true h3
        by_cases h4 : s ≤ 1099511627776
        · have d4 : decide (s ≤ 1099511627776) = true := decide_eq_true h4
          rw [decide_eq_true (show Ep.right ⟨e, s⟩ from ⟨⟨h1, h2⟩, h3, h4⟩)]
          clear h1 h2 h3 h4
          go_enter Tryd.func43, Tryd.ntmps43
          go_wp2_with fail
          go_ret
          exact ⟨rfl, hb⟩
        · have d4 : decide (s ≤ 1099511627776) = false := decide_eq_false h4
          rw [decide_eq_false (fun k : Ep.right ⟨e, s⟩ => h4 k.2.2)]
          clear h1 h2 h3 h4
          go_enter Tryd.func43, Tryd.ntmps43
          go_wp2_with fail
          go_ret
          exact ⟨rfl, hb⟩
      · have d3 : decide (0 ≤ s) = false := decide_eq_false h3
        rw [decide_eq_false (fun k : Ep.right ⟨e, s⟩ => h3 k.2.1)]
        clear h1 h2 h3
        go_enter Tryd.func43, Tryd.ntmps43
        go_wp2_with fail
        go_ret
        exact ⟨rfl, hb⟩
    · have d2 : decide (e ≤ 1073741824) = false := decide_eq_false h2
      rw [decide_eq_false (fun k : Ep.right ⟨e, s⟩ => h2 k.1.2)]
      clear h1 h2
      go_enter Tryd.func43, Tryd.ntmps43
      go_wp2_with fail
      go_ret
      exact ⟨rfl, hb⟩
  · have d1 : decide (0 ≤ e) = false := decide_eq_false h1
    rw [decide_eq_false (fun k : Ep.right ⟨e, s⟩ => h1 k.1.1)]
    clear h1
    go_enter Tryd.func43, Tryd.ntmps43
    go_wp2_with fail
    go_ret
    exact ⟨rfl, hb⟩

/-- The errors that New tells. -/
abbrev Sents3 (w : World) (p : Nat → Addr) : Prop := SentsOn (fun j => j = 2 ∨ j = 3 ∨ j = 4) w p
/-- The errors that Begin tells; those of a reader of such bytes besides. -/
abbrev Sents4B (w : World) (p : Nat → Addr) : Prop := SentsOn (fun j => j = 2 ∨ j = 3 ∨ j = 4 ∨ j = 13) w p
abbrev Sents5B (w : World) (p : Nat → Addr) : Prop := SentsOn (fun j => j = 0 ∨ j = 2 ∨ j = 3 ∨ j = 4 ∨ j = 13) w p
instance sents3_all (w : World) (p : Nat → Addr) : Coe (SentsOn (fun j => j < 19) w p) (SentsOn (fun j => j = 2 ∨ j = 3 ∨ j = 4) w p) := ⟨fun h => h.mono fun j hj => by omega⟩

set_option maxRecDepth 100000 in
set_option maxHeartbeats 1000000 in
theorem epCheck_any (A : Option Addr) (c : Nat) (l : List Ep.Pr) (w : World) (p : Nat → Addr) (hs : Sents3 w p) (h : PrAt w A c l) :
    Calls Tryd.prog 38 #[.slice A l.length c] w fun r w' => r = .returned (errR p (Ep.bad l)) ∧ Below w.heap.size w w' := by
  have s2 : w.cell? ⟨2, 0, none⟩ = some (errV (p 2)) := hs.cell 2 (by omega)
  have s3 : w.cell? ⟨3, 0, none⟩ = some (errV (p 3)) := hs.cell 3 (by omega)
  have s4 : w.cell? ⟨0, 0, none⟩ = some (errV (p 4)) := hs.cell 4 (by omega)
  have hle := h.le
  have hmx := h.mx
  have HP := hide h
  by_cases h256 : 256 < l.length
  · have d : decide ((256 : Int) < l.length) = true := decide_eq_true (by omega)
    have e : Ep.bad l = some 3 := if_pos h256
    rw [e]
    generalize l.length = n at *
    clear HP h hs e
    go_enter Tryd.func38, Tryd.ntmps38
    go_wp2_with fail
    go_ret
    exact ⟨rfl, Below.refl _ _⟩
  · have d : decide ((256 : Int) < l.length) = false := decide_eq_false (by omega)
    obtain ⟨n, hn⟩ : ∃ n, n = l.length := ⟨_, rfl⟩
    obtain ⟨r, hr⟩ : ∃ r, r = errR p (Ep.bad l) := ⟨_, rfl⟩
    have HR4 : Hid (∀ i, i < n → ¬ Ep.right (Ep.pr l i) → r = errV (p 4)) := hide fun i hi hk => by
      rw [hr]; unfold Ep.bad; rw [if_neg h256, if_pos (fun k => hk (k i (hn ▸ hi)))]; rfl
    have HR2 : Hid ((∀ i, i < n → Ep.right (Ep.pr l i)) → ∀ i, i + 1 < n → ¬ Ep.step (Ep.pr l i) (Ep.pr l (i + 1)) → r = errV (p 2)) := hide fun hR i hi hk => by
      rw [hr]; unfold Ep.bad; rw [if_neg h256, if_neg (fun k => k fun j hj => hR j (hn ▸ hj)), if_pos (fun k => hk (k i (hn ▸ hi)))]; rfl
    have HR0 : Hid ((∀ i, i < n → Ep.right (Ep.pr l i)) → (∀ i, i + 1 < n → Ep.step (Ep.pr l i) (Ep.pr l (i + 1))) → r = .nilIface) := hide fun hR hS => by
      rw [hr, (Ep.bad_none (l := l)).2 ⟨by omega, fun j hj => hR j (hn ▸ hj), fun j hj => hS j (hn ▸ hj)⟩]; rfl
    rw [← hr, ← hn]
    rw [← hn] at hle d h256
    have hn256 : n ≤ 256 := by omega
    have HAT : Hid (∀ V, Below w.heap.size w V → ∀ k, k < n → ∃ g f, A = some ⟨g, f, none⟩ ∧ V.cell? ⟨g, f + k * 2, none⟩ = some (.int .i64 (Ep.pr l k).ep) ∧ V.cell? ⟨g, f + k * 2 + 1, none⟩ = some (.int .i64 (Ep.pr l k).st)) := hide fun V hb k hk => by
      obtain ⟨g, f, e, _, k1, k2⟩ := (HP.out.below hb).at_ k (hn ▸ hk)
      exact ⟨g, f, e, k1, k2⟩
    have HS : Hid (∀ V, Below w.heap.size w V → V.cell? ⟨2, 0, none⟩ = some (errV (p 2)) ∧ V.cell? ⟨0, 0, none⟩ = some (errV (p 4))) := hide fun V hb => ⟨(hb.cell (World.block_lt_of_cell? _ _ s2)).trans s2, (hb.cell (World.block_lt_of_cell? _ _ s4)).trans s4⟩
    have HN := hide hn
    clear HP h hs hr hn s2 s3 s4 h256
    go_enter Tryd.func38, Tryd.ntmps38
    go_wp2_with fail
    go_loopw [12] (fun kv wq => ∃ i : Nat, i ≤ n ∧ kv = .int .i64 i ∧ (∀ j, j < i → Ep.right (Ep.pr l j)) ∧ Below w.heap.size w wq) (fun kv _ => n - (intOf kv).toNat)
    case atStart => exact ⟨0, Nat.zero_le _, rfl, fun j h => absurd h (Nat.not_lt_zero _), Below.refl _ _⟩
    case round =>
      obtain ⟨i, hi, rfl, hR, hb⟩ := hrel
      have HRI := hide hR
      have HB := hide hb
      by_cases hin : i < n
      · obtain ⟨g, f, rfl, k1, k2⟩ := HAT.out wr hb i hin
        obtain ⟨-, s4⟩ := HS.out wr hb
        have hlt : decide ((i : Int) < n) = true := decide_eq_true (by omega)
        have HQ := hide (fun V => epRight_any (Ep.pr l i) V)
        have HBA : Hid (Below w.heap.size w (wr.alloc (.cells #[.int .i64 (Ep.pr l i).ep, .int .i64 (Ep.pr l i).st] 59))) := hide (balloc hb _)
        by_cases hk : Ep.right (Ep.pr l i)
        · rw [decide_eq_true hk] at HQ
          have HK := hide hk
          generalize hpr : Ep.pr l i = q at *
          obtain ⟨pe, ps⟩ := q
          simp only at k1 k2 HQ HBA
          clear hR hb s4 hk
          go_wp2_with (first
            | (go_at_call 43; refine (HQ.out _).mono ?_; rintro e w3 ⟨rfl, hb3⟩; have HB3 := hide (HBA.out.trans (hb3.mono HBA.out.size)); clear hb3)
            | fail)
          go_roundw
          case rel => exact ⟨i + 1, by omega, by go_num, fun j hj => by
            by_cases e : j = i
            · rw [e, hpr]; exact HK.out
            · exact HRI.out j (by omega), HB3.out⟩
          case measure => simp [intOf]; omega
        · rw [decide_eq_false hk] at HQ
          have HE := hide (HR4.out i hin hk)
          have HS4 := hide s4
          generalize hpr : Ep.pr l i = q at *
          obtain ⟨pe, ps⟩ := q
          simp only at k1 k2 HQ HBA
          clear hR hb s4 hk
          go_wp2_with (first
            | (go_at_call 43; refine (HQ.out _).mono ?_; rintro e w3 ⟨rfl, hb3⟩; have HB3 := hide (HBA.out.trans (hb3.mono HBA.out.size)); have s43 := (HS.out _ HB3.out).2; clear hb3)
            | fail)
          go_ret
          exact ⟨congrArg Ending.returned HE.out.symm, HB3.out⟩
      · obtain rfl : i = n := by omega
        have hlt : decide ((i : Int) < i) = false := decide_eq_false (by omega)
        clear hR hb
        go_wp2_with fail
        go_loopw [5] (fun kv wq => ∃ j : Nat, 1 ≤ j ∧ j ≤ max i 1 ∧ kv = .int .i64 j ∧ (∀ k, k + 1 < j → Ep.step (Ep.pr l k) (Ep.pr l (k + 1))) ∧ Below w.heap.size w wq) (fun kv _ => i - (intOf kv).toNat)
        case atStart => exact ⟨1, Nat.le_refl _, by omega, rfl, fun j h => by omega, HB.out⟩
        case round =>
          obtain ⟨j, hj1, hjn, rfl, hS, hb⟩ := hrel
          have HSJ := hide hS
          have HBJ := hide hb
          by_cases hji : j < i
          · obtain ⟨m, rfl⟩ : ∃ m, j = m + 1 := ⟨j - 1, by omega⟩
            obtain ⟨g, f, rfl, k1, k2⟩ := HAT.out wr hb m (by omega)
            obtain ⟨g', f', e', k3, k4⟩ := HAT.out wr hb (m + 1) hji
            injection e' with e'; injection e' with e1 e2; subst e1 e2
            obtain ⟨s2, -⟩ := HS.out wr hb
            have hlt2 : decide ((m : Int) + 1 < (i : Int)) = true := decide_eq_true (by omega)
            have hw1 : IntKind.i64.wrap ((m : Int) + 1 - 1) = (m : Int) := by rw [IntKind.wrap_i64]; omega
            have hw2 : IntKind.i64.wrap (m : Int) = (m : Int) := by rw [IntKind.wrap_i64]; omega
            have hw3 : IntKind.i64.wrap ((m : Int) + 1 + 1) = (m : Int) + 1 + 1 := by rw [IntKind.wrap_i64]; omega
            have HE : Hid (¬ Ep.step (Ep.pr l m) (Ep.pr l (m + 1)) → r = errV (p 2)) := hide fun hk => HR2.out HRI.out m hji hk
            have HST : Hid (Ep.step (Ep.pr l m) (Ep.pr l (m + 1)) ↔ (Ep.pr l m).ep < (Ep.pr l (m + 1)).ep ∧ (Ep.pr l m).st < (Ep.pr l (m + 1)).st) := hide Iff.rfl
            obtain ⟨e1, he1⟩ : ∃ e1, e1 = (Ep.pr l m).ep := ⟨_, rfl⟩
            obtain ⟨e2, he2⟩ : ∃ e2, e2 = (Ep.pr l (m + 1)).ep := ⟨_, rfl⟩
            obtain ⟨t1, ht1⟩ : ∃ t1, t1 = (Ep.pr l m).st := ⟨_, rfl⟩
            obtain ⟨t2, ht2⟩ : ∃ t2, t2 = (Ep.pr l (m + 1)).st := ⟨_, rfl⟩
            rw [← he1] at k1 HST
            rw [← he2] at k3 HST
            rw [← ht1] at k2 HST
            rw [← ht2] at k4 HST
            clear hS hb he1 he2 ht1 ht2
            by_cases q1 : e2 ≤ e1
            · have d1 : decide (e2 ≤ e1) = true := decide_eq_true q1
              have HX := hide (HE.out fun k => by have := (HST.out.1 k).1; omega)
              clear q1
              go_wp2_with fail
              go_quiet (fail)
              go_wp2_with fail
              go_ret
              exact ⟨congrArg Ending.returned HX.out.symm, below_drewN HBJ.out _⟩
            · have d1 : decide (e2 ≤ e1) = false := decide_eq_false q1
              by_cases q2 : t2 ≤ t1
              · have d2 : decide (t2 ≤ t1) = true := decide_eq_true q2
                have HX := hide (HE.out fun k => by have := (HST.out.1 k).2; omega)
                clear q1 q2
                go_wp2_with fail
                go_quiet (fail)
                go_wp2_with fail
                go_ret
                exact ⟨congrArg Ending.returned HX.out.symm, below_drewN HBJ.out _⟩
              · have d2 : decide (t2 ≤ t1) = false := decide_eq_false q2
                have HX := hide (HST.out.2 ⟨by omega, by omega⟩)
                clear q1 q2
                go_wp2_with fail
                go_quiet (fail)
                go_wp2_with fail
                go_roundw
                case rel => exact ⟨m + 1 + 1, by omega, by omega, by go_num, fun k hk => by
                  by_cases e : k = m
                  · rw [e]; exact HX.out
                  · exact HSJ.out k (by omega), below_drewN HBJ.out _⟩
                case measure => simp [intOf]; omega
          · have hlt2 : decide ((j : Int) < (i : Int)) = false := decide_eq_false (by omega)
            have HX := hide (HR0.out HRI.out fun k hk => HSJ.out k (by omega))
            clear hS hb
            go_wp2_with fail
            go_ret
            exact ⟨congrArg Ending.returned HX.out.symm, HBJ.out⟩

theorem run_eql_pairs_nil (A : Option Addr) (n c : Nat) (w : World) : (binOp .eql 22 (.slice A n c) (.slice none 0 0)).run Tryd.prog w = .ok (.bool A.isNone) w := by
  have ht : Tryd.prog.underlying 22 = some (.slice 59) := by kernel_rfl
  have h : ∀ d : Nat, (Op.equalIn (d + 1) 22 (.slice A n c) (.slice none 0 0)).run Tryd.prog w = .ok A.isNone w := fun d => by cases A <;> simp [Op.equalIn, run_underlying ht]
  simp only [binOp]
  simp [Op.equal, Op.maxDepth, h 9999]
/-- A row of pairs in new memory. -/
def OwnP (w : World) (base : Nat) (v : Value) (l : List Ep.Pr) : Prop := w.ownsRow base 59 2 v l.length (l.flatMap prCells)

set_option maxRecDepth 100000 in
theorem prClone_any (A : Option Addr) (c : Nat) (l : List Ep.Pr) (w : World) (hn : l.length ≤ 1000000) (h : PrAt w A c l) (h0 : A = none → l = [] ∧ c = 0) :
    Calls Tryd.prog 39 #[.slice A l.length c] w fun e w' => ∃ v, e = .returned v ∧ OwnP w' w.heap.size v l ∧ Below w.heap.size w w' := by
  have ks := fun W => run_eql_pairs_nil A l.length c W
  have hno : World.ownsRow (w.alloc (.cells #[] 59)) w.heap.size 59 2 (.slice (some ⟨w.heap.size, 0, none⟩) 0 0) 0 [] := World.ownsRow_made w #[] 0 (Nat.le_refl _) (Nat.zero_le _) rfl
  cases A with
  | none =>
    obtain ⟨rfl, rfl⟩ := h0 rfl
    simp only [List.length_nil] at ks ⊢
    clear h h0 hn hno
    go_enter Tryd.func39, Tryd.ntmps39
    go_wp2_with fail
    go_ret
    exact ⟨_, rfl, World.ownsRow_nil _ _ _ _, Below.refl _ _⟩
  | some a =>
    have HC := hide (fun j u hu => ((balloc (Below.refl w.heap.size w) (.cells #[] 59)).cell (p := a.add j) (World.block_lt_of_cell? w _ (h.news j u hu))).trans (h.news j u hu))
    have HO := hide hno
    have HN := hide hn
    have hle := h.le
    have HL := hide (prs_len l)
    generalize hm : l.length = m at *
    have HM := hide hm
    clear h h0 hn hno hm
    go_enter Tryd.func39, Tryd.ntmps39
    go_wp2_with (at_builtin; refine wpList_appG (w := w.alloc _) rfl 22 59 2 16 _ (by kernel_rfl) pair_info rfl (by omega) (.tmp 5) (.tmp 6) rfl w.heap.size _ 0 [] rfl HO.out a m c (l.flatMap prCells) rfl HL.out HC.out (prs_one l) (by have := HN.out; simp [maxLen]; omega) (by have := HN.out; omega) (by simp) ?_; intro v w3 hown3 hg3 hv3)
    have hb : Below w.heap.size w w3 := (balloc (Below.refl _ _) _).grown hg3 (by simp) (fun g hg => (HO.out.lt g hg).1)
    rw [List.nil_append, Nat.zero_add] at hown3
    go_ret
    refine ⟨v, rfl, ?_, hb⟩
    unfold OwnP
    rw [HM.out]
    exact hown3

set_option maxRecDepth 100000 in
theorem epPairs_any (X : Nat) (l : List Ep.Pr) (S : Nat → Prop) (w : World) (hn : l.length ≤ 1000000) (h : EpAt w X l S) :
    Calls Tryd.prog 16 #[.pointer (some ⟨X, 0, none⟩)] w fun e w' => ∃ v, e = .returned v ∧ OwnP w' w.heap.size v l ∧ Below w.heap.size w w' := by
  obtain ⟨v, h⟩ := h
  obtain ⟨A, c, rfl, hp, h0, cX⟩ := h.cells
  have HM := hide (prClone_any A c l w hn hp h0)
  generalize l.length = n at *
  clear h hn hp h0
  go_enter Tryd.func16, Tryd.ntmps16
  go_wp2_with (first
    | (go_at_call 39; refine HM.out.mono ?_; rintro e w2 ⟨v, rfl, ho2, hb2⟩; have HO2 := hide ho2; have HB2 := hide hb2; clear ho2 hb2)
    | fail)
  go_ret
  exact ⟨v, rfl, HO2.out, HB2.out⟩

/-- A new box around a row of one's own. -/
theorem ep_box {w w2 : World} {v : Value} {l : List Ep.Pr} (ho : OwnP w2 w.heap.size v l) (hb : Below w.heap.size w w2) :
    EpAt (w2.alloc (.cells #[v] 75)) w2.heap.size l (fun k => w.heap.size ≤ k ∧ k < (w2.alloc (.cells #[v] 75)).heap.size) ∧ Below w.heap.size w (w2.alloc (.cells #[v] 75)) := by
  have hs := hb.size
  refine ⟨⟨v, heap_alloc_new _ _, ?_, ⟨hs, by simp⟩, fun g hg => ⟨(World.ownsRow.lt ho g hg).1, by have := (World.ownsRow.lt ho g hg).2; simp; omega⟩⟩, balloc hb _⟩
  have h1 : World.ownsRow (w2.alloc (.cells #[v] 75)) w.heap.size 59 2 v l.length (l.flatMap prCells) := World.ownsRow.alloc ho _
  refine ⟨h1.1, ?_⟩
  rcases h1.2 with k | ⟨g, cap, cur, e, _, r⟩
  · exact .inl k
  · exact .inr ⟨g, cap, cur, e, Nat.zero_le _, r⟩

set_option maxRecDepth 100000 in
theorem epClone_any (X : Nat) (l : List Ep.Pr) (S : Nat → Prop) (w : World) (hn : l.length ≤ 1000000) (h : EpAt w X l S) :
    Calls Tryd.prog 15 #[.pointer (some ⟨X, 0, none⟩)] w fun e w' => ∃ Y, e = .returned (.pointer (some ⟨Y, 0, none⟩)) ∧ EpAt w' Y l (fun k => w.heap.size ≤ k ∧ k < w'.heap.size) ∧ Below w.heap.size w w' := by
  have HM := hide (epPairs_any X l S w hn h)
  clear h hn
  go_enter Tryd.func15, Tryd.ntmps15
  go_wp2_with (first
    | (go_at_call 16; refine HM.out.mono ?_; rintro e w2 ⟨v, rfl, ho2, hb2⟩; obtain ⟨A2, n2, c2, rfl⟩ := own_slice ho2; have HO2 := hide ho2; have HB2 := hide hb2; clear ho2 hb2)
    | fail)
  go_ret
  exact ⟨_, rfl, ep_box HO2.out HB2.out⟩

set_option maxRecDepth 100000 in
theorem epNew_any (A : Option Addr) (c : Nat) (l : List Ep.Pr) (w : World) (p : Nat → Addr) (hs : Sents3 w p) (h : PrAt w A c l) (h0 : A = none → l = [] ∧ c = 0) :
    Calls Tryd.prog 11 #[.slice A l.length c] w fun r w' => Below w.heap.size w w' ∧ ((∃ j, Ep.bad l = some j ∧ r = .returned (.tuple #[.pointer none, errV (p j)])) ∨
      (Ep.Ok l ∧ ∃ X, r = .returned (.tuple #[.pointer (some ⟨X, 0, none⟩), .nilIface]) ∧ EpAt w' X l (fun k => w.heap.size ≤ k ∧ k < w'.heap.size))) := by
  have HK := hide (epCheck_any A c l w p hs h)
  cases hb : Ep.bad l with
  | some j =>
    rw [hb] at HK
    simp only [errR] at HK
    have k1 := fun W => neq_nilD (p j) W
    unfold errV at *
    clear h h0 hs
    generalize l.length = n at *
    go_enter Tryd.func11, Tryd.ntmps11
    go_wp2_with (first
      | (go_at_call 38; refine HK.out.mono ?_; rintro e w2 ⟨rfl, hb2⟩; have HB2 := hide hb2; clear hb2)
      | fail)
    go_returns
    exact ⟨HB2.out, .inl ⟨j, rfl, rfl⟩⟩
  | none =>
    have hok := Ep.bad_none.1 hb
    rw [hb] at HK
    simp only [errR] at HK
    have HC := hide (fun (V : World) (hbv : Below w.heap.size w V) => prClone_any A c l V (by have := hok.len; omega) (h.below hbv) h0)
    have HOK := hide hok
    clear h h0 hs hb hok
    generalize l.length = n at *
    go_enter Tryd.func11, Tryd.ntmps11
    go_wp2_with (first
      | (go_at_call 38; refine HK.out.mono ?_; rintro e w2 ⟨rfl, hb2⟩; have HB2 := hide hb2; clear hb2)
      | (go_at_call 39; refine (HC.out _ HB2.out).mono ?_; rintro e w3 ⟨v, rfl, ho3, hb3⟩; obtain ⟨A3, n3, c3, rfl⟩ := own_slice ho3; have HO3 := hide ho3; have HB3 := hide hb3; clear ho3 hb3)
      | fail)
    go_returns
    obtain ⟨h1, h2⟩ := ep_box HO3.out HB3.out
    refine ⟨HB2.out.trans (h2.mono HB2.out.size), .inr ⟨HOK.out, _, rfl, h1.mono fun k hk => ⟨Nat.le_trans HB2.out.size hk.1, hk.2⟩⟩⟩
end Go.Proofs.YtplpakdbahlgaaaDoor

namespace Go.Proofs.YtplpakdbahlgaaaDoor
open Go.RowKit

theorem epNew_ok (A : Option Addr) (c n : Nat) (l : List Ep.Pr) (w : World) (p : Nat → Addr) (hn : l.length = n) (hs : Sents3 w p) (h : PrAt w A c l) (h0 : A = none → l = [] ∧ c = 0) (hok : Ep.Ok l) :
    Calls Tryd.prog 11 #[.slice A n c] w fun r w' => ∃ X, r = .returned (.tuple #[.pointer (some ⟨X, 0, none⟩), .nilIface]) ∧ EpAt w' X l (fun k => w.heap.size ≤ k ∧ k < w'.heap.size) ∧ Below w.heap.size w w' := by
  subst hn
  refine (epNew_any A c l w p hs h h0).mono ?_
  rintro e w' ⟨hb, ⟨j, hj, _⟩ | ⟨_, X, he, hx⟩⟩
  · rw [hok.bad] at hj; cases hj
  · exact ⟨X, he, hx, hb⟩
theorem epNew_bad (A : Option Addr) (c n j : Nat) (l : List Ep.Pr) (w : World) (p : Nat → Addr) (hn : l.length = n) (hs : Sents3 w p) (h : PrAt w A c l) (h0 : A = none → l = [] ∧ c = 0) (hb : Ep.bad l = some j) :
    Calls Tryd.prog 11 #[.slice A n c] w fun r w' => r = .returned (.tuple #[.pointer none, errV (p j)]) ∧ Below w.heap.size w w' := by
  subst hn
  refine (epNew_any A c l w p hs h h0).mono ?_
  rintro e w' ⟨hb', ⟨j', hj, he⟩ | ⟨hok, _⟩⟩
  · rw [hb] at hj; cases hj; exact ⟨he, hb'⟩
  · rw [hok.bad] at hb; cases hb

def ex9 : List Ep.Pr := [⟨1, 0⟩, ⟨3, 10⟩]
theorem ex9_ok : Ep.Ok ex9 := by
  refine ⟨by decide, fun i hi => ?_, fun i hi => ?_⟩
  · match i, hi with
    | 0, _ => decide
    | 1, _ => decide
  · match i, hi with
    | 0, _ => decide
theorem ex9_end : Ep.end_ ex9 2 20 = (1, 10, true) := by decide

theorem ex9_at (w : World) : PrAt (w.alloc (.cells #[.int .i64 1, .int .i64 0, .int .i64 3, .int .i64 10] 59)) (some ⟨w.heap.size, 0, none⟩) 2 ex9 := by
  refine ⟨Nat.le_refl _, by decide, fun k hk => ⟨w.heap.size, 0, rfl, by simp, ?_⟩⟩
  match k, hk with
  | 0, _ => exact ⟨by rw [World.cell?_alloc_mark]; rfl, by rw [World.cell?_alloc_mark]; rfl⟩
  | 1, _ => exact ⟨by rw [World.cell?_alloc_mark]; rfl, by rw [World.cell?_alloc_mark]; rfl⟩

theorem run_eql_line (X : Nat) (w : World) : (binOp .eql 25 (.pointer (some ⟨X, 0, none⟩)) (.pointer none)).run Tryd.prog w = .ok (.bool false) w := by
  have ht : Tryd.prog.underlying 25 = some (.pointer 75) := by kernel_rfl
  have h : ∀ d : Nat, (Op.equalIn (d + 1) 25 (.pointer (some ⟨X, 0, none⟩)) (.pointer none)).run Tryd.prog w = .ok false w := fun d => by simp [Op.equalIn, run_underlying ht]
  simp only [binOp]
  simp [Op.equal, Op.maxDepth, h 9999]

set_option maxRecDepth 100000 in
theorem first9_any (w : World) (p : Nat → Addr) (hs : Sents3 w p) : Calls Tryd.prog 10 #[] w fun r w' => r = .returned (.bool true) ∧ Below w.heap.size w w' := by
  have hb0 : Below w.heap.size w (w.alloc (.cells #[.int .i64 1, .int .i64 0, .int .i64 3, .int .i64 10] 59)) := balloc (Below.refl _ _) _
  have HN := hide (epNew_ok (some ⟨w.heap.size, 0, none⟩) 2 2 ex9 _ p rfl (hs.below hb0) (ex9_at w) (fun e => by cases e) ex9_ok)
  have HB0 := hide hb0
  have hE : ∀ X S V, EpAt V X ex9 S → Calls Tryd.prog 37 #[.pointer (some ⟨X, 0, none⟩), .int .i64 2, .int .i64 20] V fun e w' => e = .returned (.tuple #[.int .i64 1, .int .i64 10, .bool true]) ∧ Below V.heap.size V w' := fun X S V h => by
    have := epEnd_any X ex9 S 2 20 V h ex9_ok
    rw [ex9_end] at this
    exact this
  have HE := hide hE
  have kl := fun X W => run_eql_line X W
  clear hs hb0 hE
  go_enter Tryd.func10, Tryd.ntmps10
  go_wp2_with (first
    | (go_at_call 11; refine HN.out.mono ?_; rintro e w2 ⟨X, rfl, hx, hb2⟩; have HX := hide hx; have HB2 := hide (HB0.out.trans (hb2.mono HB0.out.size)); clear hx hb2)
    | (go_at_call 37; refine (HE.out _ _ _ HX.out).mono ?_; rintro e w3 ⟨rfl, hb3⟩; have HB3 := hide (HB2.out.trans (hb3.mono HB2.out.size)); clear hb3)
    | fail)
  go_ret
  exact ⟨rfl, HB3.out⟩
end Go.Proofs.YtplpakdbahlgaaaDoor

namespace Go.Proofs.YtplpakdbahlgaaaDoor
open Go.RowKit Go.ChangeShapes Go.WideShapes Go.ChangeAt

def i64ok (z : Int) : Prop := -9223372036854775808 ≤ z ∧ z ≤ 9223372036854775807
theorem cells1_int : Tryd.prog.cellsOf 3 = 1 := by kernel_rfl
theorem cells1_i64 : Tryd.prog.cellsOf 2 = 1 := by kernel_rfl
/-- One field of one cell, a number. -/
theorem field_num1 {H : Type} {enc : TypeId × Value → H} {W : World} {base : Nat} {spare : Nat → Bool} {held : Bool} {n' : Nat} {t : TypeId} {K : IntKind} {cs : List Value} {y : Option (DataW H × List MemPlace)} (j : Nat)
    (ht : Tryd.prog.underlying t = some (.int K)) (hc : Tryd.prog.cellsOf t = 1) (hy : y.isSome = true) (h : DataW.trod enc Tryd.prog W base spare held n' t ((cs.drop j).take (Tryd.prog.cellsOf t)) = y) :
    ∃ z, cs[j]? = some (.int K z) ∧ (Lit.int K z).wf = true := by
  obtain ⟨x, rfl⟩ := Option.isSome_iff_exists.1 hy
  obtain ⟨z, h1, _, h2⟩ := DataW.trod_int ht h
  rw [hc] at h1
  refine ⟨z, ?_, h2⟩
  have h3 : ((cs.drop j).take 1)[0]? = some (.int K z) := by rw [h1]; rfl
  simpa using h3

instance : Inhabited Ep.Pr := ⟨Ep.z0⟩
theorem pair_cells : Tryd.prog.cellsOf 59 = 2 := by kernel_rfl
theorem pair_fields : ∃ f0 f1 : Field, Tryd.prog.underlying 59 = some (.struct #[f0, f1]) ∧ (f0.type = 3 ∧ f0.offset = 0) ∧ (f1.type = 2 ∧ f1.offset = 1) :=
  ⟨_, _, Tryd.underlying59, ⟨rfl, rfl⟩, ⟨rfl, rfl⟩⟩
/-- An argument of pairs, as it lies and is read. -/
structure ArgP (W : World) (a : Option Addr) (cap : Nat) (l : List Ep.Pr) : Prop where
  at_ : PrAt W a cap l
  nil : a = none → l = [] ∧ cap = 0
  ok : ∀ k, k < l.length → i64ok (Ep.pr l k).ep ∧ i64ok (Ep.pr l k).st
theorem ArgP.below {W W' : World} {a : Option Addr} {cap : Nat} {l : List Ep.Pr} (h : ArgP W a cap l) (hb : Below W.heap.size W W') : ArgP W' a cap l := ⟨h.at_.below hb, h.nil, h.ok⟩

theorem pairs_of {H : Type} {enc : TypeId × Value → H} {W : World} {base : Nat} {held : Bool} {a : Option Addr} {len cap : Nat} {d : DataW H} {p : List MemPlace}
    (h : DataW.Trod enc Tryd.prog W base (fun _ => true) held 22 (.slice a len cap) d p) : ∃ l : List Ep.Pr, l.length = len ∧ ArgP W a cap l := by
  obtain ⟨fuel, hf⟩ := h
  rcases Go.Deep.open_slice Tryd.underlying22 hf with ⟨hcs, _⟩ | ⟨x, l, c, m, n, D, Pl, hcs, _, hl, hm, hmm, _, hi⟩
  · simp [Value.cells] at hcs
    obtain ⟨rfl, rfl, rfl⟩ := hcs
    exact ⟨[], rfl, PrAt.nil _ _ _ (by omega), fun _ => ⟨rfl, rfl⟩, fun k hk => by simp at hk⟩
  · simp [Value.cells] at hcs
    obtain ⟨rfl, rfl, rfl⟩ := hcs
    have hmc : m = cap := by simpa using hmm
    have one : ∀ i, i < len → ∃ v : Ep.Pr, (i64ok v.ep ∧ i64ok v.st) ∧ W.cell? (x.add (i * 2)) = some (.int .i64 v.ep) ∧ W.cell? (x.add (i * 2 + 1)) = some (.int .i64 v.st) := by
      intro i hil
      obtain ⟨cs', hc, ht'⟩ := hi i (by omega)
      rw [pair_cells] at hc
      obtain ⟨f0, f1, hu, ⟨a0, b0⟩, ⟨a1, b1⟩⟩ := pair_fields
      obtain ⟨ys, n', _, _, _, hyl, hfd⟩ := DataW.trod_struct hu ht'
      obtain ⟨_, hcl, hat⟩ := World.cells?_some hc
      have hs : ∀ j, j < 2 → (ys[j]?).isSome = true := fun j hj => by
        have : j < ys.length := by rw [hyl]; exact hj
        simp [this]
      have g0 := hfd 0 f0 rfl
      have g1 := hfd 1 f1 rfl
      rw [a0, b0] at g0
      rw [a1, b1] at g1
      obtain ⟨z0, e0, w0⟩ := field_num1 0 Tryd.underlying3 cells1_int (hs 0 (by omega)) g0
      obtain ⟨z1, e1, w1⟩ := field_num1 1 Tryd.underlying2 cells1_i64 (hs 1 (by omega)) g1
      have h0 := hat 0 (by omega)
      have h1 := hat 1 (by omega)
      rw [Go.Deep.add_add] at h0 h1
      exact ⟨⟨z0, z1⟩, ⟨bounds_i64 w0, bounds_i64 w1⟩, h0.trans e0, h1.trans e1⟩
    obtain ⟨V, hV⟩ := Go.Deep.choose_lt (α := Ep.Pr) one
    have hg : ∀ k, k < len → Ep.pr ((List.range len).map V) k = V k := fun k hk => by simp [Ep.pr, List.getD, hk]
    refine ⟨(List.range len).map V, by simp, ⟨by simpa using hl, by simpa [maxLen, hmc] using hm, fun k hk => ?_⟩, fun e => (by cases e), fun k hk => ?_⟩
    · have hk' : k < len := by simpa using hk
      obtain ⟨b, off, spot⟩ := x
      obtain ⟨_, r0, r1⟩ := hV k hk'
      have hc0 := (hV 0 (by omega)).2.1
      have hspot : spot = none := by simpa [Addr.add] using World.cell?_spot hc0
      subst hspot
      rw [hg k hk']
      rw [Addr.add_lit] at r0
      rw [Addr.add_lit, ← Nat.add_assoc] at r1
      exact ⟨b, off, rfl, World.block_lt_of_cell? _ _ r0, r0, r1⟩
    · have hk' : k < len := by simpa using hk
      rw [hg k hk']
      exact (hV k hk').1
end Go.Proofs.YtplpakdbahlgaaaDoor
