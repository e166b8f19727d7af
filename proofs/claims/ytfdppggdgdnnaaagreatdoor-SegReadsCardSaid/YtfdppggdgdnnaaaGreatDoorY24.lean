/-
  A Read's limit, plainly: what it is told is as many batches as go within the limit, but the first; with a greater limit more.
  Where an offset lies in a segment made of batches.
-/
import Derived.Test.YtfdppggdgdnnaaaGreatDoorZ19
namespace Go.Proofs.YtfdppggdgdnnaaaGreatDoor
namespace Sg
theorem exists_cut (P : Nat → Bool) : ∀ n, (∀ i j, i ≤ j → j < n → P i = true → P j = true) → ∃ k, k ≤ n ∧ (∀ i, i < k → P i = false) ∧ ∀ i, k ≤ i → i < n → P i = true := by
  intro n
  induction n with
  | zero => intro _; exact ⟨0, Nat.le_refl _, fun i hi => by omega, fun i _ hi => by omega⟩
  | succ n ih =>
    intro hm
    obtain ⟨k, hk, h1, h2⟩ := ih fun i j hij hj => hm i j hij (by omega)
    by_cases hkn : k < n
    · refine ⟨k, by omega, h1, fun i hi hin => ?_⟩
      by_cases e : i = n
      · subst e; exact hm k i hi (by omega) (h2 k (Nat.le_refl _) hkn)
      · exact h2 i hi (by omega)
    · obtain rfl : k = n := by omega
      cases hP : P k with
      | true => exact ⟨k, by omega, h1, fun i hi hin => by obtain rfl : i = k := (by omega); exact hP⟩
      | false => exact ⟨k + 1, Nat.le_refl _, fun i hi => by
          by_cases e : i = k
          · subst e; exact hP
          · exact h1 i (by omega), fun i hi hin => by omega⟩
/-- Of a test that holds from some edge on: of the edges that are counted it does not hold. -/
theorem cnt_lt (l : List Edge) (P : Edge → Bool) (hm : ∀ i j, i ≤ j → j < l.length → P (ed l i) = true → P (ed l j) = true) (i : Nat) (hi : i < cnt l P) : P (ed l i) = false := by
  obtain ⟨k, hk, h1, h2⟩ := exists_cut (fun i => P (ed l i)) l.length hm
  have e := cnt_eq l P k hk h1 h2
  exact h1 i (by omega)
theorem cnt_mono (l : List Edge) (P Q : Edge → Bool) (h : ∀ e, Q e = true → P e = true) : cnt l P ≤ cnt l Q := by
  unfold cnt
  refine List.countP_mono_left fun i _ hp => ?_
  cases hq : Q (ed l i) with
  | true => rw [h _ hq] at hp; exact hp
  | false => rfl
end Sg
/-- The bytes of what lies between two edges. -/
theorem flat_mid (bs : List Rc.Bat) (i j : Nat) (hij : i ≤ j) : (((bs.drop i).take (j - i)).flatMap Rc.bytes).length + ((bs.take i).flatMap Rc.bytes).length = ((bs.take j).flatMap Rc.bytes).length := by
  have e1 : bs.take j = bs.take i ++ (bs.drop i).take (j - i) := by
    conv => lhs; rw [show j = i + (j - i) by omega, List.take_add]
  rw [e1, List.flatMap_append, List.length_append]
  omega
section
variable {d : Dk.St} {s s0 : Sg.St} {room used : Int} {names : Dk.Dir} {x : Nat} {bs : List Rc.Bat}
/-- Beside the first no more than the limit. -/
theorem Md.within (h : Md d s room used names s0 x bs) (most : Int) (k n fin : Nat) (hk : k < bs.length) (hfin : (fin : Int) = max ((k : Int) + 1) (((Sg.cnt s.edges (fun e => decide (most < e.pos - ((Sg.ed s.edges (k + 1)).pos - n)))) : Int) - 1)) (hfl : fin ≤ bs.length) :
    fin = k + 1 ∨ (n : Int) + ((((bs.drop (k + 1)).take (fin - (k + 1))).flatMap Rc.bytes).length : Nat) ≤ most := by
  by_cases h1 : fin = k + 1
  · exact .inl h1
  · refine .inr ?_
    have hlt := Sg.cnt_lt s.edges (fun e => decide (most < e.pos - ((Sg.ed s.edges (k + 1)).pos - n))) (fun i j hij hj hp => by
      have hm : (Sg.ed s.edges i).pos ≤ (Sg.ed s.edges j).pos := by
        have e := h.seg
        subst e
        exact Sg.pos_mono s0 h.one h.zero bs i j hij hj
      have hp' := of_decide_eq_true hp
      exact decide_eq_true (by omega)) fin (by omega)
    have hle := of_decide_eq_false hlt
    have e := h.seg
    subst e
    rw [Sg.ed_pos s0 h.one h.zero bs fin hfl, Sg.ed_pos s0 h.one h.zero bs (k + 1) (by omega)] at hle
    have hf := flat_mid bs (k + 1) fin (by omega)
    omega
/-- With a greater limit as far at least. -/
theorem fin_mono (l : List Sg.Edge) (a b c : Int) (hab : a ≤ b) (k fa fb : Nat) (ha : (fa : Int) = max ((k : Int) + 1) (((Sg.cnt l (fun e => decide (a < e.pos - c))) : Int) - 1)) (hb : (fb : Int) = max ((k : Int) + 1) (((Sg.cnt l (fun e => decide (b < e.pos - c))) : Int) - 1)) : fa ≤ fb := by
  have h := Sg.cnt_mono l (fun e => decide (a < e.pos - c)) (fun e => decide (b < e.pos - c)) fun e he => by
    have := of_decide_eq_true he
    exact decide_eq_true (by omega)
  omega
end
end Go.Proofs.YtfdppggdgdnnaaaGreatDoor

namespace Go.Proofs.YtfdppggdgdnnaaaGreatDoor
open Go.RowKit Go.Maps Go.Sort

/-- Where an offset lies. -/
theorem chain_find (s : Sg.St) (h1 : s.edges.length = 1) (bs : List Rc.Bat) (hc : Sg.Chain s bs) (o : Int) (ho : (Sg.ed (Sg.adds s bs).edges 0).off ≤ o) : ∀ n, n ≤ bs.length → o < (Sg.ed (Sg.adds s bs).edges n).off → ∃ (k q : Nat) (hk : k < bs.length), o = bs[k].base + q ∧ q < bs[k].recs.length := by
  intro n
  induction n with
  | zero => intro _ h; omega
  | succ n ih =>
    intro hn h
    by_cases h2 : o < (Sg.ed (Sg.adds s bs).edges n).off
    · exact ih (by omega) h2
    · have e1 := Sg.ed_base s h1 bs hc n (by omega)
      have e2 := Sg.ed_next s h1 bs n (by omega)
      exact ⟨n, (o - bs[n].base).toNat, by omega, by omega, by omega⟩
theorem Md.find {d : Dk.St} {s s0 : Sg.St} {room used : Int} {names : Dk.Dir} {x : Nat} {bs : List Rc.Bat} (h : Md d s room used names s0 x bs) (o : Int) (h0 : (Sg.last s0.edges).off ≤ o) (h2 : o < (Sg.last s.edges).off) : ∃ (k q : Nat) (hk : k < bs.length), o = bs[k].base + q ∧ q < bs[k].recs.length := by
  have hl := h.len
  have e := h.seg
  subst e
  refine chain_find s0 h.one bs h.chain o ?_ bs.length (Nat.le_refl _) ?_
  · rw [Sg.adds_ed bs s0 0 (by rw [h.one]; omega)]
    have : Sg.last s0.edges = Sg.ed s0.edges 0 := by unfold Sg.last; rw [h.one]
    rw [← this]; exact h0
  · have : Sg.last (Sg.adds s0 bs).edges = Sg.ed (Sg.adds s0 bs).edges bs.length := by unfold Sg.last; rw [hl]; rfl
    rw [← this]; exact h2
end Go.Proofs.YtfdppggdgdnnaaaGreatDoor
