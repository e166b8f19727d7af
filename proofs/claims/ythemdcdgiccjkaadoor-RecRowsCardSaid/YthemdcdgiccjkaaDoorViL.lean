/-
  Numbers and texts laid one behind the other, plainly; what a plain reader reads there.
-/
import Derived.Test.YthemdcdgiccjkaaDoorViP
namespace Go.Proofs.YthemdcdgiccjkaaDoor
open Go.RowKit

theorem flat_at {α : Type} (f : α → List UInt8) (pre rest : List UInt8) (xs : List α) (k : Nat) (hk : k < xs.length) : (pre ++ (xs.flatMap f ++ rest)).drop (pre.length + ((xs.take k).flatMap f).length) = f xs[k] ++ ((xs.drop (k + 1)).flatMap f ++ rest) := by
  have e : xs.flatMap f = (xs.take k).flatMap f ++ (f xs[k] ++ (xs.drop (k + 1)).flatMap f) := by
    conv => lhs; rw [← List.take_append_drop k xs, List.drop_eq_getElem_cons hk]
    rw [List.flatMap_append, List.flatMap_cons]
  rw [e, show pre ++ ((xs.take k).flatMap f ++ (f xs[k] ++ (xs.drop (k + 1)).flatMap f) ++ rest) = (pre ++ (xs.take k).flatMap f) ++ (f xs[k] ++ ((xs.drop (k + 1)).flatMap f ++ rest)) from by simp only [List.append_assoc]]
  exact drop_pad _ _ _ (by rw [List.length_append])
theorem flat_succ {α : Type} (f : α → List UInt8) (xs : List α) (k : Nat) (hk : k < xs.length) : (xs.take (k + 1)).flatMap f = (xs.take k).flatMap f ++ f xs[k] := by
  rw [List.take_succ_eq_append_getElem hk, List.flatMap_append, List.flatMap_cons, List.flatMap_nil, List.append_nil]
theorem flat_le {α : Type} (f : α → List UInt8) (c : Nat) : ∀ (xs : List α), (∀ x ∈ xs, (f x).length ≤ c) → (xs.flatMap f).length ≤ xs.length * c
  | [], _ => by simp
  | x :: xs, h => by
    rw [List.flatMap_cons, List.length_append, List.length_cons, Nat.succ_mul]
    have h1 := h x List.mem_cons_self
    have h2 := flat_le f c xs fun y hy => h y (List.mem_cons_of_mem _ hy)
    omega
def eU (u : Nat) : List UInt8 := Vi.put u
def eI (n : Int) : List UInt8 := Vi.put (Vi.zz n)
def eT (q : Part) : List UInt8 := Vi.put q.l.length ++ q.l

theorem text_at (l b r : List UInt8) (k most : Nat) (hu : b.length < 18446744073709551616) (h : l.drop k = Vi.put b.length ++ (b ++ r)) (hm : b.length ≤ most) : Vi.text l (fine k) most = (b, fine (k + (Vi.size b.length + b.length))) := by
  have hl : l.length - k = Vi.size b.length + (b.length + r.length) := by
    have := congrArg List.length h
    rw [List.length_drop, List.length_append, List.length_append] at this
    exact this
  have hs := Vi.size_pos b.length
  unfold Vi.text
  simp only [peek_at l (b ++ r) k b.length most hu h, if_neg (show ¬ most < b.length by omega)]
  rw [if_neg (by simp [fine]), if_neg (by simp only [fine]; omega)]
  have hd : l.drop (k + Vi.size b.length) = b ++ r := by rw [← List.drop_drop, h]; exact drop_pad _ _ _ rfl
  simp only [fine] at hd ⊢
  rw [hd]
  simp [Vi.Rs.on]
theorem peek_big (l r : List UInt8) (k u : Nat) (hu : u < 18446744073709551616) (h : l.drop k = Vi.put u ++ r) : Vi.num l (fine k) 18446744073709551615 = (u, fine (k + Vi.size u)) :=
  num_at_lo l r k u _ hu h (by omega)
theorem int_big (l r : List UInt8) (k : Nat) (n : Int) (h1 : -9223372036854775808 ≤ n) (h2 : n ≤ 9223372036854775807) (h : l.drop k = Vi.put (Vi.zz n) ++ r) : Vi.int l (fine k) (-9223372036854775808) 9223372036854775807 = (n, fine (k + Vi.size (Vi.zz n))) := by
  rw [int_at l r k n _ _ h1 h2 h, if_neg (by omega)]
theorem fixed_three (l : List UInt8) (k : Nat) (h : l.drop k = [1, 2, 3]) : Vi.fixed l (fine k) 3 = (197121, fine (k + 3)) := by
  have hl : l.length - k = 3 := by
    have := congrArg List.length h
    rwa [List.length_drop] at this
  unfold Vi.fixed
  rw [if_neg (by simp [fine]), if_neg (by simp only [fine]; omega)]
  simp only [fine, h]
  rfl
theorem fixed_end (l : List UInt8) : Vi.fixed l (fine l.length) 1 = (0, ⟨l.length, 101, none⟩) := by
  unfold Vi.fixed
  rw [if_neg (by simp [fine]), if_pos (by simp only [fine]; omega)]
  rfl
theorem num_end (l : List UInt8) (k most : Nat) : Vi.num l ⟨k, 101, none⟩ most = (0, ⟨k, 101, none⟩) := by
  unfold Vi.num Vi.peek
  rw [if_pos (by simp)]
  rfl

/-- What a reader reads of all that was laid: where it is ahead of each. -/
theorem layout (us : List Nat) (ns : List Int) (ps : List Part) (L : List UInt8) (hL : L = ((us.flatMap eU ++ ns.flatMap eI) ++ ps.flatMap eT) ++ [1, 2, 3])
    (bu : ∀ k, k < us.length → us.getD k 0 < 18446744073709551616) (bn : ∀ k, k < ns.length → -9223372036854775808 ≤ ns.getD k 0 ∧ ns.getD k 0 ≤ 9223372036854775807) (bp : ∀ q ∈ ps, q.l.length ≤ 40) :
    ∃ PU PI PT : Nat → Nat, PU 0 = 0 ∧ (∀ k, k < us.length → Vi.num L (fine (PU k)) 18446744073709551615 = (us.getD k 0, fine (PU (k + 1)))) ∧ PI 0 = PU us.length ∧
      (∀ k, k < ns.length → Vi.int L (fine (PI k)) (-9223372036854775808) 9223372036854775807 = (ns.getD k 0, fine (PI (k + 1)))) ∧ PT 0 = PI ns.length ∧
      (∀ k (h : k < ps.length), Vi.text L (fine (PT k)) 40 = (ps[k].l, fine (PT (k + 1)))) ∧ PT ps.length + 3 = L.length ∧ Vi.fixed L (fine (PT ps.length)) 3 = (197121, fine (PT ps.length + 3)) := by
  have e1 : L = [] ++ (us.flatMap eU ++ (ns.flatMap eI ++ (ps.flatMap eT ++ [1, 2, 3]))) := by rw [hL]; simp only [List.append_assoc, List.nil_append]
  have e2 : L = us.flatMap eU ++ (ns.flatMap eI ++ (ps.flatMap eT ++ [1, 2, 3])) := by rw [hL]; simp only [List.append_assoc]
  have e3 : L = (us.flatMap eU ++ ns.flatMap eI) ++ (ps.flatMap eT ++ [1, 2, 3]) := by rw [hL]; simp only [List.append_assoc]
  refine ⟨fun k => (([] : List UInt8)).length + ((us.take k).flatMap eU).length, fun k => (us.flatMap eU).length + ((ns.take k).flatMap eI).length, fun k => (us.flatMap eU ++ ns.flatMap eI).length + ((ps.take k).flatMap eT).length, by simp, fun k hk => ?_, by simp, fun k hk => ?_, by simp, fun k hk => ?_, ?_, ?_⟩
  · have hd := flat_at eU [] (ns.flatMap eI ++ (ps.flatMap eT ++ [1, 2, 3])) us k hk
    rw [← e1] at hd
    have hg : us[k] = us.getD k 0 := by simp [List.getD, hk]
    rw [hg] at hd
    rw [peek_big L _ _ _ (bu k hk) hd]
    dsimp only
    rw [flat_succ eU us k hk, List.length_append, hg, ← Nat.add_assoc]
    rfl
  · have hd := flat_at eI (us.flatMap eU) (ps.flatMap eT ++ [1, 2, 3]) ns k hk
    rw [← e2] at hd
    have hg : ns[k] = ns.getD k 0 := by simp [List.getD, hk]
    rw [hg] at hd
    rw [int_big L _ _ _ (bn k hk).1 (bn k hk).2 hd]
    dsimp only
    rw [flat_succ eI ns k hk, List.length_append, hg, ← Nat.add_assoc]
    rfl
  · have hd := flat_at eT (us.flatMap eU ++ ns.flatMap eI) [1, 2, 3] ps k hk
    rw [← e3] at hd
    have hb := bp _ (List.getElem_mem hk)
    rw [text_at L ps[k].l ((ps.drop (k + 1)).flatMap eT ++ [1, 2, 3]) _ 40 (by omega) (by rw [hd]; unfold eT; rw [List.append_assoc]) hb]
    dsimp only
    rw [flat_succ eT ps k hk]
    refine Prod.ext rfl (congrArg fine ?_)
    have hh : (eT ps[k]).length = Vi.size ps[k].l.length + ps[k].l.length := by unfold eT; rw [List.length_append]; rfl
    simp only [List.length_append, hh]; omega
  · dsimp only
    rw [List.take_length, hL]
    simp only [List.length_append, List.length_cons, List.length_nil]
  · refine fixed_three L _ ?_
    dsimp only
    rw [List.take_length, ← List.length_append, hL]
    exact drop_pad _ _ _ rfl
end Go.Proofs.YthemdcdgiccjkaaDoor
