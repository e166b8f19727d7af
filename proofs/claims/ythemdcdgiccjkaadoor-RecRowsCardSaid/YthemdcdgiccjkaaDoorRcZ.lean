/-
  A batch's bytes with one byte turned behind the length, or cut off, plainly: what Read tells.
-/
import Derived.Test.YthemdcdgiccjkaaDoorRcQ
import Derived.Test.YthemdcdgiccjkaaDoorOwnSet
namespace Go.Proofs.YthemdcdgiccjkaaDoor
open Crc
namespace Rc

theorem little_inj : ∀ (l m : List UInt8), l.length = m.length → Vi.little l = Vi.little m → l = m
  | [], [], _, _ => rfl
  | [], _ :: _, h, _ => by simp at h
  | _ :: _, [], h, _ => by simp at h
  | a :: l, b :: m, h, e => by
    simp only [Vi.little] at e
    have h1 := a.toNat_lt
    have h2 := b.toNat_lt
    have e1 : a.toNat = b.toNat := by omega
    have e2 : Vi.little l = Vi.little m := by omega
    rw [UInt8.toNat_inj.1 e1, little_inj l m (by simpa using h) e2]
theorem sumN_inj {l m : List UInt8} (h : sumN l = sumN m) : sum l = sum m := BitVec.eq_of_toNat_eq h
theorem set_ne (l : List UInt8) (k : Nat) (x : UInt8) (hk : k < l.length) (hx : x ≠ l.getD k 0) : l.set k x ≠ l := by
  intro e
  have h := congrArg (fun m => m.getD k 0) e
  simp [List.getD, hk] at h
  exact hx (by simp [List.getD, hk, h])
theorem xor_ne (x y : UInt8) (hy : y ≠ 0) : x ^^^ y ≠ x := by
  intro e
  apply hy
  have h : x ^^^ (x ^^^ y) = x ^^^ x := by rw [e]
  rw [← UInt8.xor_assoc, UInt8.xor_self, UInt8.zero_xor] at h
  exact h

/-- One byte turned, behind the length. -/
theorem spoilt (b : Bat) (g : Good b) (rest : List UInt8) (i : Nat) (y : UInt8) (h4 : 4 ≤ i) (hi : i < (bytes b).length) (hy : y ≠ 0) :
    rcode (((bytes b).set i ((bytes b).getD i 0 ^^^ y)) ++ rest) = 102 := by
  have hbl := body_len b g
  have hn1 := g.n1
  have hsl := sumN_lt (body b)
  have hlen := bytes_len b
  obtain ⟨l, hl⟩ : ∃ l, l = bytes b := ⟨_, rfl⟩
  rw [← hl] at hi hlen ⊢
  have el : l = le 4 (body b).length ++ (le 4 (sumN (body b)) ++ body b) := by rw [hl]; unfold bytes; simp only [List.append_assoc]
  have t4 : l.take 4 = le 4 (body b).length := by rw [el, List.take_append_of_le_length (by rw [le_len]; omega), List.take_of_length_le (by rw [le_len]; omega)]
  have d4 : l.drop 4 = le 4 (sumN (body b)) ++ body b := by rw [el]; exact drop_pad _ _ _ (le_len _ _)
  have d8 : l.drop 8 = body b := by rw [show (8 : Nat) = 4 + 4 from rfl, ← List.drop_drop, d4]; exact drop_pad _ _ _ (le_len _ _)
  obtain ⟨x, hx⟩ : ∃ x, x = l.getD i 0 ^^^ y := ⟨_, rfl⟩
  rw [← hx]
  obtain ⟨z, hz⟩ : ∃ z, z = l.set i x := ⟨_, rfl⟩
  have hzl : z.length = 8 + (body b).length := by rw [hz, List.length_set]; exact hlen
  rw [← hz]
  have n1 : rn (z ++ rest) = (body b).length := by
    unfold rn
    rw [List.take_append_of_le_length (by omega), hz, List.take_set_of_le (by omega), t4, little_le 4 _ (by rw [show (256 : Nat) ^ 4 = 4294967296 from rfl]; omega)]
  have hbd : rbody (z ++ rest) = z.drop 8 := by
    unfold rbody
    rw [n1, List.drop_append_of_le_length (by omega), List.take_append_of_le_length (by rw [List.length_drop]; omega), List.take_of_length_le (by rw [List.length_drop]; omega)]
  have hsm : rsum (z ++ rest) = Vi.little ((z.drop 4).take 4) := by
    unfold rsum
    rw [List.drop_append_of_le_length (by omega), List.take_append_of_le_length (by rw [List.length_drop]; omega)]
  have hne : sumN (rbody (z ++ rest)) ≠ rsum (z ++ rest) := by
    rw [hbd, hsm]
    by_cases h8 : i < 8
    · have e1 : z.drop 8 = body b := by rw [hz, List.drop_set_of_lt h8, d8]
      have e2 : z.drop 4 = (l.drop 4).set (i - 4) x := by rw [hz, List.drop_set, if_neg (by omega)]
      rw [e1, e2, d4, List.take_set, List.take_append_of_le_length (by rw [le_len]; omega), List.take_of_length_le (by rw [le_len]; omega)]
      intro e
      have e3 : Vi.little (le 4 (sumN (body b))) = Vi.little ((le 4 (sumN (body b))).set (i - 4) x) := by
        rw [← e, little_le 4 _ (by rw [show (256 : Nat) ^ 4 = 4294967296 from rfl]; omega)]
      have e4 := little_inj _ _ (by simp) e3
      refine set_ne (le 4 (sumN (body b))) (i - 4) x (by rw [le_len]; omega) ?_ e4.symm
      have e5 : (le 4 (sumN (body b))).getD (i - 4) 0 = l.getD i 0 := by
        have h1 : l[i]? = (l.drop 4)[i - 4]? := by rw [List.getElem?_drop]; congr 1; omega
        rw [List.getD_eq_getElem?_getD, List.getD_eq_getElem?_getD, h1, d4, List.getElem?_append_left (by rw [le_len]; omega)]
      rw [e5, hx]
      exact xor_ne _ _ hy
    · have e1 : z.drop 8 = (body b).set (i - 8) x := by rw [hz, List.drop_set, if_neg (by omega), d8]
      have e2 : (z.drop 4).take 4 = (l.drop 4).take 4 := by
        rw [hz, List.drop_set, if_neg (by omega), List.take_set_of_le (by omega)]
      have e3 : Vi.little ((l.drop 4).take 4) = sumN (body b) := by
        rw [d4, List.take_append_of_le_length (by rw [le_len]; omega), List.take_of_length_le (by rw [le_len]; omega), little_le 4 _ (by rw [show (256 : Nat) ^ 4 = 4294967296 from rfl]; omega)]
      have e5 : (body b).getD (i - 8) 0 = l.getD i 0 := by
        have h1 : l[i]? = (l.drop 8)[i - 8]? := by rw [List.getElem?_drop]; congr 1; omega
        rw [List.getD_eq_getElem?_getD, List.getD_eq_getElem?_getD, h1, d8]
      rw [e1, e2, e3, hx, ← e5]
      intro e
      exact sum_set_neD (body b) (i - 8) y (by omega) hy (sumN_inj e)
  unfold rcode
  have hl2 : (z ++ rest).length = 8 + (body b).length + rest.length := by rw [List.length_append, hzl]
  rw [if_neg (by omega), n1, if_neg (by omega), if_neg (by omega), if_pos hne]
/-- Cut off. -/
theorem cut_short (b : Bat) (g : Good b) (k : Nat) (hk : k < (bytes b).length) : rcode ((bytes b).take k) = 101 := by
  have hbl := body_len b g
  have hn1 := g.n1
  have hlen := bytes_len b
  have hl : ((bytes b).take k).length = k := by rw [List.length_take]; omega
  unfold rcode
  by_cases h8 : k < 8
  · rw [if_pos (by omega)]
  · have e : bytes b = le 4 (body b).length ++ (le 4 (sumN (body b)) ++ body b) := by unfold bytes; simp only [List.append_assoc]
    have n1 : rn ((bytes b).take k) = (body b).length := by
      unfold rn
      rw [List.take_take, show min 4 k = 4 by omega, e, List.take_append_of_le_length (by rw [le_len]; omega), List.take_of_length_le (by rw [le_len]; omega), little_le 4 _ (by rw [show (256 : Nat) ^ 4 = 4294967296 from rfl]; omega)]
    rw [if_neg (by omega), n1, if_neg (by omega), if_pos (by omega)]
end Rc
end Go.Proofs.YthemdcdgiccjkaaDoor
