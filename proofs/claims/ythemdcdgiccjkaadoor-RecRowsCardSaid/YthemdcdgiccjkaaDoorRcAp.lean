/-
  All, plainly, of batches one behind the other: whole, and with one of them spoilt.
-/
import Derived.Test.YthemdcdgiccjkaaDoorRcA
import Derived.Test.YthemdcdgiccjkaaDoorRcZ
namespace Go.Proofs.YthemdcdgiccjkaaDoor
namespace Rc

theorem all_step (l : List UInt8) (at_ : Nat) (acc : List Bat) (hat : at_ < l.length) (hc : rcode (l.drop at_) = 0) : allGo l (l.length - at_) at_ acc = allGo l (l.length - (at_ + rsize (l.drop at_))) (at_ + rsize (l.drop at_)) (acc ++ [parse (rbody (l.drop at_))]) := by
  have hr := rsize_le _ hc
  rw [show l.length - at_ = (l.length - at_ - 1) + 1 by omega, allGo, if_pos hat, if_pos hc]
  exact allGo_fuel _ _ _ _ _ (by omega) (by omega)
theorem all_stop (l : List UInt8) (at_ : Nat) (acc : List Bat) (hat : at_ < l.length) (hc : rcode (l.drop at_) ≠ 0) : allGo l (l.length - at_) at_ acc = (acc, at_, rcode (l.drop at_)) := by
  rw [show l.length - at_ = (l.length - at_ - 1) + 1 by omega, allGo, if_pos hat, if_neg hc]
theorem all_end (l : List UInt8) (acc : List Bat) : allGo l (l.length - l.length) l.length acc = (acc, l.length, 0) := by
  rw [Nat.sub_self]; rfl
theorem bytes_pos (b : Bat) : 8 ≤ (bytes b).length := by rw [bytes_len]; omega
/-- Whole ones are read. -/
theorem all_run (bs : List Bat) : ∀ (pre rest : List UInt8) (acc : List Bat), (∀ b ∈ bs, Good b) →
    allGo (pre ++ (bs.flatMap bytes ++ rest)) ((pre ++ (bs.flatMap bytes ++ rest)).length - pre.length) pre.length acc = allGo (pre ++ (bs.flatMap bytes ++ rest)) ((pre ++ (bs.flatMap bytes ++ rest)).length - (pre.length + (bs.flatMap bytes).length)) (pre.length + (bs.flatMap bytes).length) (acc ++ bs) := by
  induction bs with
  | nil => intro pre rest acc _; simp
  | cons b bs ih =>
    intro pre rest acc h
    have hg := h b List.mem_cons_self
    have e : pre ++ ((b :: bs).flatMap bytes ++ rest) = (pre ++ bytes b) ++ (bs.flatMap bytes ++ rest) := by simp only [List.flatMap_cons, List.append_assoc]
    have hp := bytes_pos b
    obtain ⟨l, hl⟩ : ∃ l, l = pre ++ ((b :: bs).flatMap bytes ++ rest) := ⟨_, rfl⟩
    have hd : l.drop pre.length = bytes b ++ (bs.flatMap bytes ++ rest) := by
      rw [hl, e, List.append_assoc]
      exact drop_pad _ _ _ rfl
    obtain ⟨r1, r2, r3⟩ := bytes_read b hg (bs.flatMap bytes ++ rest)
    have r4 := bytes_rsize b hg (bs.flatMap bytes ++ rest)
    have hlen : pre.length < l.length := by
      have := congrArg List.length hd
      rw [List.length_drop, List.length_append] at this
      omega
    rw [← hl, all_step l pre.length acc hlen (by rw [hd]; exact r1), hd, r3, r4, (body_read b hg).1]
    have h2 := ih (pre ++ bytes b) rest (acc ++ [b]) (fun x hx => h x (List.mem_cons_of_mem _ hx))
    rw [← e, ← hl, List.length_append] at h2
    rw [h2]
    simp only [List.flatMap_cons, List.length_append, List.append_assoc, List.singleton_append, Nat.add_assoc]
theorem good_some (bs : List Bat) (k : Nat) (hk : k < bs.length) : bs.flatMap bytes = (bs.take k).flatMap bytes ++ (bytes bs[k] ++ (bs.drop (k + 1)).flatMap bytes) := by
  conv => lhs; rw [← List.take_append_drop k bs, List.drop_eq_getElem_cons hk]
  rw [List.flatMap_append, List.flatMap_cons]
/-- One of them is spoilt behind its length: what is ahead of it is read, and the sum is told. -/
theorem all_spoilt (bs : List Bat) (h : ∀ b ∈ bs, Good b) (k i : Nat) (y : UInt8) (hk : k < bs.length) (h1 : ((bs.take k).flatMap bytes).length + 4 ≤ i) (h2 : i < ((bs.take (k + 1)).flatMap bytes).length) (hy : y ≠ 0) :
    all ((bs.flatMap bytes).set i ((bs.flatMap bytes).getD i 0 ^^^ y)) = (bs.take k, ((bs.take k).flatMap bytes).length, 102) := by
  have e := good_some bs k hk
  have hg := h _ (List.getElem_mem hk)
  have e1 : (bs.take (k + 1)).flatMap bytes = (bs.take k).flatMap bytes ++ bytes bs[k] := by
    rw [List.take_succ_eq_append_getElem hk, List.flatMap_append, List.flatMap_cons, List.flatMap_nil, List.append_nil]
  rw [e1, List.length_append] at h2
  obtain ⟨pre, hpre⟩ : ∃ pre, pre = (bs.take k).flatMap bytes := ⟨_, rfl⟩
  obtain ⟨post, hpost⟩ : ∃ post, post = (bs.drop (k + 1)).flatMap bytes := ⟨_, rfl⟩
  rw [← hpre] at e h1 h2 ⊢
  rw [← hpost] at e
  have hget : (bs.flatMap bytes).getD i 0 = (bytes bs[k]).getD (i - pre.length) 0 := by
    rw [e, List.getD_eq_getElem?_getD, List.getD_eq_getElem?_getD, List.getElem?_append_right (by omega), List.getElem?_append_left (by omega)]
  have hset : ∀ x, (bs.flatMap bytes).set i x = pre ++ ((bytes bs[k]).set (i - pre.length) x ++ post) := fun x => by
    rw [e, List.set_append_right _ _ (by omega), List.set_append_left _ _ (by omega)]
  rw [hget, hset]
  have hsp := spoilt bs[k] hg post (i - pre.length) y (by omega) (by omega) hy
  obtain ⟨z, hz⟩ : ∃ z, z = (bytes bs[k]).set (i - pre.length) ((bytes bs[k]).getD (i - pre.length) 0 ^^^ y) ++ post := ⟨_, rfl⟩
  rw [← hz] at hsp ⊢
  have hzl : 0 < z.length := by
    rw [hz, List.length_append, List.length_set]
    have := bytes_pos bs[k]
    omega
  have hrun := all_run (bs.take k) [] z [] (fun b hb => h b (List.mem_of_mem_take hb))
  rw [← hpre] at hrun
  simp only [List.nil_append, List.length_nil, Nat.zero_add, Nat.sub_zero] at hrun
  have hd : (pre ++ z).drop pre.length = z := drop_pad _ _ _ rfl
  have hstop := all_stop (pre ++ z) pre.length (bs.take k) (by rw [List.length_append]; omega) (by rw [hd, hsp]; omega)
  rw [hd, hsp] at hstop
  unfold all
  rw [hrun, hstop]
end Rc
theorem int_info : (Tryd.prog.info? 3).map (fun i => (i.zero, i.size, i.bytes)) = some (some (.int .i64 0), 1, 8) := by kernel_rfl
def Rc.fl (bs : List Rc.Bat) (k : Nat) : List UInt8 := (bs.take k).flatMap Rc.bytes
def Rc.off (bs : List Rc.Bat) (k : Nat) : Nat := (Rc.fl bs k).length
theorem Rc.fl_succ (bs : List Rc.Bat) (k : Nat) (h : k < bs.length) : Rc.fl bs (k + 1) = Rc.fl bs k ++ Rc.bytes bs[k] := by
  unfold Rc.fl
  rw [List.take_succ_eq_append_getElem h, List.flatMap_append, List.flatMap_cons, List.flatMap_nil, List.append_nil]
theorem Rc.off_succ (bs : List Rc.Bat) (k : Nat) (h : k < bs.length) : Rc.off bs (k + 1) = Rc.off bs k + (Rc.bytes bs[k]).length := by
  unfold Rc.off
  rw [Rc.fl_succ bs k h, List.length_append]
theorem own_reads {w : World} {lo : Nat} {A : Option Addr} {n c : Nat} {l : List UInt8} (h : Own w lo (.slice A n c) l) : Reads w A l := by
  obtain ⟨A', c', e, ha⟩ := h.arg
  injection e with e1 e2 e3
  subst e1
  exact ha.reads
end Go.Proofs.YthemdcdgiccjkaaDoor
