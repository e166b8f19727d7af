/-
  An index as bytes, plainly: laid, and read back.
  An index's bytes are read as it, and what is read is of just those bytes: plainly.
  What holds of every index: its numbers, its marks rise.
  The walk through package crc's Seal.
  Package index: Bytes.
-/
import Derived.Test.YtfdppggdgdnnaaaGreatDoorZ8
import Derived.Test.YtfdppggdgdnnaaaGreatDoorZ2
import Derived.Test.YtfdppggdgdnnaaaGreatDoorZ35
import Derived.Test.YtfdppggdgdnnaaaGreatDoorZ1
import Derived.Outline
import Derived.Deep.LoopGhost
namespace Go.Proofs.YtfdppggdgdnnaaaGreatDoor.Ix
open Go.RowKit Vi

def z0 : Mark := ⟨0, 0, 0⟩
def lastFrom : Mark → List Mark → Mark
  | a, [] => a
  | _, m :: l => lastFrom m l
def stepB (a m : Mark) : List UInt8 := Vi.put (m.off - a.off).toNat ++ (Vi.put (Vi.zz (m.time - a.time)) ++ Vi.put (m.pos - a.pos).toNat)
def marksB : Mark → List Mark → List UInt8
  | _, [] => []
  | a, m :: l => stepB a m ++ marksB m l
theorem lastFrom_snoc (l : List Mark) : ∀ (a m : Mark), lastFrom a (l ++ [m]) = m := by
  induction l with
  | nil => intro a m; rfl
  | cons x l ih => intro a m; exact ih x m
theorem marksB_snoc (l : List Mark) : ∀ (a m : Mark), marksB a (l ++ [m]) = marksB a l ++ stepB (lastFrom a l) m := by
  induction l with
  | nil => intro a m; simp [marksB, lastFrom]
  | cons x l ih => intro a m; simp [marksB, lastFrom, ih]
def body (s : St) : List UInt8 := Vi.put s.every.toNat ++ (Vi.put s.marks.length ++ marksB z0 s.marks)
def bytes (s : St) : List UInt8 := body s ++ Crc.little (Crc.sum (body s))
theorem bytes_len (s : St) : (bytes s).length = (body s).length + 4 := by simp [bytes, Crc.little]

/-- Offsets and poses rise. -/
def rise (l : List Mark) : Prop := ∀ i, i + 1 < l.length → (l.getD i z0).off < (l.getD (i + 1) z0).off ∧ (l.getD i z0).pos < (l.getD (i + 1) z0).pos
def riseB (l : List Mark) : Bool := (List.range (l.length - 1)).all fun i => decide ((l.getD i z0).off < (l.getD (i + 1) z0).off) && decide ((l.getD i z0).pos < (l.getD (i + 1) z0).pos)
theorem riseB_iff (l : List Mark) : riseB l = true ↔ rise l := by
  unfold riseB rise
  rw [List.all_eq_true]
  constructor
  · intro h i hi
    have := h i (List.mem_range.2 (by omega))
    simpa using this
  · intro h i hi
    have := h i (by have := List.mem_range.1 hi; omega)
    simpa using this
def okM (m : Mark) : Prop := okO m.off ∧ okT m.time ∧ okP m.pos
instance (m : Mark) : Decidable (okM m) := inferInstanceAs (Decidable (_ ∧ _))
def rightB (l : List Mark) : Bool := l.all fun m => decide (okM m)
theorem rightB_iff (l : List Mark) : rightB l = true ↔ ∀ m ∈ l, okM m := by
  unfold rightB
  rw [List.all_eq_true]
  exact ⟨fun h m hm => of_decide_eq_true (h m hm), fun h m hm => decide_eq_true (h m hm)⟩
theorem rise_tail {m : Mark} {l : List Mark} (h : rise (m :: l)) : rise l := fun i hi => by
  have := h (i + 1) (by simp; omega)
  simpa using this
theorem rise_head {m x : Mark} {l : List Mark} (h : rise (m :: x :: l)) : m.off < x.off ∧ m.pos < x.pos := by
  have := h 0 (by simp)
  simpa using this
theorem rise_snoc {l : List Mark} {m : Mark} (h : rise l) (hm : ∀ a, l.getLast? = some a → a.off < m.off ∧ a.pos < m.pos) : rise (l ++ [m]) := by
  intro i hi
  rw [List.length_append, List.length_singleton] at hi
  by_cases e : i + 1 = l.length
  · have hl : l.getLast? = some (l.getD i z0) := by
      rw [List.getLast?_eq_getElem?, show l.length - 1 = i by omega, List.getElem?_eq_getElem (by omega)]
      simp [List.getD, show i < l.length by omega]
    have := hm _ hl
    simp only [List.getD] at this ⊢
    rw [List.getElem?_append_left (by omega), List.getElem?_append_right (by omega), e, Nat.sub_self]
    simpa using this
  · have := h i (by omega)
    simp only [List.getD] at this ⊢
    rw [List.getElem?_append_left (by omega), List.getElem?_append_left (by omega)]
    exact this
theorem rise_take {l : List Mark} (h : rise l) (k : Nat) : rise (l.take k) := by
  intro i hi
  rw [List.length_take] at hi
  have := h i (by omega)
  simp only [List.getD] at this ⊢
  rw [List.getElem?_take_of_lt (by omega), List.getElem?_take_of_lt (by omega)]
  exact this

/-- One mark read behind another. -/
def rstep (l : List UInt8) (s : Vi.Rs) (m : Mark) : Mark × Vi.Rs :=
  let a := Vi.num l s 1099511627776
  let b := Vi.int l a.2 (-4398046511104) 4398046511104
  let c := Vi.num l b.2 1073741824
  (⟨m.off + a.1, m.time + b.1, m.pos + c.1⟩, c.2)
def rloop (l : List UInt8) (many : Nat) : Nat → Vi.Rs → List Mark → List Mark × Vi.Rs
  | 0, s, acc => (acc, s)
  | f + 1, s, acc => if acc.length < many ∧ s.code = 0 then rloop l many f (rstep l s (lastFrom z0 acc)).2 (acc ++ [(rstep l s (lastFrom z0 acc)).1]) else (acc, s)
theorem rloop_on (l : List UInt8) (many : Nat) (s : Vi.Rs) (acc : List Mark) (h : acc.length < many) (hc : s.code = 0) :
    rloop l many (many - acc.length) s acc = rloop l many (many - (acc ++ [(rstep l s (lastFrom z0 acc)).1]).length) (rstep l s (lastFrom z0 acc)).2 (acc ++ [(rstep l s (lastFrom z0 acc)).1]) := by
  obtain ⟨f, hf⟩ : ∃ f, many - acc.length = f + 1 := ⟨many - acc.length - 1, by omega⟩
  rw [hf]
  show (if _ then _ else _) = _
  rw [if_pos ⟨h, hc⟩]
  congr 1
  simp; omega
theorem rloop_end (l : List UInt8) (many : Nat) (s : Vi.Rs) (acc : List Mark) (h : ¬ (acc.length < many ∧ s.code = 0)) : rloop l many (many - acc.length) s acc = (acc, s) := by
  cases hf : many - acc.length with
  | zero => rfl
  | succ f => exact if_neg h
theorem rloop_len (l : List UInt8) (many : Nat) : ∀ (f : Nat) (s : Vi.Rs) (acc : List Mark), (rloop l many f s acc).1.length ≤ acc.length + f
  | 0, s, acc => Nat.le_refl _
  | f + 1, s, acc => by
    show (if _ then _ else _ : List Mark × Vi.Rs).1.length ≤ _
    split
    · have := rloop_len l many f (rstep l s (lastFrom z0 acc)).2 (acc ++ [(rstep l s (lastFrom z0 acc)).1])
      rw [List.length_append, List.length_singleton] at this
      omega
    · show acc.length ≤ _; omega
def head1 (l : List UInt8) : Nat × Vi.Rs := Vi.num l (fine 0) 1048576
def head2 (l : List UInt8) : Nat × Vi.Rs := Vi.num l (head1 l).2 4096
def tail (l : List UInt8) : List Mark × Vi.Rs := rloop l (head2 l).1 (head2 l).1 (head2 l).2 []
/-- What is amiss with these bytes: the error's number (0: none), and its place. -/
def fault (l : List UInt8) : Nat × Option Nat :=
  if (tail l).2.code ≠ 0 then ((tail l).2.code, (tail l).2.pos)
  else if (tail l).2.at_ < l.length then (103, some (tail l).2.at_)
  else if (riseB (tail l).1 && rightB (tail l).1) = false then (103, none)
  else if (head1 l).1 < 1 then (105, none)
  else (0, none)
def ofMarks (e : Int) (l : List Mark) : St := ⟨e, l, l.map (fun m => ⟨m.off, m.pos⟩), l.foldl (fun t m => max t m.time) (-1099511627776)⟩
def read (l : List UInt8) : St := ofMarks (head1 l).1 (tail l).1
end Go.Proofs.YtfdppggdgdnnaaaGreatDoor.Ix

namespace Go.Proofs.YtfdppggdgdnnaaaGreatDoor.Ix
open Go.RowKit Vi

/-- Such a mark may follow in the bytes. -/
def okStep (a m : Mark) : Prop := (0 ≤ m.off - a.off ∧ m.off - a.off ≤ 1099511627776) ∧ (-4398046511104 ≤ m.time - a.time ∧ m.time - a.time ≤ 4398046511104) ∧ (0 ≤ m.pos - a.pos ∧ m.pos - a.pos ≤ 1073741824)
def steps : Mark → List Mark → Prop
  | _, [] => True
  | a, m :: l => okStep a m ∧ steps m l
theorem steps_of : ∀ (l : List Mark) (a : Mark), okM a → (∀ m ∈ l, okM m) → (∀ m, l.head? = some m → a.off ≤ m.off ∧ a.pos ≤ m.pos) → rise l → steps a l
  | [], _, _, _, _, _ => trivial
  | m :: l, a, ha, hl, hh, hr => by
    have hm := hl m List.mem_cons_self
    have h1 := hh m rfl
    refine ⟨?_, steps_of l m hm (fun x hx => hl x (List.mem_cons_of_mem _ hx)) (fun x hx => ?_) (rise_tail hr)⟩
    · unfold okM okO okT okP at ha hm
      unfold okStep
      omega
    · cases l with
      | nil => cases hx
      | cons y l =>
        cases hx
        have := rise_head hr
        omega
theorem okM_z0 : okM z0 := ⟨⟨by show (0 : Int) ≤ 0; omega, by show (0 : Int) ≤ 1099511627776; omega⟩, ⟨by show (-1099511627776 : Int) ≤ 0; omega, by show (0 : Int) ≤ 1099511627776; omega⟩, ⟨by show (0 : Int) ≤ 0; omega, by show (0 : Int) ≤ 1073741824; omega⟩⟩
theorem steps_z0 {l : List Mark} (h : ∀ m ∈ l, okM m) (hr : rise l) : steps z0 l :=
  steps_of l z0 okM_z0 h (fun m hm => by
    have := h m (List.mem_of_mem_head? hm)
    exact ⟨this.1.1, this.2.2.1⟩) hr

theorem rstep_at (l tl : List UInt8) (k : Nat) (a m : Mark) (h : l.drop k = stepB a m ++ tl) (ho : okStep a m) : rstep l (fine k) a = (m, fine (k + (stepB a m).length)) := by
  obtain ⟨h1, h2, h3⟩ := ho
  have d1 : l.drop k = Vi.put (m.off - a.off).toNat ++ (Vi.put (Vi.zz (m.time - a.time)) ++ (Vi.put (m.pos - a.pos).toNat ++ tl)) := by
    rw [h]; unfold stepB; simp only [List.append_assoc]
  have e1 := num_at_lo l _ k (m.off - a.off).toNat 1099511627776 (by omega) d1 (by omega)
  have d2 : l.drop (k + Vi.size (m.off - a.off).toNat) = Vi.put (Vi.zz (m.time - a.time)) ++ (Vi.put (m.pos - a.pos).toNat ++ tl) := by
    rw [← List.drop_drop, d1]; exact drop_pad _ _ _ rfl
  have e2 : Vi.int l (fine (k + Vi.size (m.off - a.off).toNat)) (-4398046511104) 4398046511104 = (m.time - a.time, fine (k + Vi.size (m.off - a.off).toNat + Vi.size (Vi.zz (m.time - a.time)))) := by
    rw [int_at l _ _ (m.time - a.time) (-4398046511104) 4398046511104 (by omega) (by omega) d2, if_neg (by omega)]
  have d3 : l.drop (k + Vi.size (m.off - a.off).toNat + Vi.size (Vi.zz (m.time - a.time))) = Vi.put (m.pos - a.pos).toNat ++ tl := by
    rw [← List.drop_drop, d2]; exact drop_pad _ _ _ rfl
  have e3 := num_at_lo l _ _ (m.pos - a.pos).toNat 1073741824 (by omega) d3 (by omega)
  unfold rstep
  simp only [e1, e2, e3]
  refine Prod.ext ?_ ?_
  · cases m
    simp only [Mark.mk.injEq]
    refine ⟨?_, ?_, ?_⟩ <;> simp only at * <;> omega
  · show fine _ = fine _
    congr 1
    simp only [stepB, List.length_append, Vi.size]; omega
theorem rloop_at (l tl : List UInt8) (many : Nat) : ∀ (ms : List Mark) (k : Nat) (acc : List Mark), l.drop k = marksB (lastFrom z0 acc) ms ++ tl → many = acc.length + ms.length → steps (lastFrom z0 acc) ms →
    rloop l many (many - acc.length) (fine k) acc = (acc ++ ms, fine (k + (marksB (lastFrom z0 acc) ms).length)) := by
  intro ms
  induction ms with
  | nil =>
    intro k acc h hm hs
    rw [rloop_end l many (fine k) acc (by rw [hm]; simp)]
    simp [marksB]
  | cons m ms ih =>
    intro k acc h hm hs
    rw [List.length_cons] at hm
    have h1 := rstep_at l (marksB m ms ++ tl) k _ m (by rw [h]; simp only [marksB, List.append_assoc]) hs.1
    rw [rloop_on l many (fine k) acc (by omega) rfl, h1]
    simp only
    have hl : lastFrom z0 (acc ++ [m]) = m := lastFrom_snoc acc z0 m
    have h2 := ih (k + (stepB (lastFrom z0 acc) m).length) (acc ++ [m]) (by rw [hl, ← List.drop_drop, h]; simp only [marksB, List.append_assoc]; exact drop_pad _ _ _ rfl) (by simp; omega) (by rw [hl]; exact hs.2)
    rw [h2, hl]
    refine Prod.ext (by simp) ?_
    show fine _ = fine _
    congr 1
    simp only [marksB, List.length_append]; omega

theorem num_stays {l : List UInt8} {s : Rs} {most : Nat} (h : (Vi.num l s most).2.code = 0) : s.code = 0 := peek_stays h
theorem num_canon' {l : List UInt8} {k most : Nat} (h : (Vi.num l (fine k) most).2.code = 0) : ∃ u r, l.drop k = Vi.put u ++ r ∧ u ≤ most ∧ u < 18446744073709551616 ∧ Vi.num l (fine k) most = (u, fine (k + Vi.size u)) := by
  obtain ⟨u, r, h1, h2, h3, h4⟩ := num_canon (l := l) (k := k) (most := most) h
  exact ⟨u, r, h1, h2, h3, by unfold Vi.num; rw [h4]; rfl⟩
theorem rstep_code {l : List UInt8} {s : Rs} {a : Mark} (h : (rstep l s a).2.code = 0) : s.code = 0 := num_stays (int_stays (num_stays h))
theorem rstep_canon {l : List UInt8} {k : Nat} {a : Mark} (h : (rstep l (fine k) a).2.code = 0) : ∃ m tl, l.drop k = stepB a m ++ tl ∧ okStep a m ∧ rstep l (fine k) a = (m, fine (k + (stepB a m).length)) := by
  have hc : (Vi.num l (fine k) 1099511627776).2.code = 0 := int_stays (num_stays h)
  obtain ⟨u, r, d1, u1, u2, e1⟩ := num_canon' hc
  have hb : (Vi.int l (fine (k + Vi.size u)) (-4398046511104) 4398046511104).2.code = 0 := by
    have := num_stays h
    rw [e1] at this; exact this
  obtain ⟨n, r2, d2, n1, n2, e2⟩ := int_canon hb
  have hd : (Vi.num l (fine (k + Vi.size u + Vi.size (Vi.zz n))) 1073741824).2.code = 0 := by
    have := h
    unfold rstep at this
    simp only [e1, e2] at this; exact this
  obtain ⟨v, r3, d3, v1, v2, e3⟩ := num_canon' hd
  have hr2 : r = Vi.put (Vi.zz n) ++ r2 := by
    have := congrArg (List.drop (Vi.size u)) d1
    rw [List.drop_drop, d2] at this
    rw [this]; exact (drop_pad _ _ _ rfl).symm
  have hr3 : r2 = Vi.put v ++ r3 := by
    have := congrArg (List.drop (Vi.size (Vi.zz n))) d2
    rw [List.drop_drop, d3] at this
    rw [this]; exact (drop_pad _ _ _ rfl).symm
  refine ⟨⟨a.off + u, a.time + n, a.pos + v⟩, r3, ?_, ⟨⟨by simp only; omega, by simp only; omega⟩, ⟨by simp only; omega, by simp only; omega⟩, ⟨by simp only; omega, by simp only; omega⟩⟩, ?_⟩
  · unfold stepB
    simp only
    rw [show (a.off + (u : Int) - a.off).toNat = u by omega, show a.time + n - a.time = n by omega, show (a.pos + (v : Int) - a.pos).toNat = v by omega, d1, hr2, hr3]
    simp only [List.append_assoc]
  · unfold rstep
    simp only [e1, e2, e3]
    refine Prod.ext rfl ?_
    show fine _ = fine _
    congr 1
    unfold stepB
    simp only [List.length_append]
    rw [show (a.off + (u : Int) - a.off).toNat = u by omega, show a.time + n - a.time = n by omega, show (a.pos + (v : Int) - a.pos).toNat = v by omega]
    simp only [Vi.size]; omega
theorem rloop_code {l : List UInt8} {many : Nat} : ∀ (f : Nat) (s : Rs) (acc : List Mark), (rloop l many f s acc).2.code = 0 → s.code = 0
  | 0, s, acc, h => h
  | f + 1, s, acc, h => by
    unfold rloop at h
    split at h
    · rename_i hc; exact hc.2
    · exact h
theorem rloop_canon {l : List UInt8} {many : Nat} : ∀ (f : Nat) (k : Nat) (acc : List Mark), many = acc.length + f → (rloop l many f (fine k) acc).2.code = 0 →
    ∃ ms tl, l.drop k = marksB (lastFrom z0 acc) ms ++ tl ∧ steps (lastFrom z0 acc) ms ∧ ms.length = f ∧ rloop l many f (fine k) acc = (acc ++ ms, fine (k + (marksB (lastFrom z0 acc) ms).length))
  | 0, k, acc, hm, h => ⟨[], l.drop k, rfl, trivial, rfl, by simp [rloop, marksB]⟩
  | f + 1, k, acc, hm, h => by
    have e0 : rloop l many (f + 1) (fine k) acc = rloop l many f (rstep l (fine k) (lastFrom z0 acc)).2 (acc ++ [(rstep l (fine k) (lastFrom z0 acc)).1]) := by
      show (if _ then _ else _) = _
      rw [if_pos ⟨by omega, rfl⟩]
    rw [e0] at h ⊢
    obtain ⟨m, tl, d1, o1, e1⟩ := rstep_canon (rloop_code _ _ _ h)
    rw [e1] at h ⊢
    simp only at h ⊢
    have hl : lastFrom z0 (acc ++ [m]) = m := lastFrom_snoc acc z0 m
    obtain ⟨ms, tl2, d2, s2, n2, e2⟩ := rloop_canon f _ (acc ++ [m]) (by simp; omega) h
    rw [hl] at d2 s2 e2
    have ht : tl = marksB m ms ++ tl2 := by
      have := congrArg (List.drop (stepB (lastFrom z0 acc) m).length) d1
      rw [List.drop_drop, d2] at this
      rw [this]; exact (drop_pad _ _ _ rfl).symm
    refine ⟨m :: ms, tl2, by rw [d1, ht]; simp only [marksB, List.append_assoc], ⟨o1, s2⟩, by simp [n2], ?_⟩
    rw [e2]
    refine Prod.ext (by simp) ?_
    show fine _ = fine _
    congr 1
    simp only [marksB, List.length_append]; omega

theorem take_all {l : List UInt8} {k : Nat} (h : l.length ≤ k) : l.drop k = [] := List.drop_eq_nil_of_le h
/-- What is read is of just those bytes. -/
theorem read_canon {l : List UInt8} (h : fault l = (0, none)) : body (read l) = l ∧ rise (read l).marks ∧ (∀ m ∈ (read l).marks, okM m) ∧ 1 ≤ (read l).every ∧ (read l).every ≤ 1048576 ∧ (read l).marks.length ≤ 4096 := by
  unfold fault at h
  by_cases c1 : (tail l).2.code ≠ 0
  · rw [if_pos c1] at h
    exact absurd (congrArg Prod.fst h) c1
  rw [if_neg c1] at h
  by_cases c2 : (tail l).2.at_ < l.length
  · rw [if_pos c2] at h; simp at h
  rw [if_neg c2] at h
  by_cases c3 : (riseB (tail l).1 && rightB (tail l).1) = false
  · rw [if_pos c3] at h; simp at h
  rw [if_neg c3] at h
  by_cases c4 : (head1 l).1 < 1
  · rw [if_pos c4] at h; simp at h
  have hc : (tail l).2.code = 0 := by omega
  have k2 : (head2 l).2.code = 0 := rloop_code _ _ _ hc
  have k1 : (head1 l).2.code = 0 := num_stays k2
  obtain ⟨u, r, d1, u1, u2, e1⟩ := num_canon' k1
  have k2' : (Vi.num l (fine (0 + Vi.size u)) 4096).2.code = 0 := by
    have := k2
    unfold head2 head1 at this
    rw [e1] at this; exact this
  obtain ⟨v, r2, d2, v1, v2, e2⟩ := num_canon' k2'
  have eh1 : head1 l = (u, fine (0 + Vi.size u)) := e1
  have eh2 : head2 l = (v, fine (0 + Vi.size u + Vi.size v)) := by unfold head2; rw [eh1]; exact e2
  have et : tail l = rloop l v v (fine (0 + Vi.size u + Vi.size v)) [] := by unfold tail; rw [eh2]
  rw [et] at hc
  obtain ⟨ms, tl, d3, s3, n3, e3⟩ := rloop_canon v (0 + Vi.size u + Vi.size v) [] (by simp) hc
  rw [List.nil_append] at e3
  rw [show lastFrom z0 [] = z0 from rfl] at d3 s3 e3
  have hm : (read l).marks = ms := by
    show (tail l).1 = ms
    rw [et, e3]
  have he : (read l).every = (u : Int) := by
    show ((head1 l).1 : Int) = _
    rw [eh1]
  rw [et, e3] at c2 c3
  simp only [fine] at c2 c3
  rw [Bool.not_eq_false, Bool.and_eq_true, riseB_iff, rightB_iff] at c3
  rw [eh1] at c4
  simp only at c4
  refine ⟨?_, by rw [hm]; exact c3.1, by rw [hm]; exact c3.2, by rw [he]; omega, by rw [he]; omega, by rw [hm]; omega⟩
  have hr : r = Vi.put v ++ r2 := by
    have := congrArg (List.drop (Vi.size u)) d1
    rw [List.drop_drop, d2] at this
    rw [this]; exact (drop_pad _ _ _ rfl).symm
  have hr2 : r2 = marksB z0 ms ++ tl := by
    have := congrArg (List.drop (Vi.size v)) d2
    rw [List.drop_drop, d3] at this
    rw [this]; exact (drop_pad _ _ _ rfl).symm
  rw [List.drop_zero] at d1
  have htl : tl = [] := by
    have hlen := congrArg List.length d1
    rw [hr, hr2] at hlen
    simp only [List.length_append] at hlen
    have : tl.length = 0 := by simp only [Vi.size] at c2; omega
    exact List.eq_nil_of_length_eq_zero this
  unfold body
  rw [hm, he, n3, Int.toNat_natCast]
  conv => rhs; rw [d1, hr, hr2, htl, List.append_nil]
/-- An index's bytes are read as it. -/
theorem read_body {s : St} (h : Ok s) (hr : rise s.marks) (hn : s.marks.length ≤ 4096) : fault (body s) = (0, none) ∧ (read (body s)).every = s.every ∧ (read (body s)).marks = s.marks := by
  have he := h.every
  have d1 : (body s).drop 0 = Vi.put s.every.toNat ++ (Vi.put s.marks.length ++ marksB z0 s.marks) := rfl
  have e1 : head1 (body s) = (s.every.toNat, fine (0 + Vi.size s.every.toNat)) := num_at_lo _ _ 0 s.every.toNat 1048576 (by omega) d1 (by omega)
  have d2 : (body s).drop (0 + Vi.size s.every.toNat) = Vi.put s.marks.length ++ marksB z0 s.marks := by
    rw [← List.drop_drop, d1]; exact drop_pad _ _ _ rfl
  have e2 : head2 (body s) = (s.marks.length, fine (0 + Vi.size s.every.toNat + Vi.size s.marks.length)) := by
    unfold head2; rw [e1]
    exact num_at_lo _ _ _ s.marks.length 4096 (by omega) d2 hn
  have d3 : (body s).drop (0 + Vi.size s.every.toNat + Vi.size s.marks.length) = marksB (lastFrom z0 []) s.marks ++ [] := by
    rw [← List.drop_drop, d2, List.append_nil]; exact drop_pad _ _ _ rfl
  have e3 : tail (body s) = (s.marks, fine (0 + Vi.size s.every.toNat + Vi.size s.marks.length + (marksB z0 s.marks).length)) := by
    unfold tail; rw [e2]
    exact rloop_at (body s) [] s.marks.length s.marks _ [] d3 (by simp) (steps_z0 h.marks hr)
  refine ⟨?_, ?_, ?_⟩
  · unfold fault
    rw [e3, e1]
    simp only [fine]
    rw [if_neg (by simp), if_neg (by simp only [body, List.length_append, Vi.size]; omega), (riseB_iff _).2 hr, (rightB_iff _).2 h.marks, if_neg (by simp), if_neg (by omega)]
  · show ((head1 (body s)).1 : Int) = _
    rw [e1]; simp only; omega
  · show (tail (body s)).1 = _
    rw [e3]
end Go.Proofs.YtfdppggdgdnnaaaGreatDoor.Ix

namespace Go.Proofs.YtfdppggdgdnnaaaGreatDoor.Ix

structure Inv0 (s : St) : Prop where
  ok : Ok s
  rise : rise s.marks
  last : ∀ m, s.marks.getLast? = some m → ∃ a, s.adds.getLast? = some a ∧ m.off ≤ a.off ∧ m.pos ≤ a.pos
theorem Inv0.new (e : Int) (h : 1 ≤ e ∧ e ≤ 1048576) : Inv0 (new e) :=
  ⟨Ok.new e h, fun i hi => absurd hi (by show ¬ i + 1 < 0; omega), fun m hm => (by cases hm)⟩
theorem Inv0.put {s : St} (h : Inv0 s) {o t p z : Int} (hg : good s o t p z) : Inv0 (put s o t p) := by
  obtain ⟨h1, h2, h3, h4, h5⟩ := hg
  have hlast : ∀ m, s.marks.getLast? = some m → m.off < o ∧ m.pos < p := fun m hm => by
    obtain ⟨a, ha, h6, h7⟩ := h.last m hm
    have := h5 a ha
    omega
  refine ⟨h.ok.put o t p h1 h2 h4, ?_, fun m hm => ?_⟩
  · unfold Ix.put
    simp only
    split
    · exact rise_snoc h.rise hlast
    · exact h.rise
  · refine ⟨⟨o, p⟩, by simp [Ix.put], ?_⟩
    unfold Ix.put at hm
    simp only at hm
    split at hm
    · rw [List.getLast?_append] at hm
      simp at hm
      subst hm
      exact ⟨Int.le_refl _, Int.le_refl _⟩
    · have := hlast m hm
      exact ⟨by show m.off ≤ o; omega, by show m.pos ≤ p; omega⟩
theorem Inv0.add {s : St} (h : Inv0 s) (o t p z : Int) : Inv0 (add s o t p z).2 := by
  unfold Ix.add
  split
  · rename_i hg; exact h.put hg
  · exact h
theorem Inv0.steps {s : St} (h : Inv0 s) : steps z0 s.marks := steps_z0 h.ok.marks h.rise
end Go.Proofs.YtfdppggdgdnnaaaGreatDoor.Ix

namespace Go.Proofs.YtfdppggdgdnnaaaGreatDoor
open Go.RowKit Crc
attribute [local go_sem] BtoNat x32 n32 x8 and8_15 mod256 wrap8 xs32 Bd16toNat mul2

theorem div16b (c : BitVec 32) : U c / (65536 : Int) = U (c >>> 16) := by
  unfold U; rw [BitVec.toNat_ushiftRight, Nat.shiftRight_eq_div_pow]; simp
theorem div24b (c : BitVec 32) : U c / (16777216 : Int) = U (c >>> 24) := by
  unfold U; rw [BitVec.toNat_ushiftRight, Nat.shiftRight_eq_div_pow]; simp
theorem little_cells (c : BitVec 32) : (cells (little c)).toArray = #[.int .u8 (B (u8 c)), .int .u8 (U c / 256 % 256), .int .u8 (U c / 65536 % 256), .int .u8 (U c / 16777216)] := by
  have h := U_hi c
  have h0 := U_lo c
  have e : U c / 16777216 = U c / 16777216 % 256 := by omega
  rw [e, div256, div16b, div24b, mod256, mod256, mod256]; rfl

set_option maxRecDepth 100000 in
set_option maxHeartbeats 400000 in
theorem seal_any (A : Option Addr) (cap n : Nat) (l : List UInt8) (w : World) (hn : l.length = n) (hl : n ≤ 1000000) (hr : Reads w A l) (ht : Tabs w) (hw : 4 ≤ w.heap.size) :
    Calls Tryz.prog 62 #[.slice A n cap] w fun e w' => ∃ v, e = .returned v ∧ Own w' w.heap.size v (l ++ little (sum l)) ∧ Below w.heap.size w w' := by
  have HR := hide hr
  have HT := hide ht
  have HN := hide hn
  clear hr ht hn
  go_enter Tryz.func62, Tryz.ntmps62
  go_wp2_with (first
    | (at_make; refine wpList_mk rfl (.tmp 6) (.tmp 9) rfl n (n + 4) _ _ rfl rfl rfl (by omega) (by omega) (by omega) ?_; intro w1 hown1 hb1 hs1)
    | (refine wpList_cp (o := ⟨some 13, _, _, _, _, _⟩) rfl (.tmp 11) (.tmp 12) rfl w.heap.size _ l _ _ _ rfl hown1 A n cap rfl HN.out (HR.out.below hb1 (Nat.le_refl _)) ?_; intro w2 hown2 hg2 hs2))
  have hb2 : Below w.heap.size w w2 := hb1.grown hg2 (by omega) (by intro k hk; simp [Value.ownBlock] at hk; omega)
  have hz : w.heap.size < w2.heap.size := by omega
  have HB2 := hide hb2
  have HH : Hid (w1.heap.size = w.heap.size + 1 ∧ w2.heap.size = w1.heap.size) := ⟨hs1, hs2⟩
  have hown2' : Own w2 w.heap.size (.slice (some ⟨w.heap.size, 0, none⟩) n (n + 4)) l := by
    have e1 : l.take (List.replicate n (0 : UInt8)).length = l := by rw [List.length_replicate, ← HN.out, List.take_length]
    have e2 : (List.replicate n (0 : UInt8)).drop l.length = [] := by rw [HN.out]; simp
    have := hown2
    rwa [e1, e2, List.append_nil] at this
  have HO2 := hide hown2'
  clear hown1 hown2 hown2' hs1 hs2 hg2 hb2
  refine (of_at _ _ _ [⟨A, cap, l⟩] _ rfl (Nat.le_of_ble_eq_true rfl) ?_ ?_).mono ?_
  · exact readsAll_slice _ _ _ _ _ _ _ HN.out (by have := HH.out; omega) (HR.out.below HB2.out (Nat.le_refl _)) (by omega)
  · exact (HT.out.below HB2.out (Nat.le_refl _)).alloc (by omega) _
  rintro e w' ⟨rfl, k, rfl⟩
  rw [show flat [⟨A, cap, l⟩] = l from by simp [flat]]
  obtain ⟨S, hS⟩ : ∃ S, S = sum l := ⟨_, rfl⟩
  rw [← hS]
  have HS := hide hS
  clear hS
  have HC := hide (little_cells S)
  have HO := hide (little_len S)
  have d1 := U_lo S
  have d2 := U_hi S
  go_wp2_with (at_builtin; refine wpList_app (w := ((w2.alloc _).drewN k).alloc _) rfl (.tmp 17) (.tmp 29) rfl w.heap.size _ l (little S) rfl (((HO2.out.alloc _).drewN k).alloc _) _ 4 4 rfl HO.out (Reads.made _ _ _ _ _ _ (by simp) HC.out) (by rw [HN.out]; omega) (by simp; omega) ?_; intro v w3 hown3 hg3 hv3)
  go_ret
  refine ⟨v, rfl, by rw [← HS.out]; exact hown3, ?_⟩
  refine ((below_drewN (HB2.out.alloc (by omega) _) k).alloc (by simp; omega) _).grown hg3 (by simp; omega) ?_
  intro g hg
  have e : w.heap.size = g := Option.some.inj hg
  omega
end Go.Proofs.YtfdppggdgdnnaaaGreatDoor

namespace Go.Proofs.YtfdppggdgdnnaaaGreatDoor
open Go.RowKit

namespace Ix
theorem steps_at : ∀ (l : List Mark) (a : Mark) (k : Nat), steps a l → k < l.length → okStep (lastFrom a (l.take k)) (l.getD k z0)
  | m :: l, a, 0, h, _ => h.1
  | m :: l, a, k + 1, h, hk => steps_at l m k h.2 (by simpa using hk)
theorem take_snoc (l : List Mark) (k : Nat) (hk : k < l.length) : l.take (k + 1) = l.take k ++ [l.getD k z0] := by
  rw [List.take_succ_eq_append_getElem hk]; simp [List.getD, hk]
theorem stepB_len (a m : Mark) (h : okStep a m) : (stepB a m).length ≤ 30 := by
  obtain ⟨h1, h2, h3⟩ := h
  have a1 := Vi.size_le10 (n := (m.off - a.off).toNat) (by omega)
  have a2 := Vi.size_le10 (n := Vi.zz (m.time - a.time)) (Vi.zz_lt _ (by omega) (by omega))
  have a3 := Vi.size_le10 (n := (m.pos - a.pos).toNat) (by omega)
  unfold Vi.size at a1 a2 a3
  simp only [stepB, List.length_append]
  omega
end Ix

/-- What Bytes has laid so far: its row, and the mark ahead in a block of its own. -/
structure BySt (w0 w : World) (g : Nat) (v : Value) (l : List UInt8) (a : Ix.Mark) : Prop where
  own : Own w w0.heap.size v l
  bel : Below w0.heap.size w0 w
  box : w.heap[g]? = some (.cells #[.int .i64 a.off, .int .i64 a.time, .int .i64 a.pos] 100 (0, 0))
  lo : w0.heap.size ≤ g
theorem BySt.ne {w0 w : World} {g : Nat} {v : Value} {l : List UInt8} {a : Ix.Mark} (h : BySt w0 w g v l a) : v.ownBlock ≠ some g := fun e => by
  rcases h.own.2 with ⟨e1, _⟩ | ⟨g', cap, cur, e1, _, hh, _⟩
  · rw [e1] at e; cases e
  · rw [e1] at e
    have : g' = g := by simpa [Value.ownBlock] using e
    rw [this] at hh
    exact types_ne hh h.box (by decide) rfl
theorem BySt.glt {w0 w : World} {g : Nat} {v : Value} {l : List UInt8} {a : Ix.Mark} (h : BySt w0 w g v l a) : g < w.heap.size := (Array.getElem?_eq_some_iff.1 h.box).1
theorem BySt.below {w0 w w' : World} {g : Nat} {v : Value} {l : List UInt8} {a : Ix.Mark} (h : BySt w0 w g v l a) (hb : Below w.heap.size w w') : BySt w0 w' g v l a :=
  ⟨h.own.below hb (Nat.le_refl _), h.bel.trans (hb.mono h.bel.size), (hb.block g h.glt).trans h.box, h.lo⟩
theorem BySt.app {w0 w w' : World} {g : Nat} {v v' : Value} {l l' : List UInt8} {a : Ix.Mark} (h : BySt w0 w g v l a) (ho : Own w' w0.heap.size v' l') (hg : w.grownBy w' v.ownBlock) : BySt w0 w' g v' l' a :=
  ⟨ho, h.bel.grown hg h.bel.size fun k hk => (h.own.lt k hk).1, (hg.block g h.glt fun e => h.ne e.symm).trans h.box, h.lo⟩
theorem BySt.cells {w0 w : World} {g : Nat} {v : Value} {l : List UInt8} {a : Ix.Mark} (h : BySt w0 w g v l a) : (w.cell? ⟨g, 0, none⟩ = some (.int .i64 a.off) ∧ w.cell? ⟨g, 1, none⟩ = some (.int .i64 a.time) ∧ w.cell? ⟨g, 2, none⟩ = some (.int .i64 a.pos)) ∧ (w.frozen? ⟨g, 0, none⟩ = false ∧ w.frozen? ⟨g, 1, none⟩ = false ∧ w.frozen? ⟨g, 2, none⟩ = false) :=
  ⟨⟨box_cell h.box 0, box_cell h.box 1, box_cell h.box 2⟩, ⟨box_free h.box 0, box_free h.box 1, box_free h.box 2⟩⟩
theorem BySt.set {w0 w : World} {g : Nat} {v : Value} {l : List UInt8} {a : Ix.Mark} (h : BySt w0 w g v l a) (m : Ix.Mark) : BySt w0 (((w.setCell ⟨g, 0, none⟩ (.int .i64 m.off)).setCell ⟨g, 1, none⟩ (.int .i64 m.time)).setCell ⟨g, 2, none⟩ (.int .i64 m.pos)) g v l m := by
  have h1 := heap_setCell_same w g 0 _ _ (.int .i64 m.off) h.box
  have h2 := heap_setCell_same (w.setCell ⟨g, 0, none⟩ (.int .i64 m.off)) g 1 _ _ (.int .i64 m.time) h1
  have h3 := heap_setCell_same ((w.setCell ⟨g, 0, none⟩ (.int .i64 m.off)).setCell ⟨g, 1, none⟩ (.int .i64 m.time)) g 2 _ _ (.int .i64 m.pos) h2
  have hne : ∀ k, k ≠ g → (((w.setCell ⟨g, 0, none⟩ (.int .i64 m.off)).setCell ⟨g, 1, none⟩ (.int .i64 m.time)).setCell ⟨g, 2, none⟩ (.int .i64 m.pos)).heap[k]? = w.heap[k]? := fun k hk =>
    (Below.heap_setCell _ _ _ _ hk).trans ((Below.heap_setCell _ _ _ _ hk).trans (Below.heap_setCell _ _ _ _ hk))
  refine ⟨ownsRow_same h.own fun k hk => hne k fun e => h.ne (by rw [hk, e]), ⟨h.bel.os, h.bel.tape, h.bel.output, by simpa using h.bel.size, fun k hk => (hne k (by have := h.lo; omega)).trans (h.bel.block k hk)⟩, h3, h.lo⟩
theorem BySt.other {w0 w w' : World} {g g' : Nat} {v : Value} {l : List UInt8} {a : Ix.Mark} {cs : Array Value} (h : BySt w0 w g v l a) (hb : w.heap[g']? = some (.cells cs 100 (0, 0))) (hg : w.grownBy w' v.ownBlock) : w'.heap[g']? = some (.cells cs 100 (0, 0)) :=
  (hg.block g' (Array.getElem?_eq_some_iff.1 hb).1 fun e => by
    rcases h.own.2 with ⟨e1, _⟩ | ⟨g2, cap, cur, e1, _, hh, _⟩
    · rw [e1] at e; cases e
    · rw [e1] at e
      have e2 : g' = g2 := by simpa [Value.ownBlock] using e
      rw [← e2] at hh
      exact types_ne hh hb (by decide) rfl).trans hb
theorem ByNew {w0 w : World} {v : Value} {l : List UInt8} (ho : Own w w0.heap.size v l) (hb : Below w0.heap.size w0 w) : BySt w0 (w.alloc (.cells #[.int .i64 0, .int .i64 0, .int .i64 0] 100)) w.heap.size v l Ix.z0 :=
  ⟨ho.alloc _, hb.alloc hb.size _, heap_alloc_new _ _, hb.size⟩

theorem mk_slice4 {w : World} {X : Nat} {mv av : Value} {s : Ix.St} {S : Nat → Prop} (h : IxL w X mv av s S) : ∃ A n c, mv = .slice A n c ∧ n = s.marks.length ∧ n ≤ c ∧ ∀ k, k < n → ∃ g, A = some ⟨g, 0, none⟩ ∧ g < w.heap.size ∧ w.cell? ⟨g, k * 3, none⟩ = some (.int .i64 (s.marks.getD k Ix.z0).off) ∧ w.cell? ⟨g, k * 3 + 1, none⟩ = some (.int .i64 (s.marks.getD k Ix.z0).time) ∧ w.cell? ⟨g, k * 3 + 2, none⟩ = some (.int .i64 (s.marks.getD k Ix.z0).pos) := by
  rcases h.marks.2 with ⟨e, k0⟩ | ⟨g, cap, cur, e, _, hh, hcap, _⟩
  · exact ⟨_, _, _, e, k0.symm, Nat.le_refl _, fun k hk => by omega⟩
  · refine ⟨_, _, _, e, rfl, by omega, fun k hk => ⟨g, rfl, (Array.getElem?_eq_some_iff.1 hh).1, ?_⟩⟩
    obtain ⟨k1, k2, k3⟩ := mk_at s.marks k hk
    have hc := h.marks.cells (g := g) (by rw [e]; rfl)
    have eg : s.marks.getD k Ix.z0 = s.marks[k] := by simp [List.getD, hk]
    rw [eg]
    refine ⟨?_, ?_, ?_⟩
    · have := hc _ _ k1; rwa [Addr.add_lit, Nat.zero_add] at this
    · have := hc _ _ k2; rwa [Addr.add_lit, Nat.zero_add] at this
    · have := hc _ _ k3; rwa [Addr.add_lit, Nat.zero_add] at this

set_option maxRecDepth 100000 in
set_option maxHeartbeats 2000000 in
theorem ixBytes_any (X : Nat) (s : Ix.St) (S : Nat → Prop) (w : World) (h : IxAt w X s S) (he : 0 ≤ s.every ∧ s.every ≤ 1048576) (hn : s.marks.length ≤ 4096) (hst : Ix.steps Ix.z0 s.marks) (ht : Tabs w) (h4 : 4 ≤ w.heap.size) :
    Calls Tryz.prog 27 #[.pointer (some ⟨X, 0, none⟩)] w fun e w' => ∃ v, e = .returned v ∧ Own w' w.heap.size v (Ix.bytes s) ∧ Below w.heap.size w w' := by
  obtain ⟨mv, av, h⟩ := h
  have c0 : w.cell? ⟨X, 0, none⟩ = some (.int .i64 s.every) := box_cell h.box 0
  have c1 : w.cell? ⟨X, 1, none⟩ = some mv := box_cell h.box 1
  have hX := (Array.getElem?_eq_some_iff.1 h.box).1
  obtain ⟨A, n, c, rfl, hl, hnc, hcm⟩ := mk_slice4 h
  have HBODY : Hid (Ix.body s = (Vi.put s.every.toNat ++ Vi.put s.marks.length) ++ Ix.marksB Ix.z0 s.marks) := hide (by unfold Ix.body; rw [List.append_assoc])
  have HSEAL : Hid (Ix.bytes s = Ix.body s ++ Crc.little (Crc.sum (Ix.body s))) := hide rfl
  obtain ⟨ev, hev⟩ := Int.eq_ofNat_of_zero_le he.1
  rw [hev] at c0 HBODY
  rw [Int.toNat_natCast] at HBODY
  have hev1 : ev ≤ 1048576 := by omega
  have hn1 : n ≤ 4096 := by omega
  rw [← hl] at HBODY
  obtain ⟨ms, hms⟩ : ∃ ms, ms = s.marks := ⟨_, rfl⟩
  rw [← hms] at HBODY hl hcm hst
  have HST := hide hst
  have HL := hide hl
  have HC := hide hcm
  have HT := hide ht
  have HP0 := hide (put_nil ev w (by omega))
  have hwe : IntKind.u64.wrap (ev : Int) = (ev : Int) := by rw [IntKind.wrap_u64]; omega
  have hwn : IntKind.u64.wrap (n : Int) = (n : Int) := by rw [IntKind.wrap_u64]; omega
  clear h hev he hn hms hst hl hcm ht
  go_enter Tryz.func27, Tryz.ntmps27
  go_wp2_with fail
  refine HP0.out.mono ?_
  rintro e w1 ⟨A1, k1, rfl, ho1, -, hb1⟩
  have HO1 := hide ho1
  have HB1 := hide hb1
  have d1 := (hb1.cell (p := ⟨X, 1, none⟩) hX).trans c1
  have HP1 := hide (put_nil n w1 (by omega))
  clear ho1 hb1 HP0 c0
  go_wp2_with fail
  refine HP1.out.mono ?_
  rintro e w2 ⟨A2, k2, rfl, -, ha2, hb2⟩
  have HO2 := hide (HO1.out.below hb2 (Nat.le_refl _))
  have HB2 := hide (HB1.out.trans (hb2.mono HB1.out.size))
  have HA2 := hide ha2.reads
  have hz2 : w.heap.size ≤ w2.heap.size := HB2.out.size
  have e1 := (hb2.cell (p := ⟨X, 1, none⟩) (Nat.lt_of_lt_of_le hX HB1.out.size)).trans d1
  have p0 := Vi.size_le10 (n := ev) (by omega)
  have p1 := Vi.size_le10 (n := n) (by omega)
  have q0 : (Vi.put ev).length = Vi.size ev := rfl
  have q1 : (Vi.put n).length = Vi.size n := rfl
  clear ha2 hb2 HP1 HO1 HB1 d1
  generalize Vi.put ev = pe at *
  generalize Vi.put n = pn at *
  generalize Vi.size ev = se at *
  generalize Vi.size n = sn at *
  go_upto_region 3 with (first
    | (at_builtin; refine wpList_app (w := w2) rfl (.tmp 13) (.tmp 20) rfl w.heap.size _ pe pn rfl HO2.out A2 sn k2 rfl q1 HA2.out (by omega) (by omega) ?_; intro v3 w3 hown3 hg3 hv3)
    | fail)
  have HB3 := hide (HB2.out.grown hg3 hz2 fun k hk => (HO2.out.lt k hk).1)
  have f1 : w3.cell? ⟨X, 1, none⟩ = some (.slice A n c) := by
    have hbk := hg3.block X (Nat.lt_of_lt_of_le hX HB2.out.size) (fun e => by have := (HO2.out.lt X e.symm).1; omega)
    simpa [World.cell?, hbk] using e1
  have HY3 := hide (ByNew hown3 HB3.out)
  have hpl : (pe ++ pn).length ≤ 20 := by rw [List.length_append]; omega
  have hz3 : w.heap.size ≤ w3.heap.size := HB3.out.size
  have hX3 : X < w3.heap.size := by omega
  clear hown3 hg3 hv3 HO2 HB2 HA2 e1 HB3
  obtain ⟨pre, hpre⟩ : ∃ pre, pre = pe ++ pn := ⟨_, rfl⟩
  rw [← hpre] at HY3 HBODY hpl
  clear hpre
  go_upto_region 4 with fail
  obtain ⟨g4, hg4⟩ : ∃ g4, g4 = w3.heap.size := ⟨_, rfl⟩
  rw [← hg4] at HY3 ⊢
  have f2 : (w3.alloc (.cells #[.int .i64 0, .int .i64 0, .int .i64 0] 100)).cell? ⟨X, 1, none⟩ = some (.slice A n c) := ((balloc (Below.refl w3.heap.size w3) _).cell (p := ⟨X, 1, none⟩) hX3).trans f1
  generalize w3.alloc (.cells #[.int .i64 0, .int .i64 0, .int .i64 0] 100) = w4 at *
  clear f1 hg4
  go_wp2_with fail
  go_loopw [3, 27] (fun v iv wr => ∃ k : Nat, k ≤ n ∧ iv = .int .i64 k ∧ BySt w wr g4 v (pre ++ Ix.marksB Ix.z0 (ms.take k)) (Ix.lastFrom Ix.z0 (ms.take k)) ∧ (pre ++ Ix.marksB Ix.z0 (ms.take k)).length ≤ 20 + 30 * k) (fun _ iv _ => n - (intOf iv).toNat)
  case atStart => exact ⟨0, Nat.zero_le _, rfl, by simpa [Ix.marksB, Ix.lastFrom] using HY3.out, by simpa [Ix.marksB] using hpl⟩
  case round =>
    obtain ⟨k, hk, rfl, hy, hlen⟩ := hrel
    by_cases hkn : k < n
    · obtain ⟨g, rfl, hg, k1, k2, k3⟩ := HC.out k hkn
      have m1 := (hy.bel.cell (p := ⟨g, k * 3, none⟩) hg).trans k1
      have m2 := (hy.bel.cell (p := ⟨g, k * 3 + 1, none⟩) hg).trans k2
      have m3 := (hy.bel.cell (p := ⟨g, k * 3 + 2, none⟩) hg).trans k3
      have hstep := Ix.steps_at ms Ix.z0 k HST.out (by have := HL.out; omega)
      have htk := Ix.take_snoc ms k (by have := HL.out; omega)
      have hsl := Ix.stepB_len _ _ hstep
      have hnext : pre ++ Ix.marksB Ix.z0 (ms.take (k + 1)) = (pre ++ Ix.marksB Ix.z0 (ms.take k)) ++ Ix.stepB (Ix.lastFrom Ix.z0 (ms.take k)) (ms.getD k Ix.z0) := by
        rw [htk, Ix.marksB_snoc, List.append_assoc]
      have hlast : Ix.lastFrom Ix.z0 (ms.take (k + 1)) = ms.getD k Ix.z0 := by rw [htk, Ix.lastFrom_snoc]
      obtain ⟨a, ha⟩ : ∃ a, a = Ix.lastFrom Ix.z0 (ms.take k) := ⟨_, rfl⟩
      obtain ⟨m, hm⟩ : ∃ m, m = ms.getD k Ix.z0 := ⟨_, rfl⟩
      obtain ⟨l, hl⟩ : ∃ l, l = pre ++ Ix.marksB Ix.z0 (ms.take k) := ⟨_, rfl⟩
      rw [← ha, ← hm] at hstep hsl
      rw [← ha, ← hm, ← hl] at hnext
      rw [← hm] at m1 m2 m3 hlast
      rw [← ha, ← hl] at hy
      rw [← hl] at hlen
      have HNX := hide hnext
      have HLS := hide hlast
      clear ha hm hl hnext hlast htk k1 k2 k3
      obtain ⟨ao, at_, ap⟩ := a
      obtain ⟨mo, mt, mp⟩ := m
      obtain ⟨⟨s1, s2⟩, ⟨s3, s4⟩, ⟨s5, s6⟩⟩ := hstep
      simp only at s1 s2 s3 s4 s5 s6 m1 m2 m3
      obtain ⟨du, hdu⟩ := Int.eq_ofNat_of_zero_le s1
      obtain ⟨dp, hdp⟩ := Int.eq_ofNat_of_zero_le s5
      obtain ⟨dt, hdt⟩ : ∃ dt, dt = mt - at_ := ⟨_, rfl⟩
      have hw1 : IntKind.i64.wrap (mo - ao) = (du : Int) := by rw [hdu, IntKind.wrap_i64]; omega
      have hw2 : IntKind.u64.wrap (du : Int) = (du : Int) := by rw [IntKind.wrap_u64]; omega
      have hw3 : IntKind.i64.wrap (mt - at_) = dt := by rw [hdt, IntKind.wrap_i64]; omega
      have hw4 : IntKind.i64.wrap (mp - ap) = (dp : Int) := by rw [hdp, IntKind.wrap_i64]; omega
      have hw5 : IntKind.u64.wrap (dp : Int) = (dp : Int) := by rw [IntKind.wrap_u64]; omega
      have hdu2 : du < 18446744073709551616 := by omega
      have hdp2 : dp < 18446744073709551616 := by omega
      have hdt1 : -9223372036854775808 ≤ dt := by omega
      have hdt2 : dt ≤ 9223372036854775807 := by omega
      have HSB : Hid (Ix.stepB ⟨ao, at_, ap⟩ ⟨mo, mt, mp⟩ = Vi.put du ++ (Vi.put (Vi.zz dt) ++ Vi.put dp)) := hide (by
        unfold Ix.stepB; simp only; rw [hdu, hdp, hdt, Int.toNat_natCast, Int.toNat_natCast])
      have hll : l.length + 30 ≤ 1000000 := by omega
      have HLN := hide (And.intro hlen hsl)
      have z1 := Vi.size_le10 hdu2
      have z2 := Vi.size_le10 (Vi.zz_lt dt hdt1 hdt2)
      have z3 := Vi.size_le10 hdp2
      have y1 : (Vi.put du).length = Vi.size du := rfl
      have y2 : (Vi.put (Vi.zz dt)).length = Vi.size (Vi.zz dt) := rfl
      have y3 : (Vi.put dp).length = Vi.size dp := rfl
      have HY := hide hy
      clear hy hdu hdp hdt s1 s2 s3 s4 s5 s6 hlen hsl
      go_upto_region 7 with fail
      have hb6 : Below wr.heap.size wr (wr.alloc (.cells #[.int .i64 mo, .int .i64 mt, .int .i64 mp] 100)) := balloc (Below.refl _ _) _
      have b6 : (wr.alloc (.cells #[.int .i64 mo, .int .i64 mt, .int .i64 mp] 100)).heap[wr.heap.size]? = some (.cells #[.int .i64 mo, .int .i64 mt, .int .i64 mp] 100 (0, 0)) := heap_alloc_new _ _
      have HY6 := hide (HY.out.below hb6)
      clear HY hb6 m1 m2 m3
      generalize wr.alloc (.cells #[.int .i64 mo, .int .i64 mt, .int .i64 mp] 100) = w6 at *
      generalize wr.heap.size = g6 at *
      have n0 : w6.cell? ⟨g6, 0, none⟩ = some (.int .i64 mo) := box_cell b6 0
      obtain ⟨⟨q0, -, -⟩, -⟩ := HY6.out.cells
      have HB6 := hide b6
      clear b6
      go_wp2_with fail
      refine (put_nil du w6 hdu2).mono ?_
      rintro e w7 ⟨A7, c7, rfl, -, ha7, hb7⟩
      have b7 := (hb7.block g6 (Array.getElem?_eq_some_iff.1 HB6.out).1).trans HB6.out
      have HY7 := hide (HY6.out.below hb7)
      have HA7 := hide ha7.reads
      have hz7 := HY7.out.bel.size
      clear hb7 ha7 HY6 n0 q0 HB6
      generalize Vi.put du = pu at *
      generalize Vi.size du = su at *
      go_upto_region 8 with (first
        | (at_builtin; refine wpList_app (w := w7) rfl (.tmp 31) (.tmp 38) rfl w.heap.size _ l pu rfl HY7.out.own A7 su c7 rfl y1 HA7.out (by omega) (by omega) ?_; intro v8 w8 hown8 hg8 hv8)
        | fail)
      have b8 := HY7.out.other b7 hg8
      have HY8 := hide (HY7.out.app hown8 hg8)
      have hl8 : (l ++ pu).length ≤ l.length + 10 := by rw [List.length_append]; omega
      have n1 : w8.cell? ⟨g6, 1, none⟩ = some (.int .i64 mt) := box_cell b8 1
      obtain ⟨⟨-, q1, -⟩, -⟩ := HY8.out.cells
      have HB8 := hide b8
      clear hown8 hg8 hv8 HY7 HA7 b7 b8
      go_wp2_with fail
      refine (putInt_nil dt w8 hdt1 hdt2).mono ?_
      rintro e w9 ⟨A9, c9, rfl, -, ha9, hb9⟩
      have b9 := (hb9.block g6 (Array.getElem?_eq_some_iff.1 HB8.out).1).trans HB8.out
      have HY9 := hide (HY8.out.below hb9)
      have HA9 := hide ha9.reads
      have hz9 := HY9.out.bel.size
      clear hb9 ha9 HY8 n1 q1 HB8
      generalize Vi.put (Vi.zz dt) = pt at *
      generalize Vi.size (Vi.zz dt) = st at *
      go_upto_region 9 with (first
        | (at_builtin; refine wpList_app (w := w9) rfl (.tmp 40) (.tmp 46) rfl w.heap.size _ (l ++ pu) pt rfl HY9.out.own A9 st c9 rfl y2 HA9.out (by omega) (by omega) ?_; intro v10 w10 hown10 hg10 hv10)
        | fail)
      have b10 := HY9.out.other b9 hg10
      have HY10 := hide (HY9.out.app hown10 hg10)
      have hl10 : ((l ++ pu) ++ pt).length ≤ l.length + 20 := by rw [List.length_append]; omega
      have n2 : w10.cell? ⟨g6, 2, none⟩ = some (.int .i64 mp) := box_cell b10 2
      obtain ⟨⟨-, -, q2⟩, -⟩ := HY10.out.cells
      have HB10 := hide b10
      clear hown10 hg10 hv10 HY9 HA9 b9 b10
      go_wp2_with fail
      refine (put_nil dp w10 hdp2).mono ?_
      rintro e w11 ⟨A11, c11, rfl, -, ha11, hb11⟩
      have b11 := (hb11.block g6 (Array.getElem?_eq_some_iff.1 HB10.out).1).trans HB10.out
      have HY11 := hide (HY10.out.below hb11)
      have HA11 := hide ha11.reads
      have hz11 := HY11.out.bel.size
      clear hb11 ha11 HY10 n2 q2 HB10
      generalize Vi.put dp = pp at *
      generalize Vi.size dp = sp at *
      go_upto_region 10 with (first
        | (at_builtin; refine wpList_app (w := w11) rfl (.tmp 48) (.tmp 55) rfl w.heap.size _ ((l ++ pu) ++ pt) pp rfl HY11.out.own A11 sp c11 rfl y3 HA11.out (by omega) (by omega) ?_; intro v12 w12 hown12 hg12 hv12)
        | fail)
      have b12 := HY11.out.other b11 hg12
      have HY12 := hide (HY11.out.app hown12 hg12)
      have r0 : w12.cell? ⟨g6, 0, none⟩ = some (.int .i64 mo) := box_cell b12 0
      have r1 : w12.cell? ⟨g6, 1, none⟩ = some (.int .i64 mt) := box_cell b12 1
      have r2 : w12.cell? ⟨g6, 2, none⟩ = some (.int .i64 mp) := box_cell b12 2
      obtain ⟨⟨q0, q1, q2⟩, f0, f1, f2⟩ := HY12.out.cells
      have HYF := hide (HY12.out.set ⟨mo, mt, mp⟩)
      clear hown12 hg12 hv12 HY11 HA11 b11 b12
      go_wp2_with fail
      go_roundw
      case rel =>
        refine ⟨k + 1, by omega, by go_num, ?_, ?_⟩
        · rw [HNX.out, HLS.out, HSB.out, ← List.append_assoc, ← List.append_assoc]
          exact HYF.out
        · rw [HNX.out, List.length_append]
          have := HLN.out
          omega
      case measure => simp [intOf]; omega
    · obtain rfl : k = n := by omega
      have htk : ms.take k = ms := List.take_of_length_le (by have := HL.out; omega)
      rw [htk, ← HBODY.out] at hy hlen
      obtain ⟨A9, c9, rfl, ha9⟩ := hy.own.arg
      have HSL := hide (seal_any A9 c9 _ _ wr rfl (by omega) ha9.reads (HT.out.below hy.bel (Nat.le_refl _)) (by have := hy.bel.size; omega))
      have HB9 := hide hy.bel
      clear hy ha9 htk hlen
      go_wp2_with (first
        | (go_at_call 62; refine HSL.out.mono ?_; rintro e w10 ⟨v10, rfl, ho10, hb10⟩; have HO10 := hide ho10; have HB10 := hide hb10; clear ho10 hb10)
        | fail)
      go_ret
      exact ⟨_, rfl, by rw [HSEAL.out]; exact HO10.out.mono HB9.out.size, HB9.out.trans (HB10.out.mono HB9.out.size)⟩
end Go.Proofs.YtfdppggdgdnnaaaGreatDoor
