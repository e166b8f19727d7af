/-
  An index as bytes, plainly: laid, and read back.
  An index's bytes are read as it, and what is read is of just those bytes: plainly.
-/
import Derived.Test.YtoaioijgmbhhnaaDoorIxP
import Derived.Test.YtoaioijgmbhhnaaDoorVRdr
import Derived.Test.YtoaioijgmbhhnaaDoorDetect
namespace Go.Proofs.YtoaioijgmbhhnaaDoor.Ix
open Go.RowKit Vi

def z0 : Mark := ⟨0, 0, 0⟩
def lastFrom : Mark → List Mark → Mark
  | a, [] => a
  | _, m :: l => lastFrom m l
def stepB (a m : Mark) : List UInt8 := Vi.put (m.off - a.off).toNat ++ (Vi.put (Vi.zz (m.time - a.time)) ++ Vi.put (m.pos - a.pos).toNat)
def marksB : Mark → List Mark → List UInt8
  | _, [] => []
  | a, m :: l => stepB a m ++ marksB m l
theorem lastFrom_snoc (l : List Mark) : ∀ (a m : Mark), lastFrom a (l ++ [m]) = m := by
  induction l with
  | nil => intro a m; rfl
  | cons x l ih => intro a m; exact ih x m
theorem marksB_snoc (l : List Mark) : ∀ (a m : Mark), marksB a (l ++ [m]) = marksB a l ++ stepB (lastFrom a l) m := by
  induction l with
  | nil => intro a m; simp [marksB, lastFrom]
  | cons x l ih => intro a m; simp [marksB, lastFrom, ih]
def body (s : St) : List UInt8 := Vi.put s.every.toNat ++ (Vi.put s.marks.length ++ marksB z0 s.marks)
def bytes (s : St) : List UInt8 := body s ++ Crc.little (Crc.sum (body s))
theorem bytes_len (s : St) : (bytes s).length = (body s).length + 4 := by simp [bytes, Crc.little]

/-- Offsets and poses rise. -/
def rise (l : List Mark) : Prop := ∀ i, i + 1 < l.length → (l.getD i z0).off < (l.getD (i + 1) z0).off ∧ (l.getD i z0).pos < (l.getD (i + 1) z0).pos
def riseB (l : List Mark) : Bool := (List.range (l.length - 1)).all fun i => decide ((l.getD i z0).off < (l.getD (i + 1) z0).off) && decide ((l.getD i z0).pos < (l.getD (i + 1) z0).pos)
theorem riseB_iff (l : List Mark) : riseB l = true ↔ rise l := by
  unfold riseB rise
  rw [List.all_eq_true]
  constructor
  · intro h i hi
    have := h i (List.mem_range.2 (by omega))
    simpa using this
  · intro h i hi
    have := h i (by have := List.mem_range.1 hi; omega)
    simpa using this
def okM (m : Mark) : Prop := okO m.off ∧ okT m.time ∧ okP m.pos
instance (m : Mark) : Decidable (okM m) := inferInstanceAs (Decidable (_ ∧ _))
def rightB (l : List Mark) : Bool := l.all fun m => decide (okM m)
theorem rightB_iff (l : List Mark) : rightB l = true ↔ ∀ m ∈ l, okM m := by
  unfold rightB
  rw [List.all_eq_true]
  exact ⟨fun h m hm => of_decide_eq_true (h m hm), fun h m hm => decide_eq_true (h m hm)⟩
theorem rise_tail {m : Mark} {l : List Mark} (h : rise (m :: l)) : rise l := fun i hi => by
  have := h (i + 1) (by simp; omega)
  simpa using this
theorem rise_head {m x : Mark} {l : List Mark} (h : rise (m :: x :: l)) : m.off < x.off ∧ m.pos < x.pos := by
  have := h 0 (by simp)
  simpa using this
theorem rise_snoc {l : List Mark} {m : Mark} (h : rise l) (hm : ∀ a, l.getLast? = some a → a.off < m.off ∧ a.pos < m.pos) : rise (l ++ [m]) := by
  intro i hi
  rw [List.length_append, List.length_singleton] at hi
  by_cases e : i + 1 = l.length
  · have hl : l.getLast? = some (l.getD i z0) := by
      rw [List.getLast?_eq_getElem?, show l.length - 1 = i by omega, List.getElem?_eq_getElem (by omega)]
      simp [List.getD, show i < l.length by omega]
    have := hm _ hl
    simp only [List.getD] at this ⊢
    rw [List.getElem?_append_left (by omega), List.getElem?_append_right (by omega), e, Nat.sub_self]
    simpa using this
  · have := h i (by omega)
    simp only [List.getD] at this ⊢
    rw [List.getElem?_append_left (by omega), List.getElem?_append_left (by omega)]
    exact this
theorem rise_take {l : List Mark} (h : rise l) (k : Nat) : rise (l.take k) := by
  intro i hi
  rw [List.length_take] at hi
  have := h i (by omega)
  simp only [List.getD] at this ⊢
  rw [List.getElem?_take_of_lt (by omega), List.getElem?_take_of_lt (by omega)]
  exact this

/-- One mark read behind another. -/
def rstep (l : List UInt8) (s : Vi.Rs) (m : Mark) : Mark × Vi.Rs :=
  let a := Vi.num l s 1099511627776
  let b := Vi.int l a.2 (-4398046511104) 4398046511104
  let c := Vi.num l b.2 1073741824
  (⟨m.off + a.1, m.time + b.1, m.pos + c.1⟩, c.2)
def rloop (l : List UInt8) (many : Nat) : Nat → Vi.Rs → List Mark → List Mark × Vi.Rs
  | 0, s, acc => (acc, s)
  | f + 1, s, acc => if acc.length < many ∧ s.code = 0 then rloop l many f (rstep l s (lastFrom z0 acc)).2 (acc ++ [(rstep l s (lastFrom z0 acc)).1]) else (acc, s)
theorem rloop_on (l : List UInt8) (many : Nat) (s : Vi.Rs) (acc : List Mark) (h : acc.length < many) (hc : s.code = 0) :
    rloop l many (many - acc.length) s acc = rloop l many (many - (acc ++ [(rstep l s (lastFrom z0 acc)).1]).length) (rstep l s (lastFrom z0 acc)).2 (acc ++ [(rstep l s (lastFrom z0 acc)).1]) := by
  obtain ⟨f, hf⟩ : ∃ f, many - acc.length = f + 1 := ⟨many - acc.length - 1, by omega⟩
  rw [hf]
  show (if _ then _ else _) = _
  rw [if_pos ⟨h, hc⟩]
  congr 1
  simp; omega
theorem rloop_end (l : List UInt8) (many : Nat) (s : Vi.Rs) (acc : List Mark) (h : ¬ (acc.length < many ∧ s.code = 0)) : rloop l many (many - acc.length) s acc = (acc, s) := by
  cases hf : many - acc.length with
  | zero => rfl
  | succ f => exact if_neg h
theorem rloop_len (l : List UInt8) (many : Nat) : ∀ (f : Nat) (s : Vi.Rs) (acc : List Mark), (rloop l many f s acc).1.length ≤ acc.length + f
  | 0, s, acc => Nat.le_refl _
  | f + 1, s, acc => by
    show (if _ then _ else _ : List Mark × Vi.Rs).1.length ≤ _
    split
    · have := rloop_len l many f (rstep l s (lastFrom z0 acc)).2 (acc ++ [(rstep l s (lastFrom z0 acc)).1])
      rw [List.length_append, List.length_singleton] at this
      omega
    · show acc.length ≤ _; omega
def head1 (l : List UInt8) : Nat × Vi.Rs := Vi.num l (fine 0) 1048576
def head2 (l : List UInt8) : Nat × Vi.Rs := Vi.num l (head1 l).2 4096
def tail (l : List UInt8) : List Mark × Vi.Rs := rloop l (head2 l).1 (head2 l).1 (head2 l).2 []
/-- What is amiss with these bytes: the error's number (0: none), and its place. -/
def fault (l : List UInt8) : Nat × Option Nat :=
  if (tail l).2.code ≠ 0 then ((tail l).2.code, (tail l).2.pos)
  else if (tail l).2.at_ < l.length then (103, some (tail l).2.at_)
  else if (riseB (tail l).1 && rightB (tail l).1) = false then (103, none)
  else if (head1 l).1 < 1 then (105, none)
  else (0, none)
def ofMarks (e : Int) (l : List Mark) : St := ⟨e, l, l.map (fun m => ⟨m.off, m.pos⟩), l.foldl (fun t m => max t m.time) (-1099511627776)⟩
def read (l : List UInt8) : St := ofMarks (head1 l).1 (tail l).1
end Go.Proofs.YtoaioijgmbhhnaaDoor.Ix

namespace Go.Proofs.YtoaioijgmbhhnaaDoor.Ix
open Go.RowKit Vi

/-- Such a mark may follow in the bytes. -/
def okStep (a m : Mark) : Prop := (0 ≤ m.off - a.off ∧ m.off - a.off ≤ 1099511627776) ∧ (-4398046511104 ≤ m.time - a.time ∧ m.time - a.time ≤ 4398046511104) ∧ (0 ≤ m.pos - a.pos ∧ m.pos - a.pos ≤ 1073741824)
def steps : Mark → List Mark → Prop
  | _, [] => True
  | a, m :: l => okStep a m ∧ steps m l
theorem steps_of : ∀ (l : List Mark) (a : Mark), okM a → (∀ m ∈ l, okM m) → (∀ m, l.head? = some m → a.off ≤ m.off ∧ a.pos ≤ m.pos) → rise l → steps a l
  | [], _, _, _, _, _ => trivial
  | m :: l, a, ha, hl, hh, hr => by
    have hm := hl m List.mem_cons_self
    have h1 := hh m rfl
    refine ⟨?_, steps_of l m hm (fun x hx => hl x (List.mem_cons_of_mem _ hx)) (fun x hx => ?_) (rise_tail hr)⟩
    · unfold okM okO okT okP at ha hm
      unfold okStep
      omega
    · cases l with
      | nil => cases hx
      | cons y l =>
        cases hx
        have := rise_head hr
        omega
theorem okM_z0 : okM z0 := ⟨⟨by show (0 : Int) ≤ 0; omega, by show (0 : Int) ≤ 1099511627776; omega⟩, ⟨by show (-1099511627776 : Int) ≤ 0; omega, by show (0 : Int) ≤ 1099511627776; omega⟩, ⟨by show (0 : Int) ≤ 0; omega, by show (0 : Int) ≤ 1073741824; omega⟩⟩
theorem steps_z0 {l : List Mark} (h : ∀ m ∈ l, okM m) (hr : rise l) : steps z0 l :=
  steps_of l z0 okM_z0 h (fun m hm => by
    have := h m (List.mem_of_mem_head? hm)
    exact ⟨this.1.1, this.2.2.1⟩) hr

theorem rstep_at (l tl : List UInt8) (k : Nat) (a m : Mark) (h : l.drop k = stepB a m ++ tl) (ho : okStep a m) : rstep l (fine k) a = (m, fine (k + (stepB a m).length)) := by
  obtain ⟨h1, h2, h3⟩ := ho
  have d1 : l.drop k = Vi.put (m.off - a.off).toNat ++ (Vi.put (Vi.zz (m.time - a.time)) ++ (Vi.put (m.pos - a.pos).toNat ++ tl)) := by
    rw [h]; unfold stepB; simp only [List.append_assoc]
  have e1 := num_at_lo l _ k (m.off - a.off).toNat 1099511627776 (by omega) d1 (by omega)
  have d2 : l.drop (k + Vi.size (m.off - a.off).toNat) = Vi.put (Vi.zz (m.time - a.time)) ++ (Vi.put (m.pos - a.pos).toNat ++ tl) := by
    rw [← List.drop_drop, d1]; exact drop_pad _ _ _ rfl
  have e2 : Vi.int l (fine (k + Vi.size (m.off - a.off).toNat)) (-4398046511104) 4398046511104 = (m.time - a.time, fine (k + Vi.size (m.off - a.off).toNat + Vi.size (Vi.zz (m.time - a.time)))) := by
    rw [int_at l _ _ (m.time - a.time) (-4398046511104) 4398046511104 (by omega) (by omega) d2, if_neg (by omega)]
  have d3 : l.drop (k + Vi.size (m.off - a.off).toNat + Vi.size (Vi.zz (m.time - a.time))) = Vi.put (m.pos - a.pos).toNat ++ tl := by
    rw [← List.drop_drop, d2]; exact drop_pad _ _ _ rfl
  have e3 := num_at_lo l _ _ (m.pos - a.pos).toNat 1073741824 (by omega) d3 (by omega)
  unfold rstep
  simp only [e1, e2, e3]
  refine Prod.ext ?_ ?_
  · cases m
    simp only [Mark.mk.injEq]
    refine ⟨?_, ?_, ?_⟩ <;> simp only at * <;> omega
  · show fine _ = fine _
    congr 1
    simp only [stepB, List.length_append, Vi.size]; omega
theorem rloop_at (l tl : List UInt8) (many : Nat) : ∀ (ms : List Mark) (k : Nat) (acc : List Mark), l.drop k = marksB (lastFrom z0 acc) ms ++ tl → many = acc.length + ms.length → steps (lastFrom z0 acc) ms →
    rloop l many (many - acc.length) (fine k) acc = (acc ++ ms, fine (k + (marksB (lastFrom z0 acc) ms).length)) := by
  intro ms
  induction ms with
  | nil =>
    intro k acc h hm hs
    rw [rloop_end l many (fine k) acc (by rw [hm]; simp)]
    simp [marksB]
  | cons m ms ih =>
    intro k acc h hm hs
    rw [List.length_cons] at hm
    have h1 := rstep_at l (marksB m ms ++ tl) k _ m (by rw [h]; simp only [marksB, List.append_assoc]) hs.1
    rw [rloop_on l many (fine k) acc (by omega) rfl, h1]
    simp only
    have hl : lastFrom z0 (acc ++ [m]) = m := lastFrom_snoc acc z0 m
    have h2 := ih (k + (stepB (lastFrom z0 acc) m).length) (acc ++ [m]) (by rw [hl, ← List.drop_drop, h]; simp only [marksB, List.append_assoc]; exact drop_pad _ _ _ rfl) (by simp; omega) (by rw [hl]; exact hs.2)
    rw [h2, hl]
    refine Prod.ext (by simp) ?_
    show fine _ = fine _
    congr 1
    simp only [marksB, List.length_append]; omega

theorem num_stays {l : List UInt8} {s : Rs} {most : Nat} (h : (Vi.num l s most).2.code = 0) : s.code = 0 := peek_stays h
theorem num_canon' {l : List UInt8} {k most : Nat} (h : (Vi.num l (fine k) most).2.code = 0) : ∃ u r, l.drop k = Vi.put u ++ r ∧ u ≤ most ∧ u < 18446744073709551616 ∧ Vi.num l (fine k) most = (u, fine (k + Vi.size u)) := by
  obtain ⟨u, r, h1, h2, h3, h4⟩ := num_canon (l := l) (k := k) (most := most) h
  exact ⟨u, r, h1, h2, h3, by unfold Vi.num; rw [h4]; rfl⟩
theorem rstep_code {l : List UInt8} {s : Rs} {a : Mark} (h : (rstep l s a).2.code = 0) : s.code = 0 := num_stays (int_stays (num_stays h))
theorem rstep_canon {l : List UInt8} {k : Nat} {a : Mark} (h : (rstep l (fine k) a).2.code = 0) : ∃ m tl, l.drop k = stepB a m ++ tl ∧ okStep a m ∧ rstep l (fine k) a = (m, fine (k + (stepB a m).length)) := by
  have hc : (Vi.num l (fine k) 1099511627776).2.code = 0 := int_stays (num_stays h)
  obtain ⟨u, r, d1, u1, u2, e1⟩ := num_canon' hc
  have hb : (Vi.int l (fine (k + Vi.size u)) (-4398046511104) 4398046511104).2.code = 0 := by
    have := num_stays h
    rw [e1] at this; exact this
  obtain ⟨n, r2, d2, n1, n2, e2⟩ := int_canon hb
  have hd : (Vi.num l (fine (k + Vi.size u + Vi.size (Vi.zz n))) 1073741824).2.code = 0 := by
    have := h
    unfold rstep at this
    simp only [e1, e2] at this; exact this
  obtain ⟨v, r3, d3, v1, v2, e3⟩ := num_canon' hd
  have hr2 : r = Vi.put (Vi.zz n) ++ r2 := by
    have := congrArg (List.drop (Vi.size u)) d1
    rw [List.drop_drop, d2] at this
    rw [this]; exact (drop_pad _ _ _ rfl).symm
  have hr3 : r2 = Vi.put v ++ r3 := by
    have := congrArg (List.drop (Vi.size (Vi.zz n))) d2
    rw [List.drop_drop, d3] at this
    rw [this]; exact (drop_pad _ _ _ rfl).symm
  refine ⟨⟨a.off + u, a.time + n, a.pos + v⟩, r3, ?_, ⟨⟨by simp only; omega, by simp only; omega⟩, ⟨by simp only; omega, by simp only; omega⟩, ⟨by simp only; omega, by simp only; omega⟩⟩, ?_⟩
  · unfold stepB
    simp only
    rw [show (a.off + (u : Int) - a.off).toNat = u by omega, show a.time + n - a.time = n by omega, show (a.pos + (v : Int) - a.pos).toNat = v by omega, d1, hr2, hr3]
    simp only [List.append_assoc]
  · unfold rstep
    simp only [e1, e2, e3]
    refine Prod.ext rfl ?_
    show fine _ = fine _
    congr 1
    unfold stepB
    simp only [List.length_append]
    rw [show (a.off + (u : Int) - a.off).toNat = u by omega, show a.time + n - a.time = n by omega, show (a.pos + (v : Int) - a.pos).toNat = v by omega]
    simp only [Vi.size]; omega
theorem rloop_code {l : List UInt8} {many : Nat} : ∀ (f : Nat) (s : Rs) (acc : List Mark), (rloop l many f s acc).2.code = 0 → s.code = 0
  | 0, s, acc, h => h
  | f + 1, s, acc, h => by
    unfold rloop at h
    split at h
    · rename_i hc; exact hc.2
    · exact h
theorem rloop_canon {l : List UInt8} {many : Nat} : ∀ (f : Nat) (k : Nat) (acc : List Mark), many = acc.length + f → (rloop l many f (fine k) acc).2.code = 0 →
    ∃ ms tl, l.drop k = marksB (lastFrom z0 acc) ms ++ tl ∧ steps (lastFrom z0 acc) ms ∧ ms.length = f ∧ rloop l many f (fine k) acc = (acc ++ ms, fine (k + (marksB (lastFrom z0 acc) ms).length))
  | 0, k, acc, hm, h => ⟨[], l.drop k, rfl, trivial, rfl, by simp [rloop, marksB]⟩
  | f + 1, k, acc, hm, h => by
    have e0 : rloop l many (f + 1) (fine k) acc = rloop l many f (rstep l (fine k) (lastFrom z0 acc)).2 (acc ++ [(rstep l (fine k) (lastFrom z0 acc)).1]) := by
      show (if _ then _ else _) = _
      rw [if_pos ⟨by omega, rfl⟩]
    rw [e0] at h ⊢
    obtain ⟨m, tl, d1, o1, e1⟩ := rstep_canon (rloop_code _ _ _ h)
    rw [e1] at h ⊢
    simp only at h ⊢
    have hl : lastFrom z0 (acc ++ [m]) = m := lastFrom_snoc acc z0 m
    obtain ⟨ms, tl2, d2, s2, n2, e2⟩ := rloop_canon f _ (acc ++ [m]) (by simp; omega) h
    rw [hl] at d2 s2 e2
    have ht : tl = marksB m ms ++ tl2 := by
      have := congrArg (List.drop (stepB (lastFrom z0 acc) m).length) d1
      rw [List.drop_drop, d2] at this
      rw [this]; exact (drop_pad _ _ _ rfl).symm
    refine ⟨m :: ms, tl2, by rw [d1, ht]; simp only [marksB, List.append_assoc], ⟨o1, s2⟩, by simp [n2], ?_⟩
    rw [e2]
    refine Prod.ext (by simp) ?_
    show fine _ = fine _
    congr 1
    simp only [marksB, List.length_append]; omega

theorem take_all {l : List UInt8} {k : Nat} (h : l.length ≤ k) : l.drop k = [] := List.drop_eq_nil_of_le h
/-- What is read is of just those bytes. -/
theorem read_canon {l : List UInt8} (h : fault l = (0, none)) : body (read l) = l ∧ rise (read l).marks ∧ (∀ m ∈ (read l).marks, okM m) ∧ 1 ≤ (read l).every ∧ (read l).every ≤ 1048576 ∧ (read l).marks.length ≤ 4096 := by
  unfold fault at h
  by_cases c1 : (tail l).2.code ≠ 0
  · rw [if_pos c1] at h
    exact absurd (congrArg Prod.fst h) c1
  rw [if_neg c1] at h
  by_cases c2 : (tail l).2.at_ < l.length
  · rw [if_pos c2] at h; simp at h
  rw [if_neg c2] at h
  by_cases c3 : (riseB (tail l).1 && rightB (tail l).1) = false
  · rw [if_pos c3] at h; simp at h
  rw [if_neg c3] at h
  by_cases c4 : (head1 l).1 < 1
  · rw [if_pos c4] at h; simp at h
  have hc : (tail l).2.code = 0 := by omega
  have k2 : (head2 l).2.code = 0 := rloop_code _ _ _ hc
  have k1 : (head1 l).2.code = 0 := num_stays k2
  obtain ⟨u, r, d1, u1, u2, e1⟩ := num_canon' k1
  have k2' : (Vi.num l (fine (0 + Vi.size u)) 4096).2.code = 0 := by
    have := k2
    unfold head2 head1 at this
    rw [e1] at this; exact this
  obtain ⟨v, r2, d2, v1, v2, e2⟩ := num_canon' k2'
  have eh1 : head1 l = (u, fine (0 + Vi.size u)) := e1
  have eh2 : head2 l = (v, fine (0 + Vi.size u + Vi.size v)) := by unfold head2; rw [eh1]; exact e2
  have et : tail l = rloop l v v (fine (0 + Vi.size u + Vi.size v)) [] := by unfold tail; rw [eh2]
  rw [et] at hc
  obtain ⟨ms, tl, d3, s3, n3, e3⟩ := rloop_canon v (0 + Vi.size u + Vi.size v) [] (by simp) hc
  rw [List.nil_append] at e3
  rw [show lastFrom z0 [] = z0 from rfl] at d3 s3 e3
  have hm : (read l).marks = ms := by
    show (tail l).1 = ms
    rw [et, e3]
  have he : (read l).every = (u : Int) := by
    show ((head1 l).1 : Int) = _
    rw [eh1]
  rw [et, e3] at c2 c3
  simp only [fine] at c2 c3
  rw [Bool.not_eq_false, Bool.and_eq_true, riseB_iff, rightB_iff] at c3
  rw [eh1] at c4
  simp only at c4
  refine ⟨?_, by rw [hm]; exact c3.1, by rw [hm]; exact c3.2, by rw [he]; omega, by rw [he]; omega, by rw [hm]; omega⟩
  have hr : r = Vi.put v ++ r2 := by
    have := congrArg (List.drop (Vi.size u)) d1
    rw [List.drop_drop, d2] at this
    rw [this]; exact (drop_pad _ _ _ rfl).symm
  have hr2 : r2 = marksB z0 ms ++ tl := by
    have := congrArg (List.drop (Vi.size v)) d2
    rw [List.drop_drop, d3] at this
    rw [this]; exact (drop_pad _ _ _ rfl).symm
  rw [List.drop_zero] at d1
  have htl : tl = [] := by
    have hlen := congrArg List.length d1
    rw [hr, hr2] at hlen
    simp only [List.length_append] at hlen
    have : tl.length = 0 := by simp only [Vi.size] at c2; omega
    exact List.eq_nil_of_length_eq_zero this
  unfold body
  rw [hm, he, n3, Int.toNat_natCast]
  conv => rhs; rw [d1, hr, hr2, htl, List.append_nil]
/-- An index's bytes are read as it. -/
theorem read_body {s : St} (h : Ok s) (hr : rise s.marks) (hn : s.marks.length ≤ 4096) : fault (body s) = (0, none) ∧ (read (body s)).every = s.every ∧ (read (body s)).marks = s.marks := by
  have he := h.every
  have d1 : (body s).drop 0 = Vi.put s.every.toNat ++ (Vi.put s.marks.length ++ marksB z0 s.marks) := rfl
  have e1 : head1 (body s) = (s.every.toNat, fine (0 + Vi.size s.every.toNat)) := num_at_lo _ _ 0 s.every.toNat 1048576 (by omega) d1 (by omega)
  have d2 : (body s).drop (0 + Vi.size s.every.toNat) = Vi.put s.marks.length ++ marksB z0 s.marks := by
    rw [← List.drop_drop, d1]; exact drop_pad _ _ _ rfl
  have e2 : head2 (body s) = (s.marks.length, fine (0 + Vi.size s.every.toNat + Vi.size s.marks.length)) := by
    unfold head2; rw [e1]
    exact num_at_lo _ _ _ s.marks.length 4096 (by omega) d2 hn
  have d3 : (body s).drop (0 + Vi.size s.every.toNat + Vi.size s.marks.length) = marksB (lastFrom z0 []) s.marks ++ [] := by
    rw [← List.drop_drop, d2, List.append_nil]; exact drop_pad _ _ _ rfl
  have e3 : tail (body s) = (s.marks, fine (0 + Vi.size s.every.toNat + Vi.size s.marks.length + (marksB z0 s.marks).length)) := by
    unfold tail; rw [e2]
    exact rloop_at (body s) [] s.marks.length s.marks _ [] d3 (by simp) (steps_z0 h.marks hr)
  refine ⟨?_, ?_, ?_⟩
  · unfold fault
    rw [e3, e1]
    simp only [fine]
    rw [if_neg (by simp), if_neg (by simp only [body, List.length_append, Vi.size]; omega), (riseB_iff _).2 hr, (rightB_iff _).2 h.marks, if_neg (by simp), if_neg (by omega)]
  · show ((head1 (body s)).1 : Int) = _
    rw [e1]; simp only; omega
  · show (tail (body s)).1 = _
    rw [e3]
end Go.Proofs.YtoaioijgmbhhnaaDoor.Ix
