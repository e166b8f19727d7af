/-
  What IndexBack's index is, plainly: cut behind its last mark it goes on as the one that is read of its bytes.
-/
import Derived.Test.YteeadlefbehhfaaDoorIxIv
import Derived.Test.YteeadlefbehhfaaDoorIxCp
namespace Go.Proofs.YteeadlefbehhfaaDoor.Ix

structure InvB (s : St) : Prop extends Inv0 s where
  arise : s.adds.Pairwise fun a b => a.off < b.off ∧ a.pos < b.pos
  sub : ∀ m ∈ s.marks, (⟨m.off, m.pos⟩ : Ad) ∈ s.adds
  tms : s.marks.Pairwise fun a b => a.time ≤ b.time
  tle : ∀ m ∈ s.marks, m.time ≤ s.time
  nil : s.marks = [] → s.adds = []
theorem InvB.new (e : Int) (h : 1 ≤ e ∧ e ≤ 1048576) : InvB (new e) :=
  ⟨Inv0.new e h, List.Pairwise.nil, fun m hm => (by cases hm), List.Pairwise.nil, fun m hm => (by cases hm), fun _ => rfl⟩
theorem pair_last {l : List Ad} (h : l.Pairwise fun a b => a.off < b.off ∧ a.pos < b.pos) {a : Ad} (ha : a ∈ l) : ∃ b, l.getLast? = some b ∧ a.off ≤ b.off ∧ a.pos ≤ b.pos := by
  rcases List.eq_nil_or_concat l with e | ⟨l1, b, e⟩
  · subst e; cases ha
  · rw [List.concat_eq_append] at e
    subst e
    refine ⟨b, by simp, ?_⟩
    rcases List.mem_append.1 ha with h1 | h1
    · have := (List.pairwise_append.1 h).2.2 a h1 b (by simp)
      omega
    · rw [List.mem_singleton] at h1; subst h1; omega
theorem InvB.put {s : St} (h : InvB s) {o t p z : Int} (hg : good s o t p z) : InvB (put s o t p) := by
  have hb := hg.2.2.2.2
  have h0 := h.toInv0.put hg
  have hmax : ∀ m ∈ s.marks, m.time ≤ max s.time t := fun m hm => by have := h.tle m hm; omega
  refine ⟨h0, ?_, fun m hm => ?_, ?_, fun m hm => ?_, fun e => ?_⟩
  · show List.Pairwise (fun a b : Ad => a.off < b.off ∧ a.pos < b.pos) (s.adds ++ [⟨o, p⟩])
    rw [List.pairwise_append]
    refine ⟨h.arise, List.pairwise_singleton _ _, fun a ha b hb' => ?_⟩
    rw [List.mem_singleton] at hb'
    subst hb'
    obtain ⟨c, hc, h1, h2⟩ := pair_last h.arise ha
    have := hb c hc
    simp only; omega
  · show _ ∈ s.adds ++ [⟨o, p⟩]
    unfold Ix.put at hm
    simp only at hm
    split at hm
    · rcases List.mem_append.1 hm with hm | hm
      · exact List.mem_append_left _ (h.sub m hm)
      · rw [List.mem_singleton] at hm; subst hm; simp
    · exact List.mem_append_left _ (h.sub m hm)
  · unfold Ix.put
    simp only
    split
    · rw [List.pairwise_append]
      refine ⟨h.tms, List.pairwise_singleton _ _, fun a ha b hb' => ?_⟩
      rw [List.mem_singleton] at hb'
      subst hb'
      exact hmax a ha
    · exact h.tms
  · show m.time ≤ max s.time t
    unfold Ix.put at hm
    simp only at hm
    split at hm
    · rcases List.mem_append.1 hm with hm | hm
      · exact hmax m hm
      · rw [List.mem_singleton] at hm; subst hm; exact Int.le_refl _
    · exact hmax m hm
  · exfalso
    unfold Ix.put at e
    simp only at e
    split at e
    · simp at e
    · rename_i hd
      have hd' : ¬ due s p := hd
      apply hd'
      intro m hm
      rw [e] at hm; cases hm
theorem InvB.add {s : St} (h : InvB s) (o t p z : Int) : InvB (add s o t p z).2 := by
  unfold Ix.add
  split
  · rename_i hg; exact h.put hg
  · exact h

/-- As far as what comes behind tells. -/
structure Sim (a b : St) : Prop where
  every : a.every = b.every
  marks : a.marks = b.marks
  time : a.time = b.time
  last : a.adds.getLast? = b.adds.getLast?
theorem Sim.good {a b : St} (h : Sim a b) (o t p z : Int) : Ix.good a o t p z ↔ Ix.good b o t p z := by
  unfold Ix.good behind
  rw [h.last]
theorem Sim.add {a b : St} (h : Sim a b) (o t p z : Int) : (Ix.add a o t p z).1 = (Ix.add b o t p z).1 ∧ Sim (Ix.add a o t p z).2 (Ix.add b o t p z).2 := by
  unfold Ix.add
  by_cases hg : Ix.good a o t p z
  · rw [if_pos hg, if_pos ((h.good o t p z).1 hg)]
    have hd : due a p ↔ due b p := by unfold due; rw [h.marks, h.every]
    refine ⟨rfl, h.every, ?_, by show max a.time t = max b.time t; rw [h.time], by simp [Ix.put]⟩
    show (if due a p then _ else _) = (if due b p then _ else _)
    by_cases hx : due a p
    · rw [if_pos hx, if_pos (hd.1 hx), h.marks, h.time]
    · rw [if_neg hx, if_neg (fun k => hx (hd.2 k)), h.marks]
  · rw [if_neg hg, if_neg (fun k => hg ((h.good o t p z).2 k))]
    exact ⟨rfl, h⟩

theorem foldl_last : ∀ (l : List Mark) (t0 : Int), (∀ m ∈ l, t0 ≤ m.time) → l.Pairwise (fun a b => a.time ≤ b.time) → l.foldl (fun t m => max t m.time) t0 = match l.getLast? with | some m => m.time | none => t0
  | [], t0, _, _ => rfl
  | m :: l, t0, h, hp => by
    have h1 := h m List.mem_cons_self
    rw [List.foldl_cons, show max t0 m.time = m.time from Int.max_eq_right h1]
    rw [foldl_last l m.time (fun x hx => (List.pairwise_cons.1 hp).1 x hx) (List.pairwise_cons.1 hp).2]
    cases l with
    | nil => rfl
    | cons x l =>
      rw [List.getLast?_cons_cons]
      cases hx : (x :: l).getLast? with
      | none => simp at hx
      | some y => rfl
/-- Where IndexBack cuts. -/
def backAt (s : St) : Int := match s.marks.getLast? with | some m => m.pos + 1 | none => 0
theorem rise_le {l : List Mark} (h : rise l) : ∀ (a b : Nat), a ≤ b → b < l.length → (l.getD a z0).pos ≤ (l.getD b z0).pos
  | a, 0, hab, _ => by
    obtain rfl : a = 0 := by omega
    exact Int.le_refl _
  | a, b + 1, hab, hb => by
    by_cases e : a = b + 1
    · subst e; exact Int.le_refl _
    · have h1 := rise_le h a b (by omega) (by omega)
      have h2 := (h b hb).2
      omega
theorem cut_back {s : St} (h : InvB s) : (s.cut (backAt s)).marks = s.marks ∧ Sim (s.cut (backAt s)) (ofMarks s.every s.marks) ∧ Inv0 (s.cut (backAt s)) := by
  rcases List.eq_nil_or_concat s.marks with e | ⟨l1, m, e⟩
  · have ha := h.nil e
    have e1 : s.cut (backAt s) = ⟨s.every, [], [], -1099511627776⟩ := by
      unfold St.cut
      rw [e, ha]
      simp [lastTime]
    rw [e1, e]
    refine ⟨rfl, ⟨rfl, rfl, rfl, rfl⟩, ⟨?_, fun i hi => absurd hi (by show ¬ i + 1 < 0; omega), fun m hm => (by cases hm)⟩⟩
    have := h.ok.cut (backAt s)
    rw [e1] at this; exact this
  · rw [List.concat_eq_append] at e
    have hlast : s.marks.getLast? = some m := by rw [e]; simp
    have hq : backAt s = m.pos + 1 := by unfold backAt; rw [hlast]
    have hall : ∀ x ∈ s.marks, x.pos ≤ m.pos := fun x hx => by
      obtain ⟨i, hi, rfl⟩ := List.getElem_of_mem hx
      have h1 := rise_le h.rise i (s.marks.length - 1) (by omega) (by omega)
      rw [List.getLast?_eq_getElem?] at hlast
      have e2 : s.marks.getD (s.marks.length - 1) z0 = m := by simp [List.getD, hlast]
      have e3 : s.marks.getD i z0 = s.marks[i] := by simp [List.getD, hi]
      rw [e2, e3] at h1; exact h1
    have hcm : s.cntM (m.pos + 1) = s.marks.length := by
      rw [cntM_eq, List.countP_eq_length]
      intro x hx
      have := hall x hx
      rw [decide_eq_false (by omega)]; rfl
    have hmk : s.marks.take (s.cntM (m.pos + 1)) = s.marks := by rw [hcm]; exact List.take_of_length_le (Nat.le_refl _)
    obtain ⟨a1, a2, ea⟩ := List.append_of_mem (h.sub m (by rw [e]; simp))
    have har := h.arise
    rw [ea] at har
    obtain ⟨p1, p2, p3⟩ := List.pairwise_append.1 har
    have hca : s.cntA (m.pos + 1) = a1.length + 1 := by
      rw [cntA_eq, ea, List.countP_append, List.countP_cons]
      have c1 : a1.countP (fun x => !decide (m.pos + 1 ≤ x.pos)) = a1.length := by
        rw [List.countP_eq_length]
        intro x hx
        have := (p3 x hx ⟨m.off, m.pos⟩ (by simp)).2
        simp only at this
        rw [decide_eq_false (by omega)]; rfl
      have c2 : a2.countP (fun x => !decide (m.pos + 1 ≤ x.pos)) = 0 := by
        rw [List.countP_eq_zero]
        intro x hx
        have := ((List.pairwise_cons.1 p2).1 x hx).2
        simp only at this
        rw [decide_eq_true (by omega)]; decide
      rw [c1, c2, decide_eq_false (show ¬ m.pos + 1 ≤ m.pos by omega)]
      rfl
    have had : s.adds.take (s.cntA (m.pos + 1)) = a1 ++ [⟨m.off, m.pos⟩] := by
      rw [hca, ea, show a1 ++ (⟨m.off, m.pos⟩ : Ad) :: a2 = (a1 ++ [⟨m.off, m.pos⟩]) ++ a2 by simp, List.take_append_of_le_length (by simp), List.take_of_length_le (by simp)]
    have e1 : s.cut (backAt s) = ⟨s.every, s.marks, a1 ++ [⟨m.off, m.pos⟩], m.time⟩ := by
      rw [hq]
      unfold St.cut
      rw [hmk, had]
      unfold lastTime
      rw [hlast]
    have hok := h.ok.cut (backAt s)
    rw [e1] at hok ⊢
    refine ⟨rfl, ⟨rfl, rfl, ?_, ?_⟩, ⟨hok, h.rise, fun x hx => ⟨⟨m.off, m.pos⟩, by simp, ?_⟩⟩⟩
    · show m.time = s.marks.foldl _ _
      rw [foldl_last s.marks _ (fun x hx => (h.ok.marks x hx).2.1.1) h.tms, hlast]
    · show (a1 ++ [(⟨m.off, m.pos⟩ : Ad)]).getLast? = (s.marks.map fun m => (⟨m.off, m.pos⟩ : Ad)).getLast?
      rw [List.getLast?_map, hlast]; simp
    · have : x = m := by
        have h1 : s.marks.getLast? = some x := hx
        rw [hlast] at h1; injection h1 with h1; exact h1.symm
      subst this
      exact ⟨Int.le_refl _, Int.le_refl _⟩
theorem ok_ofMarks {s : St} (h : Ok s) (ht : ∀ m ∈ s.marks, True) : Ok (ofMarks s.every s.marks) := by
  refine ⟨h.every, ?_, h.marks, fun a ha => ?_⟩
  · show okT (s.marks.foldl _ _)
    have : ∀ (l : List Mark) (t0 : Int), okT t0 → (∀ m ∈ l, okT m.time) → okT (l.foldl (fun t m => max t m.time) t0) := by
      intro l
      induction l with
      | nil => intro t0 h0 _; exact h0
      | cons m l ih => intro t0 h0 hl; exact ih _ (okT_max h0 (hl m List.mem_cons_self)) (fun x hx => hl x (List.mem_cons_of_mem _ hx))
    exact this _ _ ⟨by omega, by omega⟩ (fun m hm => (h.marks m hm).2.1)
  · obtain ⟨m, hm, rfl⟩ := List.mem_map.1 ha
    exact ⟨(h.marks m hm).1, (h.marks m hm).2.2⟩
theorem cut_mono {s : St} (h : InvB s) (p : Int) : (∀ a b, a ≤ b → b < s.marks.length → p ≤ (s.marks.getD a ⟨0, 0, 0⟩).pos → p ≤ (s.marks.getD b ⟨0, 0, 0⟩).pos) ∧ (∀ a b, a ≤ b → b < s.adds.length → p ≤ (s.adds.getD a ⟨0, 0⟩).pos → p ≤ (s.adds.getD b ⟨0, 0⟩).pos) := by
  refine ⟨fun a b hab hb hp => ?_, fun a b hab hb hp => ?_⟩
  · have := rise_le h.rise a b hab hb
    have e : (⟨0, 0, 0⟩ : Mark) = z0 := rfl
    rw [e] at hp ⊢
    omega
  · by_cases e : a = b
    · subst e; exact hp
    · have := (List.pairwise_iff_getElem.1 h.arise a b (by omega) hb (by omega)).2
      have e1 : s.adds.getD a ⟨0, 0⟩ = s.adds[a]'(by omega) := by simp [List.getD, show a < s.adds.length by omega]
      have e2 : s.adds.getD b ⟨0, 0⟩ = s.adds[b] := by simp [List.getD, hb]
      rw [e1] at hp
      rw [e2]
      omega
end Go.Proofs.YteeadlefbehhfaaDoor.Ix
