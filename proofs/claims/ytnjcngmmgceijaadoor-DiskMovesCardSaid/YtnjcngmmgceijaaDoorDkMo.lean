/-
  DiskMoves: the states, plainly.
-/
import Derived.Test.YtnjcngmmgceijaaDoorDkLi
namespace Go.Proofs.YtnjcngmmgceijaaDoor.Dk

abbrev oldN : Nm := [111, 108, 100]
abbrev newN : Nm := [110, 101, 119]
def only (i : Nat) : Dir := upd (fun _ => none) oldN (some i)
def both (i j : Nat) : Dir := upd (upd (fun _ => none) oldN (some i)) newN (some j)
theorem only_lists (i : Nat) : Lists (only i) [oldN] := by
  refine ⟨List.pairwise_singleton _ _, fun x => ?_⟩
  unfold only upd
  by_cases h : x = oldN <;> simp [h]
theorem both_lists (i j : Nat) : Lists (both i j) [newN, oldN] := by
  refine ⟨by simp only [List.pairwise_cons, List.mem_singleton, List.not_mem_nil, false_implies, implies_true, List.Pairwise.nil, and_true, forall_eq]; decide, fun x => ?_⟩
  unfold both upd
  by_cases h : x = newN
  · subst h; simp
  · by_cases h2 : x = oldN
    · subst h2; simp
    · simp [h, h2]

/-- What is told behind the move, and behind a crash. -/
structure Told (t : St) (i1 i2 : Nat) (a b : Nm) (dir : Bool) : Prop where
  read : t.readOf oldN 0 (b.length : Int) = (none, b)
  used : t.used = (b.length : Int)
  names : t.names = only i2
  crash : ∀ z ys, Order (t.settle (pick [z] 0 t.since.length)) (t.settle (pick [z] 0 t.since.length)).dur ys → (∀ x ∈ ys, (t.files x).synced ≤ (t.files x).bytes.length) →
    ((t.crash [z] ys).find oldN).1 = none ∧ (((t.crash [z] ys).names = only i2 ∧ (t.crash [z] ys).lenOf oldN = (b.length : Int) ∧ (t.crash [z] ys).readOf oldN 0 (b.length : Int) = (none, b)) ∨
      (dir = false ∧ (t.crash [z] ys).names = both i1 i2 ∧ (t.crash [z] ys).lenOf oldN = (a.length : Int) ∧ (t.crash [z] ys).readOf oldN 0 (a.length : Int) = (none, a)))

theorem keep_all (f : File) (j : Nat) (p : List Int) (h : f.synced = f.bytes.length) : (f.keep (f.synced + pick p j (f.bytes.length - f.synced))).bytes = f.bytes := by
  have hp := pick_le p j (f.bytes.length - f.synced)
  rw [h] at hp ⊢
  simp only [Nat.sub_self] at hp ⊢
  rw [show pick p j 0 = 0 by omega]
  simp [File.keep]

theorem told_of {t : St} {calls : Int} {dur : Dir} {since : List Mv} {i1 i2 : Nat} {a b : Nm} (v : V t 1000 (b.length : Int) calls (only i2) dur since) (h1 : t.files i1 = ⟨0, a, a.length⟩) (h2b : (t.files i2).bytes = b) (h2s : (t.files i2).synced = b.length) (dir : Bool)
    (hd : ∀ m, m ≤ since.length → ons (since.take m) dur = only i2 ∨ (dir = false ∧ ons (since.take m) dur = both i1 i2)) : Told t i1 i2 a b dir := by
  have ho : only i2 oldN = some i2 := by simp [only, upd]
  refine ⟨?_, v.used, v.names, fun z ys hy hs => ?_⟩
  · rw [v.read oldN i2 b.length ho (by rw [h2b]; exact Nat.le_refl _), h2b, List.take_length]
  · obtain ⟨m, hm, -, vt, ft⟩ := v.crash [z] ys hy hs
    rcases hd m hm with e | ⟨hdir, e⟩
    · rw [e] at vt ft
      obtain ⟨j, -, -, hj⟩ := ft oldN i2 ho
      have hb : ((t.crash [z] ys).files i2).bytes = b := by rw [hj, keep_all _ _ _ (by rw [h2b, h2s]), h2b]
      refine ⟨by rw [vt.find _ _ ho], .inl ⟨vt.names, by rw [(vt.len _ _ ho).1, hb], ?_⟩⟩
      rw [vt.read oldN i2 b.length ho (by rw [hb]; exact Nat.le_refl _), hb, List.take_length]
    · rw [e] at vt ft
      have ho1 : both i1 i2 oldN = some i1 := by simp [both, upd]
      obtain ⟨j, -, -, hj⟩ := ft oldN i1 ho1
      have hb : ((t.crash [z] ys).files i1).bytes = a := by rw [hj, keep_all _ _ _ (by rw [h1]), h1]
      refine ⟨by rw [vt.find _ _ ho1], .inr ⟨hdir, vt.names, by rw [(vt.len _ _ ho1).1, hb], ?_⟩⟩
      rw [vt.read oldN i1 a.length ho1 (by rw [hb]; exact Nat.le_refl _), hb, List.take_length]

theorem moves_states (i1 : Nat) (a b : Nm) (ha : a.length ≤ 200) (hb : b.length ≤ 200) :
    ∃ s3 s4 s5, (St.new 1000).create oldN i1 = (none, s3) ∧ s3.append oldN a = (none, s4) ∧ s4.sync oldN = (none, s5) ∧ s5.names oldN = some i1 ∧ ∀ i2, i1 ≠ i2 →
    ∃ s6 s7 s8 s9 s10 s11, s5.create newN i2 = (none, s6) ∧ s6.append newN b = (none, s7) ∧ s7.sync newN = (none, s8) ∧ s8.syncDir = (none, s9) ∧
      s9.rename newN oldN = (none, s10) ∧ Told s10 i1 i2 a b false ∧ s10.syncDir = (none, s11) ∧ Told s11 i1 i2 a b true := by
  obtain ⟨s3, e3, v3, f3, -⟩ := (V.new 1000).create oldN i1 (by decide) rfl
  obtain ⟨s4, e4, v4, f4, -⟩ := v3.append oldN i1 a (by simp [upd]) (by omega)
  obtain ⟨s5, e5, v5, f5, -⟩ := v4.sync oldN i1 (by simp [upd])
  refine ⟨s3, s4, s5, e3, e4, e5, by rw [v5.names]; simp [upd], fun i2 hne => ?_⟩
  obtain ⟨s6, e6, v6, f6, g6⟩ := v5.create newN i2 (by decide) (by simp [upd])
  obtain ⟨s7, e7, v7, f7, g7⟩ := v6.append newN i2 b (by simp [upd]) (by omega)
  obtain ⟨s8, e8, v8, f8, g8⟩ := v7.sync newN i2 (by simp [upd])
  obtain ⟨s9, e9, v9, f9⟩ := v8.syncDir
  have hA : s9.files i1 = ⟨0, a, a.length⟩ := by rw [f9, g8 i1 hne, g7 i1 hne, g6 i1 hne, f5, f4, f3]; simp
  have hB : (s9.files i2).bytes = b ∧ (s9.files i2).synced = b.length := by rw [f9, f8, f7, f6]; simp
  have hn9 : upd (upd (fun _ => none) oldN (some i1)) newN (some i2) = both i1 i2 := rfl
  rw [hn9] at v9
  have hd9 : ons ([] ++ [⟨[], oldN, some i1⟩] ++ [⟨[], newN, some i2⟩]) (fun _ => none) = both i1 i2 := by
    simp only [List.nil_append, List.cons_append, ons, List.foldl_cons, List.foldl_nil]
    rw [on_to _ _ _ (by decide), on_to _ _ _ (by decide)]
    rfl
  obtain ⟨s10, e10, v10, f10⟩ := v9.rename newN oldN i2 (by decide) (by decide) (by simp [both, upd])
  have hnm : upd (upd (both i1 i2) newN none) oldN (some i2) = only i2 := by
    funext x
    unfold only both upd
    by_cases h : x = oldN
    · simp [h]
    · by_cases h2 : x = newN <;> simp [h, h2]
  have hou : both i1 i2 oldN = some i1 := by simp [both, upd]
  rw [hnm, hou] at v10
  simp only [if_neg hne, hA] at v10
  have hu : (0 : Int) + (a.length : Int) + (b.length : Int) - (a.length : Int) = b.length := by omega
  rw [hu] at v10
  obtain ⟨s11, e11, v11, f11⟩ := v10.syncDir
  have hon : (⟨newN, oldN, some i2⟩ : Mv).on (both i1 i2) = only i2 := by
    rw [on_both _ _ _ _ (by decide) (by decide), hnm]
  refine ⟨s6, s7, s8, s9, s10, s11, e6, e7, e8, e9, e10, told_of v10 (by rw [f10, hA]) (by rw [f10, hB.1]) (by rw [f10, hB.2]) false ?_, e11, told_of v11 (by rw [f11, f10, hA]) (by rw [f11, f10, hB.1]) (by rw [f11, f10, hB.2]) true ?_⟩
  · intro m hm
    rw [hd9]
    match m, hm with
    | 0, _ => exact .inr ⟨rfl, rfl⟩
    | 1, _ => exact .inl hon
  · intro m hm
    rw [hd9]
    left
    simp only [List.take_nil, ons, List.foldl_nil]
    exact hon
end Go.Proofs.YtnjcngmmgceijaaDoor.Dk
