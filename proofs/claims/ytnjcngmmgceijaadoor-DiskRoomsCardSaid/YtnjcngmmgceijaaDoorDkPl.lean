/-
  What a crash leaves, plainly: which files have a name, what of each is kept.
-/
import Derived.Test.YtnjcngmmgceijaaDoorDkSe
namespace Go.Proofs.YtnjcngmmgceijaaDoor.Dk

theorem keep_keep (f : File) (k : Nat) (m : Nat) (h1 : k ≤ m) (h2 : m ≤ k) : (f.keep k).keep m = f.keep k := by
  obtain rfl : k = m := by omega
  simp [File.keep, List.take_take]
/-- What is kept of each file. -/
theorem keepAll_file (picks : List Int) (x : Nat) : ∀ (l : List Nat) (i : Nat) (s : St), (∀ k ∈ l, (s.files k).synced ≤ (s.files k).bytes.length) →
    (x ∉ l → (St.keepAll picks i l s).files x = s.files x) ∧ (x ∈ l → ∃ j, i ≤ j ∧ j < i + l.length ∧ (St.keepAll picks i l s).files x = (s.files x).keep ((s.files x).synced + pick picks j ((s.files x).bytes.length - (s.files x).synced)))
  | [], _, s, _ => ⟨fun _ => rfl, fun h => absurd h List.not_mem_nil⟩
  | f :: fs, i, s, hs => by
    have hp := pick_le picks i ((s.files f).bytes.length - (s.files f).synced)
    have hsy := hs f (List.mem_cons_self ..)
    obtain ⟨m, hm⟩ : ∃ m, m = (s.files f).synced + pick picks i ((s.files f).bytes.length - (s.files f).synced) := ⟨_, rfl⟩
    have hms : ∀ k ∈ fs, ((s.setFile f ((s.files f).keep m)).files k).synced ≤ ((s.setFile f ((s.files f).keep m)).files k).bytes.length := fun k hk => by
      by_cases e : k = f
      · subst e; rw [setFile_same]; simp only [File.keep, List.length_take]; omega
      · rw [setFile_other _ _ _ _ e]; exact hs k (List.mem_cons_of_mem _ hk)
    obtain ⟨h1, h2⟩ := keepAll_file picks x fs (i + 1) { s.setFile f ((s.files f).keep m) with used := s.used + (m : Int) } hms
    have e : St.keepAll picks i (f :: fs) s = St.keepAll picks (i + 1) fs { s.setFile f ((s.files f).keep m) with used := s.used + (m : Int) } := by rw [hm]; rfl
    rw [e]
    refine ⟨fun hx => ?_, fun hx => ?_⟩
    · have hn : x ≠ f := fun e => hx (e ▸ List.mem_cons_self ..)
      rw [h1 fun h => hx (List.mem_cons_of_mem _ h)]
      exact setFile_other _ _ _ _ hn
    · by_cases ex : x = f
      · subst ex
        refine ⟨i, Nat.le_refl _, by simp, ?_⟩
        rw [← hm]
        by_cases hin : x ∈ fs
        · obtain ⟨j, -, -, k3⟩ := h2 hin
          have hp2 := pick_le picks j (((s.setFile x ((s.files x).keep m)).files x).bytes.length - ((s.setFile x ((s.files x).keep m)).files x).synced)
          rw [k3]
          show ((s.setFile x ((s.files x).keep m)).files x).keep (((s.setFile x ((s.files x).keep m)).files x).synced + pick picks j (((s.setFile x ((s.files x).keep m)).files x).bytes.length - ((s.setFile x ((s.files x).keep m)).files x).synced)) = _
          rw [setFile_same] at hp2 ⊢
          have e1 : ((s.files x).keep m).synced = m := rfl
          have e2 : ((s.files x).keep m).bytes.length = m := by simp only [File.keep, List.length_take]; omega
          rw [e1, e2] at hp2 ⊢
          exact keep_keep _ _ _ (by omega) (by omega)
        · rw [h1 hin]
          exact setFile_same _ _ _
      · have hin : x ∈ fs := by rcases List.mem_cons.1 hx with e | e; exact absurd e ex; exact e
        obtain ⟨j, k1, k2, k3⟩ := h2 hin
        have ef : (s.setFile f ((s.files f).keep m)).files x = s.files x := setFile_other _ _ _ _ ex
        refine ⟨j, by omega, by rw [List.length_cons]; omega, ?_⟩
        rw [k3]
        show ((s.setFile f ((s.files f).keep m)).files x).keep (((s.setFile f ((s.files f).keep m)).files x).synced + pick picks j (((s.setFile f ((s.files f).keep m)).files x).bytes.length - ((s.setFile f ((s.files f).keep m)).files x).synced)) = _
        rw [ef]
/-- The names behind a crash. -/
theorem crash_names (s : St) (picks : List Int) (ys : List Nat) : (s.crash picks ys).names = ons (s.since.take (pick picks 0 s.since.length)) s.dur ∧ (s.crash picks ys).dur = ons (s.since.take (pick picks 0 s.since.length)) s.dur ∧ (s.crash picks ys).since = [] ∧ (s.crash picks ys).down = false ∧ (s.crash picks ys).armed = 0 ∧ (s.crash picks ys).calls = s.calls ∧ (s.crash picks ys).room = s.room := by
  obtain ⟨a, b, c, d, e, g, h⟩ := keepAll_fix picks ys 1 { (s.settle (pick picks 0 s.since.length)) with names := (s.settle (pick picks 0 s.since.length)).dur, used := 0 }
  exact ⟨d, e, g, rfl, rfl, b, c⟩
/-- A file that has a name behind a crash. -/
theorem crash_file (s : St) (picks : List Int) (ys : List Nat) (hy : Order (s.settle (pick picks 0 s.since.length)) (s.settle (pick picks 0 s.since.length)).dur ys) (hs : ∀ k ∈ ys, (s.files k).synced ≤ (s.files k).bytes.length) (n : Nm) (x : Nat) (hn : (s.crash picks ys).names n = some x) :
    ∃ j, 1 ≤ j ∧ j < 1 + ys.length ∧ (s.crash picks ys).files x = (s.files x).keep ((s.files x).synced + pick picks j ((s.files x).bytes.length - (s.files x).synced)) := by
  obtain ⟨xs, ⟨ks, -, hk, hm⟩, hp, -⟩ := hy
  rw [(crash_names s picks ys).1] at hn
  have hd : (s.settle (pick picks 0 s.since.length)).dur n = some x := hn
  have hx : x ∈ ys := hp.mem_iff.2 <| by
    have h1 : n ∈ ks := (hk n).2 (by rw [hd]; intro e; cases e)
    have h2 : some x ∈ xs.map some := by rw [hm, ← hd]; exact List.mem_map_of_mem h1
    simpa using h2
  exact (keepAll_file picks x ys 1 { (s.settle (pick picks 0 s.since.length)) with names := (s.settle (pick picks 0 s.since.length)).dur, used := 0 } hs).2 hx
end Go.Proofs.YtnjcngmmgceijaaDoor.Dk
