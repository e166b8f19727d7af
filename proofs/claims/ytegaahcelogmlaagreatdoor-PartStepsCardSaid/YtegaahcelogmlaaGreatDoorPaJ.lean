/-
  Steps of an upload in parts, plainly: what holds behind each, and that they end.
-/
import Derived.Test.YtegaahcelogmlaaGreatDoorV2
namespace Go.Proofs.YtegaahcelogmlaaGreatDoor.St

section
variable {nm : Nm} {b : List UInt8} {e : Nat}
theorem comp_script (t : Nat) (ht : 0 < t) (id l size sum : Int) (k : Nm) (s : S) : (ccomp t id l k size sum s).st.script.length ≤ s.script.length - 1 ∧ (s.script = [] → (ccomp t id l k size sum s).r ≠ some 10) := by
  obtain ⟨h1, h2, h3⟩ := agn_script (asks_bare (comp_mild id l)) t none s ht
  unfold ccomp again
  generalize agn (bareOf fun s => s.ask () (S.compF id l)) t none s = A at *
  have h1 : A.st.script.length ≤ s.script.length - 1 := h1
  obtain ⟨q1, q2, q3⟩ := agn_script (asks_of [] (head_mild k)) t none (A.st, []) ht
  have q1 : (chead t k A.st).st.1.script.length ≤ A.st.script.length - 1 := q1
  split
  · next hd =>
    refine ⟨by simp only; omega, fun hs => ?_⟩
    obtain ⟨k1, k2⟩ := h2 hs
    have := hd.1
    unfold Ag.doubt at this
    rw [k2, hd.2] at this
    simp at this
  · exact ⟨h1, fun hs => (h2 hs).1⟩
/-- Where an upload in parts may stand. -/
structure InvU (nm : Nm) (b : List UInt8) (e : Nat) (id : Int) (done : Nat) (s : S) : Prop where
  last : 0 ≤ s.last
  is : (id = 0 ∧ done = 0) ∨ (id ≠ 0 ∧ done ≤ cnt b.length e ∧ Live nm b e id done s) ∨ (id ≠ 0 ∧ done = cnt b.length e ∧ Fin nm b id s)
/-- How many Steps there are yet, where all are answered. -/
def rank (b : List UInt8) (e : Nat) (id : Int) (done : Nat) (s : S) : Nat := if id = 0 then cnt b.length e + 2 else if s.ups id = none then cnt b.length e + 3 else cnt b.length e + 1 - done
theorem rank_pos {id : Int} {done : Nat} {s : S} (h : InvU nm b e id done s) : 0 < rank b e id done s := by
  unfold rank
  rcases h.is with h | h | h
  · simp [h.1]
  · rw [if_neg h.1]; split <;> omega
  · rw [if_neg h.1, if_pos h.2.2.1]; omega
theorem rank_le (b : List UInt8) (e : Nat) (id : Int) (done : Nat) (s : S) : rank b e id done s ≤ cnt b.length e + 3 := by
  unfold rank; split
  · omega
  · split <;> omega
theorem Live.rank {id : Int} {done : Nat} {s : S} (h : Live nm b e id done s) (h0 : id ≠ 0) : rank b e id done s = cnt b.length e + 1 - done := by
  unfold St.rank
  obtain ⟨u, h1, -⟩ := h
  rw [if_neg h0, if_neg (by rw [h1]; simp)]
theorem Fin.rank {id : Int} {done : Nat} {s : S} (h : Fin nm b id s) (h0 : id ≠ 0) : rank b e id done s = cnt b.length e + 3 := by
  unfold St.rank
  rw [if_neg h0, if_pos h.1]
theorem nxt_inv (he : 0 < e) (hc : cnt b.length e ≤ 256) (hv : Dk.valid nm = true) (t : Nat) (ht : 0 < t) (s : S) (id : Int) (done : Nat) (h : InvU nm b e id done s) (N : Nx) (hN : N = nxt t nm b e s id done) :
    (N.r = some 10 ∧ InvU nm b e id done N.st ∧ s.script ≠ [] ∧ N.st.script.length + 1 ≤ s.script.length) ∨
    ((N.r = none ∧ N.o = false ∨ N.r = some 6) ∧ InvU nm b e (N.tA id) (N.tB done) N.st ∧ N.st.script.length ≤ s.script.length - 1 ∧ (s.script = [] → rank b e (N.tA id) (N.tB done) N.st < rank b e id done s) ∧ (id ≠ 0 → N.tA id = id → N.tB done = done + 1) ∧ (N.tA id = id ∨ N.tA id = 0 ∨ N.st.ups (N.tA id) ≠ none)) ∨
    (N.r = none ∧ N.o = true ∧ N.a = id ∧ N.b = done ∧ done = cnt b.length e ∧ id ≠ 0 ∧ Fin nm b id N.st) := by
  have hne : ∀ (r : Option Nat) (k : Nat), (s.script = [] → r ≠ some 10) → k ≤ s.script.length - 1 → r = some 10 → s.script ≠ [] ∧ k + 1 ≤ s.script.length := fun r k h1 h2 h3 => by
    refine ⟨fun e => h1 e h3, ?_⟩
    have : s.script.length ≠ 0 := fun e => h1 (List.length_eq_zero_iff.1 e) h3
    omega
  unfold nxt at hN
  rcases h.is with ⟨rfl, rfl⟩ | ⟨h1, h2, h3⟩ | ⟨h1, rfl, h3⟩
  · rw [if_pos rfl] at hN
    obtain ⟨k1, k2, -⟩ := agn_script (asks_of 0 (start_mild nm)) t none (s, 0) ht
    have k1 : (cstart t nm s).st.1.script.length ≤ s.script.length - 1 := k1
    have k2 : s.script = [] → (cstart t nm s).r ≠ some 10 := fun hs => (k2 hs).1
    rcases start_any (b := b) (e := e) hv t ht s h.last with ⟨q1, q2⟩ | ⟨q1, q2, q3, q4⟩
    · left
      subst hN
      exact ⟨q1, ⟨q2, .inl ⟨rfl, rfl⟩⟩, hne _ _ k2 k1 q1⟩
    · right; left
      subst hN
      obtain ⟨z1, z2, z3, z4⟩ := Nx.fine (N := ⟨(cstart t nm s).st.2, 0, false, (cstart t nm s).r, (cstart t nm s).st.1⟩) q1 0 0
      rw [z1, z2]
      refine ⟨.inl ⟨q1, rfl⟩, ⟨q3, .inr (.inl ⟨by simp only; omega, Nat.zero_le _, q4⟩)⟩, k1, fun _ => ?_, fun h => absurd rfl h, .inr (.inr (by obtain ⟨u, hu, -⟩ := q4; simp only; rw [hu]; simp))⟩
      simp only
      rw [q4.rank (by omega)]
      simp [rank]
  · rw [if_neg h1] at hN
    by_cases hd : done < cnt b.length e
    · rw [if_pos hd] at hN
      obtain ⟨k1, k2, -⟩ := agn_script (asks_bare (part_mild id (done : Nat) (piece b e done))) t none s ht
      have k1 : (cpart t id (done : Nat) (piece b e done) s).st.script.length ≤ s.script.length - 1 := k1
      have k2 : s.script = [] → (cpart t id (done : Nat) (piece b e done) s).r ≠ some 10 := fun hs => (k2 hs).1
      rcases part_any h3 h.last (by omega) t ht with ⟨q1, q2, q3⟩ | ⟨q1, q2, q3⟩
      · left
        subst hN
        exact ⟨q1, ⟨q2, .inr (.inl ⟨h1, h2, q3⟩)⟩, hne _ _ k2 k1 q1⟩
      · right; left
        subst hN
        obtain ⟨z1, z2, z3, z4⟩ := Nx.fine (N := ⟨id, done + 1, false, (cpart t id (done : Nat) (piece b e done) s).r, (cpart t id (done : Nat) (piece b e done) s).st⟩) q1 id done
        rw [z1, z2]
        refine ⟨.inl ⟨q1, rfl⟩, ⟨q2, .inr (.inl ⟨h1, hd, q3⟩)⟩, k1, fun _ => ?_, fun _ _ => rfl, .inl rfl⟩
        simp only
        rw [q3.rank h1, h3.rank h1]
        omega
    · obtain rfl : done = cnt b.length e := by omega
      rw [if_neg hd] at hN
      obtain ⟨k1, k2⟩ := comp_script t ht id (cnt b.length e : Nat) (b.length : Nat) (U (Crc.sum b)) nm s
      rcases comp_any he hc (.inl h3) h.last t ht with ⟨q1, q2, q3⟩ | ⟨q1, q2, q3⟩ | ⟨q1, q2, q3, q4⟩
      · left
        subst hN
        refine ⟨q1, ⟨q2, ?_⟩, hne _ _ k2 k1 q1⟩
        rcases q3 with q3 | q3
        · exact .inr (.inl ⟨h1, h2, q3⟩)
        · exact .inr (.inr ⟨h1, rfl, q3⟩)
      · right; right
        subst hN
        exact ⟨q1, rfl, rfl, rfl, rfl, h1, q3⟩
      · obtain ⟨u, hu, -⟩ := h3
        rw [q2] at hu; cases hu
  · rw [if_neg h1, if_neg (Nat.lt_irrefl _)] at hN
    obtain ⟨k1, k2⟩ := comp_script t ht id (cnt b.length e : Nat) (b.length : Nat) (U (Crc.sum b)) nm s
    rcases comp_any he hc (.inr h3) h.last t ht with ⟨q1, q2, q3⟩ | ⟨q1, q2, q3⟩ | ⟨q1, q2, q3, q4⟩
    · left
      subst hN
      refine ⟨q1, ⟨q2, ?_⟩, hne _ _ k2 k1 q1⟩
      rcases q3 with q3 | q3
      · exact .inr (.inl ⟨h1, Nat.le_refl _, q3⟩)
      · exact .inr (.inr ⟨h1, rfl, q3⟩)
    · right; right
      subst hN
      exact ⟨q1, rfl, rfl, rfl, rfl, h1, q3⟩
    · right; left
      subst hN
      obtain ⟨z1, z2, z3, z4⟩ := Nx.gone (N := ⟨id, cnt b.length e, true, (ccomp t id (cnt b.length e : Nat) nm (b.length : Nat) (U (Crc.sum b)) s).r, (ccomp t id (cnt b.length e : Nat) nm (b.length : Nat) (U (Crc.sum b)) s).st⟩) q1 id (cnt b.length e)
      rw [z1, z2]
      refine ⟨.inr q1, ⟨q3, .inl ⟨rfl, rfl⟩⟩, k1, fun _ => ?_, fun _ h => absurd h.symm h1, .inr (.inl rfl)⟩
      rw [h3.rank h1]
      simp [rank]
/-- Whether the Steps are still few enough. -/
def Soon (b : List UInt8) (e i : Nat) (id : Int) (done : Nat) (s : S) : Prop := (s.script = [] ∧ i + rank b e id done s ≤ cnt b.length e + 35) ∨ (s.script ≠ [] ∧ i + s.script.length ≤ 30)
theorem Soon.start {b : List UInt8} {e : Nat} {s : S} (h : s.script.length ≤ 30) : Soon b e 0 0 0 s := by
  by_cases h0 : s.script = []
  · exact .inl ⟨h0, by have := rank_le b e 0 0 s; omega⟩
  · exact .inr ⟨h0, by omega⟩
theorem Soon.bound {b : List UInt8} {e i : Nat} {id : Int} {done : Nat} {s : S} (h : Soon b e i id done s) : i ≤ cnt b.length e + 35 := by
  rcases h with h | h <;> omega
theorem Soon.bad {b : List UInt8} {e i : Nat} {id : Int} {done : Nat} {s s' : S} (h : Soon b e i id done s) (h1 : s.script ≠ []) (h2 : s'.script.length + 1 ≤ s.script.length) : Soon b e (i + 1) id done s' := by
  rcases h with h | h
  · exact absurd h.1 h1
  · by_cases h0 : s'.script = []
    · exact .inl ⟨h0, by have := rank_le b e id done s'; omega⟩
    · exact .inr ⟨h0, by omega⟩
theorem Soon.good {b : List UInt8} {e i : Nat} {id id' : Int} {done done' : Nat} {s s' : S} (h : Soon b e i id done s) (h1 : s'.script.length ≤ s.script.length - 1) (h2 : s.script = [] → rank b e id' done' s' < rank b e id done s) : Soon b e (i + 1) id' done' s' := by
  rcases h with h | h
  · have := h2 h.1
    refine .inl ⟨?_, by omega⟩
    rw [h.1] at h1
    exact List.length_eq_zero_iff.1 (by simpa using h1)
  · have : s.script.length ≠ 0 := fun e => h.1 (List.length_eq_zero_iff.1 e)
    by_cases h0 : s'.script = []
    · exact .inl ⟨h0, by have := rank_le b e id' done' s'; omega⟩
    · exact .inr ⟨h0, by omega⟩
end
end Go.Proofs.YtegaahcelogmlaaGreatDoor.St
