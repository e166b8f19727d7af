/-
  DiskRooms: the states, plainly.
-/
import Derived.Test.YtnjcngmmgceijaaDoorDkDo
namespace Go.Proofs.YtnjcngmmgceijaaDoor.Dk

/-- The i-th name of DiskRooms. -/
def rn (i : Nat) : Nm := [UInt8.ofNat (97 + i)]
theorem rn_valid : ∀ i, i < 20 → valid (rn i) = true := by decide +kernel
theorem rn_inj {i j : Nat} (hi : i < 20) (hj : j < 20) (h : rn i = rn j) : i = j := by
  unfold rn at h
  injection h with h _
  have e := congrArg UInt8.toNat h
  rw [UInt8.toNat_ofNat', UInt8.toNat_ofNat'] at e
  omega

/-- The disk behind i rounds. -/
structure Roomy (s : St) (room : Int) (i : Nat) (used : Int) : Prop where
  v : ∃ calls names dur since, V s room used calls names dur since ∧ ∀ j, i ≤ j → j < 20 → names (rn j) = none
  lo : 0 ≤ used
  hi : used ≤ room

theorem Roomy.new (room : Int) (h : 0 ≤ room) : Roomy (St.new room) room 0 0 := ⟨⟨_, _, _, _, V.new room, fun _ _ _ => rfl⟩, Int.le_refl _, h⟩
theorem Roomy.used {s : St} {room used : Int} {i : Nat} (h : Roomy s room i used) : s.used = used := by
  obtain ⟨calls, names, dur, since, v, -⟩ := h.v
  exact v.used
/-- A round. -/
theorem Roomy.step {s : St} {room used : Int} {i : Nat} (h : Roomy s room i used) (hi : i < 20) (k : Nat) (x : Nat) : ∃ s1, s.create (rn i) x = (none, s1) ∧
    (used + k ≤ room → ∃ s2, s1.append (rn i) (List.replicate k 0) = (none, s2) ∧ s2.used = used + k ∧ s2.lenOf (rn i) = k ∧ (s2.find (rn i)).1 = none ∧ Roomy s2 room (i + 1) (used + k) ∧ ∃ s3, s2.remove (rn i) = (none, s3) ∧ Roomy s3 room (i + 1) used) ∧
    (room < used + k → s1.append (rn i) (List.replicate k 0) = (some 8, s1) ∧ s1.used = used ∧ s1.lenOf (rn i) = 0 ∧ (s1.find (rn i)).1 = none ∧ Roomy s1 room (i + 1) used ∧ ∃ s3, s1.remove (rn i) = (none, s3) ∧ Roomy s3 room (i + 1) used) := by
  obtain ⟨⟨calls, names, dur, since, v, hn⟩, lo, hr⟩ := h
  have hv := rn_valid i hi
  obtain ⟨s1, e1, v1, f1, -⟩ := v.create (rn i) x hv (hn i (Nat.le_refl _) hi)
  have hne := valid_ne hv
  have hu : upd names (rn i) (some x) (rn i) = some x := by simp [upd]
  have hoth : ∀ j, i + 1 ≤ j → j < 20 → rn j ≠ rn i := fun j h1 h2 e => by have := rn_inj h2 hi e; omega
  have hn1 : ∀ j, i + 1 ≤ j → j < 20 → upd names (rn i) (some x) (rn j) = none := fun j h1 h2 => by
    unfold upd
    rw [if_neg (hoth j h1 h2)]
    exact hn j (by omega) h2
  have hn2 : ∀ j, i + 1 ≤ j → j < 20 → upd (upd names (rn i) (some x)) (rn i) none (rn j) = none := fun j h1 h2 => by
    unfold upd
    rw [if_neg (hoth j h1 h2), if_neg (hoth j h1 h2)]
    exact hn j (by omega) h2
  refine ⟨s1, e1, fun hfit => ?_, fun hfull => ?_⟩
  · obtain ⟨s2, e2, v2, f2, -⟩ := v1.append (rn i) x (List.replicate k 0) hu (by rw [List.length_replicate]; omega)
    rw [List.length_replicate] at v2
    have hl : (s2.files x).bytes.length = k := by rw [f2, f1]; simp
    obtain ⟨s3, e3, v3, f3⟩ := v2.remove (rn i) x hne hu
    rw [hl, show used + (k : Int) - (k : Int) = used by omega] at v3
    refine ⟨s2, e2, v2.used, ?_, by rw [v2.find _ x hu], ⟨⟨_, _, _, _, v2, hn1⟩, by omega, hfit⟩, s3, e3, ⟨⟨_, _, _, _, v3, hn2⟩, lo, hr⟩⟩
    rw [(v2.len _ x hu).1, hl]
  · have e2 := v1.append_full (rn i) x (List.replicate k 0) hu (by rw [List.length_replicate]; omega)
    have hl : (s1.files x).bytes.length = 0 := by rw [f1]; rfl
    obtain ⟨s3, e3, v3, f3⟩ := v1.remove (rn i) x hne hu
    rw [hl, show used - ((0 : Nat) : Int) = used by omega] at v3
    refine ⟨e2, v1.used, ?_, by rw [v1.find _ x hu], ⟨⟨_, _, _, _, v1, hn1⟩, lo, hr⟩, s3, e3, ⟨⟨_, _, _, _, v3, hn2⟩, lo, hr⟩⟩
    rw [(v1.len _ x hu).1, hl]
    rfl
end Go.Proofs.YtnjcngmmgceijaaDoor.Dk
