/-
  What the laid variables give the walks, where a row lists some of the errors.
-/
import Derived.Test.YteeadlefbehhfaaDoorFrameS
namespace Go.Proofs.YteeadlefbehhfaaDoor
open Go.RowKit Go.ChangeShapes Go.WideShapes Go.ChangeAt

def sentX (j : Nat) : String × DataW Unit × Nat := sentL.getD j ("", .nil, 0)
theorem sentX_mem (j : Nat) (h : j < 19) : sentX j ∈ sentL := by
  have hl : sentL.length = 19 := rfl
  unfold sentX
  rw [List.getD_eq_getElem?_getD, List.getElem?_eq_getElem (show j < sentL.length by omega), Option.getD_some]
  exact List.getElem_mem _
theorem sentX_gs (j : Nat) (h : j < 19) : (sentX j).2.2 = gs.getD j 0 := by
  have h1 := sentL_gs j h
  unfold sentX
  rw [List.getD_eq_getElem?_getD]
  cases hx : sentL[j]? with
  | none => rw [hx] at h1; cases h1
  | some x => rw [hx] at h1; simpa using h1

set_option maxRecDepth 100000 in
theorem sents_of_js {W : World} (js : List Nat) (hjs : ∀ j ∈ js, j < 19) (h3 : laidMet Tryd.prog (js.map fun j => ((sentX j).1, (sentX j).2.1)) W) : ∃ p, SentsOn (fun j => j ∈ js) W p := by
  obtain ⟨ps, hv, hnd, hrows⟩ := h3
  have hv2 : DataW.LaidVars Tryd.prog W ((js.map sentX).map fun x => (x.1, x.2.1)) ps := by rw [List.map_map]; exact hv
  obtain ⟨az, hl, hsub, hat⟩ := sents_of_vars (js.map sentX) ps (fun x hx => by obtain ⟨j, hj, rfl⟩ := List.mem_map.1 hx; exact sentL_ok _ (sentX_mem j (hjs j hj))) hv2 hrows
  rw [List.length_map] at hl
  have hnd2 : (az.map placeOf).Nodup := hsub.nodup hnd
  have hk : ∀ j ∈ js, js.idxOf j < az.length := fun j hj => by rw [hl]; exact List.idxOf_lt_length_of_mem hj
  have hx : ∀ j (hj : j ∈ js), (js.map sentX)[js.idxOf j]? = some (sentX j) := fun j hj => by
    have h1 := List.idxOf_lt_length_of_mem hj
    rw [List.getElem?_map, List.getElem?_eq_getElem h1, List.getElem_idxOf h1]; rfl
  have ha : ∀ j (hj : j ∈ js), az[js.idxOf j]? = some (az.getD (js.idxOf j) ⟨0, 0, none⟩) := fun j hj => by simp [List.getD, hk j hj]
  refine ⟨fun j => az.getD (js.idxOf j) ⟨0, 0, none⟩, ⟨fun j hj => ?_, fun j hj => ?_, fun i j hi hj hne e => ?_⟩⟩
  · have := (hat _ _ _ (hx j hj) (ha j hj)).1
    rwa [sentX_gs j (hjs j hj)] at this
  · have hm : placeOf (az.getD (js.idxOf j) ⟨0, 0, none⟩) ∈ ps := hsub.subset (List.mem_map.2 ⟨_, List.mem_of_getElem? (ha j hj), rfl⟩)
    obtain ⟨c, t, hc⟩ := (hrows _ _ hm).1
    refine ⟨?_, c, t, hc⟩
    rcases Nat.lt_or_ge (az.getD (js.idxOf j) ⟨0, 0, none⟩).block W.heap.size with h | h
    · exact h
    · rw [Array.getElem?_eq_none h] at hc; cases hc
  · have e1 : (az.map placeOf)[js.idxOf i]? = some (placeOf (az.getD (js.idxOf i) ⟨0, 0, none⟩)) := by rw [List.getElem?_map, ha i hi]; rfl
    have e2 : (az.map placeOf)[js.idxOf j]? = some (placeOf (az.getD (js.idxOf j) ⟨0, 0, none⟩)) := by rw [List.getElem?_map, ha j hj]; rfl
    have e' : az.getD (js.idxOf i) ⟨0, 0, none⟩ = az.getD (js.idxOf j) ⟨0, 0, none⟩ := e
    rw [e'] at e1
    have h1 := (List.getElem?_inj (by rw [List.length_map]; exact hk i hi) hnd2).1 (e1.trans e2.symm)
    have h2 := List.getElem_idxOf (List.idxOf_lt_length_of_mem hi)
    have h3 := List.getElem_idxOf (List.idxOf_lt_length_of_mem hj)
    simp only [h1] at h2
    exact hne (h2.symm.trans h3)
end Go.Proofs.YteeadlefbehhfaaDoor
