/-
  What the laid errors give the walks: the nineteen, each its own pointer.
  What the laid variables give the walks, where a row lists some of the errors.
-/
import Derived.Test.YtcmgppacipdnaaaGreatDoorQTable
import Derived.Test.YtcmgppacipdnaaaGreatDoorCards
import Derived.Test.YtcmgppacipdnaaaGreatDoorTie
import Derived.LaidLaws
import Derived.LaidMore
import Derived.OpenShut
import Derived.ChangeOld
import Derived.Stop.Joined
import Derived.Stop.ErrReads
namespace Go.Proofs.YtcmgppacipdnaaaGreatDoor
open Go.RowKit Go.ChangeShapes Go.WideShapes Go.ChangeAt

theorem es_star : "*" ++ "errors.errorString" = "*errors.errorString" := by decide
theorem es_row (u : TypeId) (h : Tryz.prog.typeName? 3 u = some "*errors.errorString") : u = 297 :=
  typeName_ptr_named (nm := "errors.errorString") (by rw [es_star]; kernel_rfl) (by kernel_rfl) (by decide) u (by rw [es_star]; exact h)
theorem es_cells : Tryz.prog.cellsOf 299 = 1 := by kernel_rfl
theorem str_cells : Tryz.prog.cellsOf 9 = 1 := by kernel_rfl

/-- An error's datum. -/
def sentD (txt : List UInt8) : DataW Unit := .iface "*errors.errorString" (.ptr (.agg [.lit (.string txt)]))
def placeOf (a : Addr) : MemPlace := .cell a.block a.off

set_option maxRecDepth 100000 in
theorem sents_of_vars {W : World} : ∀ (L : List (String × DataW Unit × Nat)) (ps : List MemPlace),
    (∀ x ∈ L, Tryz.prog.globalNamed x.1 = some x.2.2 ∧ (Tryz.prog.globals[x.2.2]?).map (·.type) = some 46 ∧ ∃ txt, x.2.1 = sentD txt) →
    DataW.LaidVars Tryz.prog W (L.map fun x => (x.1, x.2.1)) ps →
    (∀ b off, MemPlace.cell b off ∈ ps → (∃ c t, W.heap[b]? = some (.cells c t (0, 0))) ∧ ∀ u v, W.cell? ⟨b, off, none⟩ = some (.iface u v) → Value.okWide Tryz.prog W .any 0 u v) →
    ∃ az : List Addr, az.length = L.length ∧ (az.map placeOf).Sublist ps ∧ ∀ (i : Nat) (x : String × DataW Unit × Nat) (a : Addr), L[i]? = some x → az[i]? = some a → W.cell? ⟨x.2.2, 0, none⟩ = some (errV a) ∧ W.cell? a ≠ none
  | [], ps, _, _, _ => ⟨[], rfl, List.nil_sublist _, fun i x a h => by simp at h⟩
  | x :: L, ps, hL, hv, hrows => by
    obtain ⟨h1, h2, txt, h3⟩ := hL x List.mem_cons_self
    obtain ⟨g, t, cs, fuel, p, q, hg, ht, hvar, hd, hr, rfl⟩ := hv
    obtain rfl := Option.some.inj (h1.symm.trans hg)
    obtain rfl := Option.some.inj (h2.symm.trans ht)
    simp only [h3, sentD] at hd
    obtain ⟨l0⟩ := cs
    obtain ⟨ms, i, j, hu, _⟩ := es_facts
    have ok0 : ∀ u v, l0 = [.iface u v] → Value.okWide Tryz.prog W .any 0 u v := fun u v e => by
      subst e
      exact (hrows x.2.2 0 (by simp [MemPlace.row])).2 u v (by simpa using World.var?_cell hg hvar 0)
    obtain ⟨a, s, rfl, hc, _, _, rfl⟩ := errorString_of_trod hu es_row es_pointee Tryz.underlying299 rfl rfl Tryz.underlying9 es_cells str_cells hd ok0
    obtain ⟨az, hl, hsub, hat⟩ := sents_of_vars L q (fun y hy => hL y (List.mem_cons_of_mem _ hy)) hr (fun b off hb => hrows b off (by simp [hb]))
    refine ⟨a :: az, by simp [hl], ?_, ?_⟩
    · have e : MemPlace.row a 1 = [placeOf a] := by simp [MemPlace.row, placeOf, List.range_succ]
      rw [e, List.map_cons, List.append_assoc]
      exact ((List.Sublist.cons_cons (placeOf a) hsub).trans (List.sublist_append_right _ _))
    · intro i y b hy hb
      cases i with
      | zero =>
        simp at hy hb
        subst hy hb
        exact ⟨by simpa [errV] using World.var?_cell hg hvar 0, by rw [hc]; simp⟩
      | succ i => exact hat i y b (by simpa using hy) (by simpa using hb)

/-- The nineteen, with their places. -/
def sentL : List (String × DataW Unit × Nat) := [("cordwood/api.ErrEnd", Rows.laid_cordwood_api_ErrEnd, 8), ("cordwood/api.ErrSum", Rows.laid_cordwood_api_ErrSum, 9), ("cordwood/api.ErrShape", Rows.laid_cordwood_api_ErrShape, 2), ("cordwood/api.ErrMany", Rows.laid_cordwood_api_ErrMany, 5), ("cordwood/api.ErrRange", Rows.laid_cordwood_api_ErrRange, 3), ("cordwood/api.ErrName", Rows.laid_cordwood_api_ErrName, 10), ("cordwood/api.ErrNone", Rows.laid_cordwood_api_ErrNone, 1), ("cordwood/api.ErrThere", Rows.laid_cordwood_api_ErrThere, 11), ("cordwood/api.ErrFull", Rows.laid_cordwood_api_ErrFull, 6), ("cordwood/api.ErrCrash", Rows.laid_cordwood_api_ErrCrash, 7), ("cordwood/api.ErrStore", Rows.laid_cordwood_api_ErrStore, 12), ("cordwood/api.ErrKind", Rows.laid_cordwood_api_ErrKind, 13), ("cordwood/api.ErrState", Rows.laid_cordwood_api_ErrState, 4), ("cordwood/api.ErrFenced", Rows.laid_cordwood_api_ErrFenced, 14), ("cordwood/api.ErrOutside", Rows.laid_cordwood_api_ErrOutside, 0), ("cordwood/api.ErrUnavail", Rows.laid_cordwood_api_ErrUnavail, 15), ("cordwood/api.ErrWord", Rows.laid_cordwood_api_ErrWord, 16), ("cordwood/api.ErrNumber", Rows.laid_cordwood_api_ErrNumber, 17), ("cordwood/api.ErrClosed", Rows.laid_cordwood_api_ErrClosed, 18)]
set_option maxRecDepth 100000 in
theorem sentL_ok : ∀ x ∈ sentL, Tryz.prog.globalNamed x.1 = some x.2.2 ∧ (Tryz.prog.globals[x.2.2]?).map (·.type) = some 46 ∧ ∃ txt, x.2.1 = sentD txt := by
  have h1 : (sentL.all fun x => decide (Tryz.prog.globalNamed x.1 = some x.2.2) && decide ((Tryz.prog.globals[x.2.2]?).map (·.type) = some 46)) = true := by kernel_rfl
  intro x hx
  have h2 := List.all_eq_true.1 h1 x hx
  simp only [Bool.and_eq_true, decide_eq_true_eq] at h2
  refine ⟨h2.1, h2.2, ?_⟩
  unfold sentL at hx
  simp only [List.mem_cons, List.not_mem_nil, or_false] at hx
  rcases hx with rfl | rfl | rfl | rfl | rfl | rfl | rfl | rfl | rfl | rfl | rfl | rfl | rfl | rfl | rfl | rfl | rfl | rfl | rfl <;> exact ⟨_, rfl⟩
theorem sentL_gs : ∀ j, j < 19 → (sentL[j]?).map (·.2.2) = some (gs.getD j 0) := by decide

end Go.Proofs.YtcmgppacipdnaaaGreatDoor

namespace Go.Proofs.YtcmgppacipdnaaaGreatDoor
open Go.RowKit Go.ChangeShapes Go.WideShapes Go.ChangeAt

def sentX (j : Nat) : String × DataW Unit × Nat := sentL.getD j ("", .nil, 0)
theorem sentX_mem (j : Nat) (h : j < 19) : sentX j ∈ sentL := by
  have hl : sentL.length = 19 := rfl
  unfold sentX
  rw [List.getD_eq_getElem?_getD, List.getElem?_eq_getElem (show j < sentL.length by omega), Option.getD_some]
  exact List.getElem_mem _
theorem sentX_gs (j : Nat) (h : j < 19) : (sentX j).2.2 = gs.getD j 0 := by
  have h1 := sentL_gs j h
  unfold sentX
  rw [List.getD_eq_getElem?_getD]
  cases hx : sentL[j]? with
  | none => rw [hx] at h1; cases h1
  | some x => rw [hx] at h1; simpa using h1

set_option maxRecDepth 100000 in
theorem sents_of_js {W : World} (js : List Nat) (hjs : ∀ j ∈ js, j < 19) (h3 : laidMet Tryz.prog (js.map fun j => ((sentX j).1, (sentX j).2.1)) W) : ∃ p, SentsOn (fun j => j ∈ js) W p := by
  obtain ⟨ps, hv, hnd, hrows⟩ := h3
  have hv2 : DataW.LaidVars Tryz.prog W ((js.map sentX).map fun x => (x.1, x.2.1)) ps := by rw [List.map_map]; exact hv
  obtain ⟨az, hl, hsub, hat⟩ := sents_of_vars (js.map sentX) ps (fun x hx => by obtain ⟨j, hj, rfl⟩ := List.mem_map.1 hx; exact sentL_ok _ (sentX_mem j (hjs j hj))) hv2 hrows
  rw [List.length_map] at hl
  have hnd2 : (az.map placeOf).Nodup := hsub.nodup hnd
  have hk : ∀ j ∈ js, js.idxOf j < az.length := fun j hj => by rw [hl]; exact List.idxOf_lt_length_of_mem hj
  have hx : ∀ j (hj : j ∈ js), (js.map sentX)[js.idxOf j]? = some (sentX j) := fun j hj => by
    have h1 := List.idxOf_lt_length_of_mem hj
    rw [List.getElem?_map, List.getElem?_eq_getElem h1, List.getElem_idxOf h1]; rfl
  have ha : ∀ j (hj : j ∈ js), az[js.idxOf j]? = some (az.getD (js.idxOf j) ⟨0, 0, none⟩) := fun j hj => by simp [List.getD, hk j hj]
  refine ⟨fun j => az.getD (js.idxOf j) ⟨0, 0, none⟩, ⟨fun j hj => ?_, fun j hj => ?_, fun i j hi hj hne e => ?_⟩⟩
  · have := (hat _ _ _ (hx j hj) (ha j hj)).1
    rwa [sentX_gs j (hjs j hj)] at this
  · have hm : placeOf (az.getD (js.idxOf j) ⟨0, 0, none⟩) ∈ ps := hsub.subset (List.mem_map.2 ⟨_, List.mem_of_getElem? (ha j hj), rfl⟩)
    obtain ⟨c, t, hc⟩ := (hrows _ _ hm).1
    refine ⟨?_, c, t, hc⟩
    rcases Nat.lt_or_ge (az.getD (js.idxOf j) ⟨0, 0, none⟩).block W.heap.size with h | h
    · exact h
    · rw [Array.getElem?_eq_none h] at hc; cases hc
  · have e1 : (az.map placeOf)[js.idxOf i]? = some (placeOf (az.getD (js.idxOf i) ⟨0, 0, none⟩)) := by rw [List.getElem?_map, ha i hi]; rfl
    have e2 : (az.map placeOf)[js.idxOf j]? = some (placeOf (az.getD (js.idxOf j) ⟨0, 0, none⟩)) := by rw [List.getElem?_map, ha j hj]; rfl
    have e' : az.getD (js.idxOf i) ⟨0, 0, none⟩ = az.getD (js.idxOf j) ⟨0, 0, none⟩ := e
    rw [e'] at e1
    have h1 := (List.getElem?_inj (by rw [List.length_map]; exact hk i hi) hnd2).1 (e1.trans e2.symm)
    have h2 := List.getElem_idxOf (List.idxOf_lt_length_of_mem hi)
    have h3 := List.getElem_idxOf (List.idxOf_lt_length_of_mem hj)
    simp only [h1] at h2
    exact hne (h2.symm.trans h3)
end Go.Proofs.YtcmgppacipdnaaaGreatDoor
