/-
  What a laid error of errors.New gives: the variable holds a pointer to its text.
-/
import Derived.Test.YtklmbfmcfjibbaaDoorFrame0
import Derived.Test.YtklmbfmcfjibbaaDoorCards
import Derived.Test.YtklmbfmcfjibbaaDoorTie
import Derived.LaidLaws
import Derived.LaidMore
import Derived.LaidEqlPtr
import Derived.OpenShut
import Derived.ChangeOld
import Derived.Stop.Joined
import Derived.Stop.ErrReads
namespace Go.Proofs.YtklmbfmcfjibbaaDoor
open Go.RowKit Go.ChangeShapes Go.WideShapes Go.ChangeAt

/-- An error of errors.New at an address. -/
def errV (p : Addr) : Value := .iface 127 (.pointer (some p))
theorem es_pointee : Tryd.prog.underlying 127 = some (.pointer 129) := by kernel_rfl
theorem es_facts : ∃ ms i j, Tryd.prog.underlying 42 = some (.interface ms) ∧ Tryd.prog.info? 127 = some i ∧ i.comparable = true ∧ Tryd.prog.info? 129 = some j ∧ j.size ≠ 0 := by
  have h1 : (match Tryd.prog.underlying 42 with | some (.interface _) => true | _ => false) = true := by kernel_rfl
  have h2 : (Tryd.prog.info? 127).map (·.comparable) = some true := by kernel_rfl
  have h3 : (Tryd.prog.info? 129).map (·.size) = some 1 := by kernel_rfl
  obtain ⟨i, h4, h5⟩ := Option.map_eq_some_iff.1 h2
  obtain ⟨j, h6, h7⟩ := Option.map_eq_some_iff.1 h3
  cases hu : Tryd.prog.underlying 42 with
  | none => rw [hu] at h1; cases h1
  | some u =>
    rw [hu] at h1
    cases u with
    | interface ms => exact ⟨ms, i, j, rfl, h4, h5, h6, by omega⟩
    | _ => cases h1
theorem es_star : "*" ++ "errors.errorString" = "*errors.errorString" := by decide
theorem es_row (u : TypeId) (h : Tryd.prog.typeName? 3 u = some "*errors.errorString") : u = 127 :=
  typeName_ptr_named (nm := "errors.errorString") (by rw [es_star]; kernel_rfl) (by kernel_rfl) (by decide) u (by rw [es_star]; exact h)
theorem es_cells : Tryd.prog.cellsOf 129 = 1 := by kernel_rfl
theorem str_cells : Tryd.prog.cellsOf 9 = 1 := by kernel_rfl

/-- An error's datum. -/
def sentD (txt : List UInt8) : DataW Unit := .iface "*errors.errorString" (.ptr (.agg [.lit (.string txt)]))
def placeOf (a : Addr) : MemPlace := .cell a.block a.off

set_option maxRecDepth 100000 in
theorem sents_of_vars {W : World} : ∀ (L : List (String × DataW Unit × Nat)) (ps : List MemPlace),
    (∀ x ∈ L, Tryd.prog.globalNamed x.1 = some x.2.2 ∧ (Tryd.prog.globals[x.2.2]?).map (·.type) = some 42 ∧ ∃ txt, x.2.1 = sentD txt) →
    DataW.LaidVars Tryd.prog W (L.map fun x => (x.1, x.2.1)) ps →
    (∀ b off, MemPlace.cell b off ∈ ps → (∃ c t, W.heap[b]? = some (.cells c t (0, 0))) ∧ ∀ u v, W.cell? ⟨b, off, none⟩ = some (.iface u v) → Value.okWide Tryd.prog W .any 0 u v) →
    ∃ az : List Addr, az.length = L.length ∧ (az.map placeOf).Sublist ps ∧ ∀ (i : Nat) (x : String × DataW Unit × Nat) (a : Addr), L[i]? = some x → az[i]? = some a → W.cell? ⟨x.2.2, 0, none⟩ = some (errV a) ∧ W.cell? a ≠ none
  | [], ps, _, _, _ => ⟨[], rfl, List.nil_sublist _, fun i x a h => by simp at h⟩
  | x :: L, ps, hL, hv, hrows => by
    obtain ⟨h1, h2, txt, h3⟩ := hL x List.mem_cons_self
    obtain ⟨g, t, cs, fuel, p, q, hg, ht, hvar, hd, hr, rfl⟩ := hv
    obtain rfl := Option.some.inj (h1.symm.trans hg)
    obtain rfl := Option.some.inj (h2.symm.trans ht)
    simp only [h3, sentD] at hd
    obtain ⟨l0⟩ := cs
    obtain ⟨ms, i, j, hu, _⟩ := es_facts
    have ok0 : ∀ u v, l0 = [.iface u v] → Value.okWide Tryd.prog W .any 0 u v := fun u v e => by
      subst e
      exact (hrows x.2.2 0 (by simp [MemPlace.row])).2 u v (by simpa using World.var?_cell hg hvar 0)
    obtain ⟨a, s, rfl, hc, _, _, rfl⟩ := errorString_of_trod hu es_row es_pointee Tryd.underlying129 rfl rfl Tryd.underlying9 es_cells str_cells hd ok0
    obtain ⟨az, hl, hsub, hat⟩ := sents_of_vars L q (fun y hy => hL y (List.mem_cons_of_mem _ hy)) hr (fun b off hb => hrows b off (by simp [hb]))
    refine ⟨a :: az, by simp [hl], ?_, ?_⟩
    · have e : MemPlace.row a 1 = [placeOf a] := by simp [MemPlace.row, placeOf, List.range_succ]
      rw [e, List.map_cons, List.append_assoc]
      exact ((List.Sublist.cons_cons (placeOf a) hsub).trans (List.sublist_append_right _ _))
    · intro i y b hy hb
      cases i with
      | zero =>
        simp at hy hb
        subst hy hb
        exact ⟨by simpa [errV] using World.var?_cell hg hvar 0, by rw [hc]; simp⟩
      | succ i => exact hat i y b (by simpa using hy) (by simpa using hb)

end Go.Proofs.YtklmbfmcfjibbaaDoor
