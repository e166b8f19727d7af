/-
  What the laid variables give the walks: the two short tables of sums, cell by cell.
  What the laid errors give the walks: the nineteen, each its own pointer.
  What the laid variables give the walks, where a row lists some of the errors.
  What the laid variables give the walks, where a row lists what a plan of parts goes by: errors, the tables of sums, those of letters.
-/
import Derived.Test.YtegaahcelogmlaaGreatDoorCards
import Derived.Test.YtegaahcelogmlaaGreatDoorTie
import Derived.Test.YtegaahcelogmlaaGreatDoorB2
import Derived.Test.YtegaahcelogmlaaGreatDoorT1
import Derived.Lib.LaidTab
import Derived.LaidMore
import Derived.OpenShut
import Derived.ChangeOld
import Derived.Stop.Joined
import Derived.LaidLaws
import Derived.Stop.ErrReads
import Derived.Lay
import Derived.HandedShaped
import Derived.ShutString
import Derived.ChangeMaps5
namespace Go.Proofs.YtegaahcelogmlaaGreatDoor
open Go.RowKit Crc Go.ChangeShapes Go.WideShapes Go.ChangeAt

theorem g_low : Tryz.prog.globalNamed "cordwood/crc.lowHalf" = some 4 := by kernel_rfl
theorem g_high : Tryz.prog.globalNamed "cordwood/crc.highHalf" = some 5 := by kernel_rfl
theorem ty_low : (Tryz.prog.globals[4]?).map (·.type) = some 84 := by kernel_rfl
theorem ty_high : (Tryz.prog.globals[5]?).map (·.type) = some 84 := by kernel_rfl
theorem cells_u32 : Tryz.prog.cellsOf 33 = 1 := by kernel_rfl
theorem cells_tab : Tryz.prog.cellsOf 84 = 16 := by kernel_rfl
/-- The two tables, as a row lists them. -/
def laidTabs : List (String × DataW Unit) := [("cordwood/crc.lowHalf", Rows.laid_cordwood_crc_lowHalf), ("cordwood/crc.highHalf", Rows.laid_cordwood_crc_highHalf)]
theorem low_data {H : Type} : (Rows.laid_cordwood_crc_lowHalf : DataW H) = Lib.tabData .u32 (lowT.map fun n : Nat => (n : Int)) := rfl
theorem high_data {H : Type} : (Rows.laid_cordwood_crc_highHalf : DataW H) = Lib.tabData .u32 (highT.map fun n : Nat => (n : Int)) := rfl
theorem low_lt : ∀ n ∈ lowT, n < 4294967296 := by decide
theorem high_lt : ∀ n ∈ highT, n < 4294967296 := by decide

theorem getD_cast (l : List Nat) (i : Nat) : (l.map fun n : Nat => (n : Int)).getD i 0 = ((l.getD i 0 : Nat) : Int) := by
  simp only [List.getD, List.getElem?_map]
  cases l[i]? <;> rfl
theorem tabs_of_low {W : World} (h : Lib.TabIs Tryz.prog W "cordwood/crc.lowHalf" .u32 (lowT.map fun n : Nat => (n : Int))) (y : UInt8) : W.cell? ⟨4, idx (y &&& 15), none⟩ = some (.int .u32 (U (low y))) := by
  have hi : idx (y &&& 15) < 16 := by unfold idx; rw [and15]; omega
  rw [h.cell g_low _ (by simpa [lowT] using hi)]
  congr 2
  have hlt : lowT.getD (y &&& 15).toNat 0 < 4294967296 := by
    have hl : (y &&& 15).toNat < lowT.length := hi
    simp only [List.getD, List.getElem?_eq_getElem hl, Option.getD_some]
    exact low_lt _ (List.getElem_mem hl)
  unfold U low idx
  rw [BitVec.toNat_ofNat, Nat.mod_eq_of_lt hlt]
  exact getD_cast _ _
theorem tabs_of_high {W : World} (h : Lib.TabIs Tryz.prog W "cordwood/crc.highHalf" .u32 (highT.map fun n : Nat => (n : Int))) (y : UInt8) : W.cell? ⟨5, idx (y >>> 4), none⟩ = some (.int .u32 (U (high y))) := by
  have hi : idx (y >>> 4) < 16 := by unfold idx; rw [shr4]; have := y.toNat_lt; omega
  rw [h.cell g_high _ (by simpa [highT] using hi)]
  congr 2
  have hl : (y >>> 4).toNat < highT.length := hi
  have hlt : highT.getD (y >>> 4).toNat 0 < 4294967296 := by
    simp only [List.getD, List.getElem?_eq_getElem hl, Option.getD_some]
    exact high_lt _ (List.getElem_mem hl)
  unfold U high idx
  rw [BitVec.toNat_ofNat, Nat.mod_eq_of_lt hlt]
  exact getD_cast _ _

theorem tabs_of_laid {W : World} (h : laidMetH Tryz.prog laidTabs W) : Tabs W := by
  have h1 := h
  have h2 := h.filter (fun x => x.1 == "cordwood/crc.highHalf")
  rw [MakeChecks.laidMetH_plain _ _ _ (by kernel_rfl)] at h1 h2
  have h2' : laidMet Tryz.prog [("cordwood/crc.highHalf", Lib.tabData .u32 (highT.map fun n : Nat => (n : Int)))] W := h2
  have h1' : laidMet Tryz.prog (("cordwood/crc.lowHalf", Lib.tabData .u32 (lowT.map fun n : Nat => (n : Int))) :: [("cordwood/crc.highHalf", Rows.laid_cordwood_crc_highHalf)]) W := h1
  exact ⟨tabs_of_low (Lib.tabIs_of_head g_low ty_low Tryz.underlying84 Tryz.underlying33 cells_u32 cells_tab h1'),
    tabs_of_high (Lib.tabIs_of_head g_high ty_high Tryz.underlying84 Tryz.underlying33 cells_u32 cells_tab h2')⟩
theorem Tabs.size {W : World} (h : Tabs W) : 4 ≤ W.heap.size := by
  have hc := h.hi 0
  rcases Nat.lt_or_ge 5 W.heap.size with h | h
  · omega
  · simp [World.cell?, Array.getElem?_eq_none h] at hc

end Go.Proofs.YtegaahcelogmlaaGreatDoor

namespace Go.Proofs.YtegaahcelogmlaaGreatDoor
open Go.RowKit Go.ChangeShapes Go.WideShapes Go.ChangeAt

theorem es_star : "*" ++ "errors.errorString" = "*errors.errorString" := by decide
theorem es_row (u : TypeId) (h : Tryz.prog.typeName? 3 u = some "*errors.errorString") : u = 158 :=
  typeName_ptr_named (nm := "errors.errorString") (by rw [es_star]; kernel_rfl) (by kernel_rfl) (by decide) u (by rw [es_star]; exact h)
theorem es_cells : Tryz.prog.cellsOf 174 = 1 := by kernel_rfl
theorem str_cells : Tryz.prog.cellsOf 9 = 1 := by kernel_rfl

/-- An error's datum. -/
def sentD (txt : List UInt8) : DataW Unit := .iface "*errors.errorString" (.ptr (.agg [.lit (.string txt)]))
def placeOf (a : Addr) : MemPlace := .cell a.block a.off

set_option maxRecDepth 100000 in
theorem sents_of_vars {W : World} : ∀ (L : List (String × DataW Unit × Nat)) (ps : List MemPlace),
    (∀ x ∈ L, Tryz.prog.globalNamed x.1 = some x.2.2 ∧ (Tryz.prog.globals[x.2.2]?).map (·.type) = some 30 ∧ ∃ txt, x.2.1 = sentD txt) →
    DataW.LaidVars Tryz.prog W (L.map fun x => (x.1, x.2.1)) ps →
    (∀ b off, MemPlace.cell b off ∈ ps → (∃ c t, W.heap[b]? = some (.cells c t (0, 0))) ∧ ∀ u v, W.cell? ⟨b, off, none⟩ = some (.iface u v) → Value.okWide Tryz.prog W .any 0 u v) →
    ∃ az : List Addr, az.length = L.length ∧ (az.map placeOf).Sublist ps ∧ ∀ (i : Nat) (x : String × DataW Unit × Nat) (a : Addr), L[i]? = some x → az[i]? = some a → W.cell? ⟨x.2.2, 0, none⟩ = some (errV a) ∧ W.cell? a ≠ none
  | [], ps, _, _, _ => ⟨[], rfl, List.nil_sublist _, fun i x a h => by simp at h⟩
  | x :: L, ps, hL, hv, hrows => by
    obtain ⟨h1, h2, txt, h3⟩ := hL x List.mem_cons_self
    obtain ⟨g, t, cs, fuel, p, q, hg, ht, hvar, hd, hr, rfl⟩ := hv
    obtain rfl := Option.some.inj (h1.symm.trans hg)
    obtain rfl := Option.some.inj (h2.symm.trans ht)
    simp only [h3, sentD] at hd
    obtain ⟨l0⟩ := cs
    obtain ⟨ms, i, j, hu, _⟩ := es_facts
    have ok0 : ∀ u v, l0 = [.iface u v] → Value.okWide Tryz.prog W .any 0 u v := fun u v e => by
      subst e
      exact (hrows x.2.2 0 (by simp [MemPlace.row])).2 u v (by simpa using World.var?_cell hg hvar 0)
    obtain ⟨a, s, rfl, hc, _, _, rfl⟩ := errorString_of_trod hu es_row es_pointee Tryz.underlying174 rfl rfl Tryz.underlying9 es_cells str_cells hd ok0
    obtain ⟨az, hl, hsub, hat⟩ := sents_of_vars L q (fun y hy => hL y (List.mem_cons_of_mem _ hy)) hr (fun b off hb => hrows b off (by simp [hb]))
    refine ⟨a :: az, by simp [hl], ?_, ?_⟩
    · have e : MemPlace.row a 1 = [placeOf a] := by simp [MemPlace.row, placeOf, List.range_succ]
      rw [e, List.map_cons, List.append_assoc]
      exact ((List.Sublist.cons_cons (placeOf a) hsub).trans (List.sublist_append_right _ _))
    · intro i y b hy hb
      cases i with
      | zero =>
        simp at hy hb
        subst hy hb
        exact ⟨by simpa [errV] using World.var?_cell hg hvar 0, by rw [hc]; simp⟩
      | succ i => exact hat i y b (by simpa using hy) (by simpa using hb)

/-- The nineteen, with their places. -/
def sentL : List (String × DataW Unit × Nat) := [("cordwood/api.ErrEnd", Rows.laid_cordwood_api_ErrEnd, 7), ("cordwood/api.ErrSum", Rows.laid_cordwood_api_ErrSum, 8), ("cordwood/api.ErrShape", Rows.laid_cordwood_api_ErrShape, 9), ("cordwood/api.ErrMany", Rows.laid_cordwood_api_ErrMany, 3), ("cordwood/api.ErrRange", Rows.laid_cordwood_api_ErrRange, 0), ("cordwood/api.ErrName", Rows.laid_cordwood_api_ErrName, 1), ("cordwood/api.ErrNone", Rows.laid_cordwood_api_ErrNone, 2), ("cordwood/api.ErrThere", Rows.laid_cordwood_api_ErrThere, 10), ("cordwood/api.ErrFull", Rows.laid_cordwood_api_ErrFull, 11), ("cordwood/api.ErrCrash", Rows.laid_cordwood_api_ErrCrash, 12), ("cordwood/api.ErrStore", Rows.laid_cordwood_api_ErrStore, 6), ("cordwood/api.ErrKind", Rows.laid_cordwood_api_ErrKind, 13), ("cordwood/api.ErrState", Rows.laid_cordwood_api_ErrState, 14), ("cordwood/api.ErrFenced", Rows.laid_cordwood_api_ErrFenced, 15), ("cordwood/api.ErrOutside", Rows.laid_cordwood_api_ErrOutside, 16), ("cordwood/api.ErrUnavail", Rows.laid_cordwood_api_ErrUnavail, 17), ("cordwood/api.ErrWord", Rows.laid_cordwood_api_ErrWord, 18), ("cordwood/api.ErrNumber", Rows.laid_cordwood_api_ErrNumber, 19), ("cordwood/api.ErrClosed", Rows.laid_cordwood_api_ErrClosed, 20)]
set_option maxRecDepth 100000 in
theorem sentL_ok : ∀ x ∈ sentL, Tryz.prog.globalNamed x.1 = some x.2.2 ∧ (Tryz.prog.globals[x.2.2]?).map (·.type) = some 30 ∧ ∃ txt, x.2.1 = sentD txt := by
  have h1 : (sentL.all fun x => decide (Tryz.prog.globalNamed x.1 = some x.2.2) && decide ((Tryz.prog.globals[x.2.2]?).map (·.type) = some 30)) = true := by kernel_rfl
  intro x hx
  have h2 := List.all_eq_true.1 h1 x hx
  simp only [Bool.and_eq_true, decide_eq_true_eq] at h2
  refine ⟨h2.1, h2.2, ?_⟩
  unfold sentL at hx
  simp only [List.mem_cons, List.not_mem_nil, or_false] at hx
  rcases hx with rfl | rfl | rfl | rfl | rfl | rfl | rfl | rfl | rfl | rfl | rfl | rfl | rfl | rfl | rfl | rfl | rfl | rfl | rfl <;> exact ⟨_, rfl⟩
theorem sentL_gs : ∀ j, j < 19 → (sentL[j]?).map (·.2.2) = some (gs.getD j 0) := by decide

set_option maxRecDepth 100000 in
theorem sents_of_met {W : World} (h3 : laidMet Tryz.prog (sentL.map fun x => (x.1, x.2.1)) W) : ∃ p, Sents W p := by
  obtain ⟨ps, hv, hnd, hrows⟩ := h3
  obtain ⟨az, hl, hsub, hat⟩ := sents_of_vars sentL ps sentL_ok hv hrows
  have hlen : az.length = 19 := hl
  have hnd2 : (az.map placeOf).Nodup := hsub.nodup hnd
  refine ⟨fun j => az.getD j ⟨0, 0, none⟩, ⟨fun j hj => ?_, fun j hj => ?_, fun i j hi hj hne e => ?_⟩⟩
  · obtain ⟨x, hx, hg⟩ := Option.map_eq_some_iff.1 (sentL_gs j hj)
    have ha : az[j]? = some az[j] := by simp [show j < az.length by omega]
    have := (hat j x _ hx ha).1
    rw [hg] at this
    rw [this]; simp [List.getD, show j < az.length by omega]
  · have ha : az[j]? = some az[j] := by simp [show j < az.length by omega]
    have e : az.getD j ⟨0, 0, none⟩ = az[j] := by simp [List.getD, show j < az.length by omega]
    rw [e]
    have hm : placeOf az[j] ∈ ps := hsub.subset (List.mem_map.2 ⟨_, List.getElem_mem _, rfl⟩)
    obtain ⟨c, t, hc⟩ := (hrows _ _ hm).1
    refine ⟨?_, c, t, hc⟩
    rcases Nat.lt_or_ge az[j].block W.heap.size with h | h
    · exact h
    · rw [Array.getElem?_eq_none h] at hc; cases hc
  · have e1 : (az.map placeOf)[i]? = some (placeOf (az.getD i ⟨0, 0, none⟩)) := by simp [List.getD, show i < az.length by omega]
    have e2 : (az.map placeOf)[j]? = some (placeOf (az.getD j ⟨0, 0, none⟩)) := by simp [List.getD, show j < az.length by omega]
    have e' : az.getD i ⟨0, 0, none⟩ = az.getD j ⟨0, 0, none⟩ := e
    rw [e'] at e1
    exact hne ((List.getElem?_inj (by simp; omega) hnd2).1 (e1.trans e2.symm))
end Go.Proofs.YtegaahcelogmlaaGreatDoor

namespace Go.Proofs.YtegaahcelogmlaaGreatDoor
open Go.RowKit Go.ChangeShapes Go.WideShapes Go.ChangeAt

def sentX (j : Nat) : String × DataW Unit × Nat := sentL.getD j ("", .nil, 0)
theorem sentX_mem (j : Nat) (h : j < 19) : sentX j ∈ sentL := by
  have hl : sentL.length = 19 := rfl
  unfold sentX
  rw [List.getD_eq_getElem?_getD, List.getElem?_eq_getElem (show j < sentL.length by omega), Option.getD_some]
  exact List.getElem_mem _
theorem sentX_gs (j : Nat) (h : j < 19) : (sentX j).2.2 = gs.getD j 0 := by
  have h1 := sentL_gs j h
  unfold sentX
  rw [List.getD_eq_getElem?_getD]
  cases hx : sentL[j]? with
  | none => rw [hx] at h1; cases h1
  | some x => rw [hx] at h1; simpa using h1

set_option maxRecDepth 100000 in
theorem sents_of_js {W : World} (js : List Nat) (hjs : ∀ j ∈ js, j < 19) (h3 : laidMet Tryz.prog (js.map fun j => ((sentX j).1, (sentX j).2.1)) W) : ∃ p, SentsOn (fun j => j ∈ js) W p := by
  obtain ⟨ps, hv, hnd, hrows⟩ := h3
  have hv2 : DataW.LaidVars Tryz.prog W ((js.map sentX).map fun x => (x.1, x.2.1)) ps := by rw [List.map_map]; exact hv
  obtain ⟨az, hl, hsub, hat⟩ := sents_of_vars (js.map sentX) ps (fun x hx => by obtain ⟨j, hj, rfl⟩ := List.mem_map.1 hx; exact sentL_ok _ (sentX_mem j (hjs j hj))) hv2 hrows
  rw [List.length_map] at hl
  have hnd2 : (az.map placeOf).Nodup := hsub.nodup hnd
  have hk : ∀ j ∈ js, js.idxOf j < az.length := fun j hj => by rw [hl]; exact List.idxOf_lt_length_of_mem hj
  have hx : ∀ j (hj : j ∈ js), (js.map sentX)[js.idxOf j]? = some (sentX j) := fun j hj => by
    have h1 := List.idxOf_lt_length_of_mem hj
    rw [List.getElem?_map, List.getElem?_eq_getElem h1, List.getElem_idxOf h1]; rfl
  have ha : ∀ j (hj : j ∈ js), az[js.idxOf j]? = some (az.getD (js.idxOf j) ⟨0, 0, none⟩) := fun j hj => by simp [List.getD, hk j hj]
  refine ⟨fun j => az.getD (js.idxOf j) ⟨0, 0, none⟩, ⟨fun j hj => ?_, fun j hj => ?_, fun i j hi hj hne e => ?_⟩⟩
  · have := (hat _ _ _ (hx j hj) (ha j hj)).1
    rwa [sentX_gs j (hjs j hj)] at this
  · have hm : placeOf (az.getD (js.idxOf j) ⟨0, 0, none⟩) ∈ ps := hsub.subset (List.mem_map.2 ⟨_, List.mem_of_getElem? (ha j hj), rfl⟩)
    obtain ⟨c, t, hc⟩ := (hrows _ _ hm).1
    refine ⟨?_, c, t, hc⟩
    rcases Nat.lt_or_ge (az.getD (js.idxOf j) ⟨0, 0, none⟩).block W.heap.size with h | h
    · exact h
    · rw [Array.getElem?_eq_none h] at hc; cases hc
  · have e1 : (az.map placeOf)[js.idxOf i]? = some (placeOf (az.getD (js.idxOf i) ⟨0, 0, none⟩)) := by rw [List.getElem?_map, ha i hi]; rfl
    have e2 : (az.map placeOf)[js.idxOf j]? = some (placeOf (az.getD (js.idxOf j) ⟨0, 0, none⟩)) := by rw [List.getElem?_map, ha j hj]; rfl
    have e' : az.getD (js.idxOf i) ⟨0, 0, none⟩ = az.getD (js.idxOf j) ⟨0, 0, none⟩ := e
    rw [e'] at e1
    have h1 := (List.getElem?_inj (by rw [List.length_map]; exact hk i hi) hnd2).1 (e1.trans e2.symm)
    have h2 := List.getElem_idxOf (List.idxOf_lt_length_of_mem hi)
    have h3 := List.getElem_idxOf (List.idxOf_lt_length_of_mem hj)
    simp only [h1] at h2
    exact hne (h2.symm.trans h3)
end Go.Proofs.YtegaahcelogmlaaGreatDoor

namespace Go.Proofs.YtegaahcelogmlaaGreatDoor
open Go.RowKit Crc Go.ChangeShapes Go.WideShapes Go.ChangeAt

theorem returnsInHanded_both {H : Type} {enc : TypeId × Value → H} {a : Assume} {C : Checked} {os : Os} {f : FuncId} {fn : Func} {s : ChangeSpec} {conds : List PathCond} {apart fresh handsOn again : Bool} {X : World → Array Value → Prop}
    (hX : ∀ (w w' : World) (args : Array Value), w.heap = w'.heap → X w args → X w' args)
    (own : ownKnob C.prog.godebug = none) (started : os.Started) (noInit : C.prog.inits.idxOf? f = none) (hfn : C.prog.funcs[f]? = some fn)
    (witness : ∃ (w : World) (tape : Tape) (i : Input), w.os = os ∧ (w.forCall tape i).Shaped C.prog ∧ i.vars = [] ∧ Input.okWide C.prog (w.forCall tape i) .any w.heap.size f i ∧
      ((s.pre enc C.prog fn conds apart (w.forCall tape i).memory i.args ∧ X (w.forCall tape i).memory i.args) ∧ sizedMet enc C.prog fn (OpenSpec.ofChange s) apart (w.forCall tape i).memory i.args) ∧ a.holds C.prog (lone (Frame.enter C.prog f i.args .normal) [] (w.forCall tape i)))
    (contract : ∀ (W : World) (base : Nat) (args : Array Value) (ds gs : List (DataW H)) (before : List MemPlace),
      (∀ (j : Nat) t v, fn.params[j]? = some t → args[j]? = some v → Value.okWide C.prog W .any base t v) →
      DataW.Whole enc C.prog fn.params.toList s.vars apart W args.toList ds gs before →
      X W args → W.ShapedOpen C.prog →
      Calls C.prog f args W fun e W' => ∃ v, e = .returned v ∧ s.post enc C.prog fn apart fresh handsOn again W args v W') :
    ReturnsInHanded a C os f .any (fun w args => (s.pre enc C.prog fn conds apart w args ∧ X w args) ∧ sizedMet enc C.prog fn (OpenSpec.ofChange s) apart w args) (s.post enc C.prog fn apart fresh handsOn again) := by
  refine returnsInHanded_of_calls own started noInit witness ?_
  intro w tape i _ hsh _ hok hpre hholds
  obtain ⟨_, _, _, fn', hfn', _, _, _, _, hval⟩ := hok
  have e : fn' = fn := Option.some.inj (hfn'.symm.trans hfn)
  subst e
  obtain ⟨⟨⟨ds, gs, before, hw, hc⟩, hx⟩, hz⟩ := hpre
  have hw' := DataW.Whole.of_heap (w' := w.forCall tape i) (by rfl) hw
  refine (contract (w.forCall tape i) w.heap.size i.args ds gs before hval hw' (hX _ _ _ (by rfl) hx) hsh).mono fun e W' ⟨v, he, hp⟩ => ?_
  subst he
  exact ChangeSpec.post_blind hp

def isLet (s : String) : Bool := s == "unicode/utf8.acceptRanges" || s == "unicode/utf8.first" || s == "cordwood/crc.lowHalf" || s == "cordwood/crc.highHalf"
def laidN : List (String × DataW Unit) := [("unicode/utf8.acceptRanges", Rows.laid_unicode_utf8_acceptRanges), ("cordwood/api.ErrEnd", Rows.laid_cordwood_api_ErrEnd), ("cordwood/api.ErrSum", Rows.laid_cordwood_api_ErrSum), ("cordwood/api.ErrShape", Rows.laid_cordwood_api_ErrShape), ("cordwood/api.ErrMany", Rows.laid_cordwood_api_ErrMany), ("cordwood/api.ErrRange", Rows.laid_cordwood_api_ErrRange), ("cordwood/api.ErrName", Rows.laid_cordwood_api_ErrName), ("cordwood/api.ErrNone", Rows.laid_cordwood_api_ErrNone), ("cordwood/api.ErrThere", Rows.laid_cordwood_api_ErrThere), ("cordwood/api.ErrFull", Rows.laid_cordwood_api_ErrFull), ("cordwood/api.ErrCrash", Rows.laid_cordwood_api_ErrCrash), ("cordwood/api.ErrStore", Rows.laid_cordwood_api_ErrStore), ("cordwood/api.ErrKind", Rows.laid_cordwood_api_ErrKind), ("cordwood/api.ErrState", Rows.laid_cordwood_api_ErrState), ("cordwood/api.ErrFenced", Rows.laid_cordwood_api_ErrFenced), ("cordwood/api.ErrOutside", Rows.laid_cordwood_api_ErrOutside), ("cordwood/api.ErrUnavail", Rows.laid_cordwood_api_ErrUnavail), ("cordwood/api.ErrWord", Rows.laid_cordwood_api_ErrWord), ("cordwood/api.ErrNumber", Rows.laid_cordwood_api_ErrNumber), ("cordwood/api.ErrClosed", Rows.laid_cordwood_api_ErrClosed), ("cordwood/crc.lowHalf", Rows.laid_cordwood_crc_lowHalf), ("cordwood/crc.highHalf", Rows.laid_cordwood_crc_highHalf), ("unicode/utf8.first", Rows.laid_unicode_utf8_first)]
theorem sents_of_n {W : World} (h : laidMetH Tryz.prog laidN W) : ∃ p, Sents W p := by
  have h2 := h.filter (fun x => !isLet x.1)
  rw [MakeChecks.laidMetH_plain _ _ _ (by kernel_rfl)] at h2
  obtain ⟨p, hp⟩ := sents_of_js (W := W) [0, 1, 2, 3, 4, 5, 6, 7, 8, 9, 10, 11, 12, 13, 14, 15, 16, 17, 18] (by decide) h2
  exact ⟨p, hp.mono fun j hj => by simp; omega⟩
theorem tabs_of_n {W : World} (h : laidMetH Tryz.prog laidN W) : Tabs W := by
  have h2 := h.filter (fun x => x.1 == "cordwood/crc.lowHalf" || x.1 == "cordwood/crc.highHalf")
  exact tabs_of_laid h2
def laidQ : List (String × DataW Unit) := [("unicode/utf8.acceptRanges", Rows.laid_unicode_utf8_acceptRanges), ("cordwood/api.ErrMany", Rows.laid_cordwood_api_ErrMany), ("cordwood/api.ErrRange", Rows.laid_cordwood_api_ErrRange), ("cordwood/api.ErrName", Rows.laid_cordwood_api_ErrName), ("cordwood/api.ErrNone", Rows.laid_cordwood_api_ErrNone), ("cordwood/api.ErrStore", Rows.laid_cordwood_api_ErrStore), ("cordwood/crc.lowHalf", Rows.laid_cordwood_crc_lowHalf), ("cordwood/crc.highHalf", Rows.laid_cordwood_crc_highHalf), ("unicode/utf8.first", Rows.laid_unicode_utf8_first)]
theorem sents_of_q {W : World} (h : laidMetH Tryz.prog laidQ W) : ∃ p, SentsOn (fun j => 3 ≤ j ∧ j ≤ 6 ∨ j = 10) W p := by
  have h2 := h.filter (fun x => !isLet x.1)
  rw [MakeChecks.laidMetH_plain _ _ _ (by kernel_rfl)] at h2
  obtain ⟨p, hp⟩ := sents_of_js (W := W) [3, 4, 5, 6, 10] (by decide) h2
  exact ⟨p, hp.mono fun j hj => by simp; omega⟩
theorem tabs_of_q {W : World} (h : laidMetH Tryz.prog laidQ W) : Tabs W := by
  have h2 := h.filter (fun x => x.1 == "cordwood/crc.lowHalf" || x.1 == "cordwood/crc.highHalf")
  exact tabs_of_laid h2
end Go.Proofs.YtegaahcelogmlaaGreatDoor
