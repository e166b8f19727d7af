/-
  A slice of numbers of 64 bits in memory.
  What a row's reading says of an argument of numbers of 64 bits, and of texts.
  PointMany: what it stands on: four names, what each has, in rows of the statement's own.
  PointMany walked.
  PointMany, proved: what is kept under several names stays apart, whatever the power does to one of them.
-/
import Derived.Test.YtfjanenooembkaaDoorQ1
import Derived.Deep.Matrix
import Derived.Test.YtfjanenooembkaaDoorQ8
import Derived.Deep.DeepCutAuto
import Derived.Deep.CutBlock
import Derived.Deep.CutRange
import Derived.StillTailTactics
import Derived.Test.YtfjanenooembkaaDoorQ8b
namespace Go.Proofs.YtfjanenooembkaaDoor
open Go.RowKit

/-- A slice that reads as these numbers of 64 bits. -/
def Nums (w : World) (A : Option Addr) (us : List Nat) : Prop :=
  us = [] ∨ ∃ b off, A = some ⟨b, off, none⟩ ∧ b < w.heap.size ∧ ∀ k, k < us.length → w.cell? ⟨b, off + k, none⟩ = some (.int .u64 (us.getD k 0 : Nat))
end Go.Proofs.YtfjanenooembkaaDoor

namespace Go.Proofs.YtfjanenooembkaaDoor
open Go.RowKit Go.ChangeShapes Go.WideShapes Go.ChangeAt

theorem cells_i64 : Tryd.prog.cellsOf 2 = 1 := by kernel_rfl
theorem cells_u64 : Tryd.prog.cellsOf 52 = 1 := by kernel_rfl
theorem cells_bytes : Tryd.prog.cellsOf 22 = 1 := by kernel_rfl

/-- A slice of integers of one kind. -/
theorem kinds_of {H : Type} {enc : TypeId × Value → H} {W : World} {base : Nat} {spare : Nat → Bool} {held : Bool} {a : Option Addr} {len cap : Nat} {d : DataW H} {p : List MemPlace} {t e : TypeId} {K : IntKind}
    (ht : Tryd.prog.underlying t = some (.slice e)) (he : Tryd.prog.underlying e = some (.int K)) (ce : Tryd.prog.cellsOf e = 1)
    (h : DataW.Trod enc Tryd.prog W base spare held t (.slice a len cap) d p) : ∃ zs : List Int, zs.length = len ∧ len ≤ cap ∧ cap ≤ 9223372036854775807 ∧ (∀ k, k < len → (Lit.int K (zs.getD k 0)).wf = true) ∧
      (zs = [] ∨ ∃ b off, a = some ⟨b, off, none⟩ ∧ b < W.heap.size ∧ ∀ k, k < zs.length → W.cell? ⟨b, off + k, none⟩ = some (.int K (zs.getD k 0))) := by
  obtain ⟨fuel, hf⟩ := h
  rcases open_ints ht he ce hf with ⟨hcs, _⟩ | ⟨x, l, c, zs, hcs, _, hl, hm, hz, _, hcell, hwz⟩
  · simp [Value.cells] at hcs
    obtain ⟨rfl, rfl, rfl⟩ := hcs
    exact ⟨[], rfl, Nat.le_refl _, by omega, fun k hk => by omega, .inl rfl⟩
  · simp [Value.cells] at hcs
    obtain ⟨rfl, rfl, rfl⟩ := hcs
    have hzl : len ≤ zs.length := by split at hz <;> omega
    have e : ∀ k, k < len → (zs.take len).getD k 0 = zs.getD k 0 := fun k hk => by simp [List.getD, hk]
    refine ⟨zs.take len, by simp; omega, hl, by simpa [maxLen] using hm, fun k hk => ?_, ?_⟩
    · rw [e k hk]
      have hmem : zs.getD k 0 ∈ zs := by
        simp only [List.getD, List.getElem?_eq_getElem (show k < zs.length by omega), Option.getD_some]
        exact List.getElem_mem _
      exact hwz _ hmem
    · by_cases h0 : len = 0
      · subst h0; exact .inl (by simp)
      · obtain ⟨b, off, spot⟩ := x
        have hc := hcell 0 (by omega)
        have hspot : spot = none := by simpa [Addr.add] using World.cell?_spot hc
        subst hspot
        refine .inr ⟨b, off, rfl, ?_, fun k hk => ?_⟩
        · rcases Nat.lt_or_ge b W.heap.size with h | h
          · exact h
          · exfalso
            simp [World.cell?, Addr.add, Array.getElem?_eq_none h] at hc
        · have hk' : k < len := by simp at hk; omega
          have hck := hcell k (by omega)
          rw [Addr.add_lit] at hck
          rw [hck, e k hk']
theorem longs_of {H : Type} {enc : TypeId × Value → H} {W : World} {base : Nat} {spare : Nat → Bool} {held : Bool} {a : Option Addr} {len cap : Nat} {d : DataW H} {p : List MemPlace}
    (h : DataW.Trod enc Tryd.prog W base spare held 49 (.slice a len cap) d p) : ∃ zs : List Int, zs.length = len ∧ len ≤ cap ∧ cap ≤ 9223372036854775807 ∧ Ints W a zs ∧ ∀ k, k < len → -9223372036854775808 ≤ zs.getD k 0 ∧ zs.getD k 0 ≤ 9223372036854775807 := by
  obtain ⟨zs, h1, h2, h3, h4, h5⟩ := kinds_of Tryd.underlying49 Tryd.underlying2 cells_i64 h
  exact ⟨zs, h1, h2, h3, h5, fun k hk => bounds_i64 (h4 k hk)⟩
theorem reads_of_ints {W : World} {a : Addr} {zs : List Int} {n cap : Nat} (hl : n ≤ cap) (hz : zs.length = cap) (hw : ∀ z ∈ zs, (Lit.int .u8 z).wf = true) (hcell : ∀ c, c < cap → W.cell? (a.add c) = some (.int .u8 (zs.getD c 0))) :
    Reads W (some a) ((zs.take n).map fun z => UInt8.ofNat z.toNat) := by
  by_cases h0 : n = 0
  · subst h0; exact .inl (by simp)
  · obtain ⟨b, off, spot⟩ := a
    have hc := hcell 0 (by omega)
    have hspot : spot = none := by simpa [Addr.add] using World.cell?_spot hc
    subst hspot
    refine .inr ⟨b, off, rfl, ?_, fun k hk => ?_⟩
    · rcases Nat.lt_or_ge b W.heap.size with h | h
      · exact h
      · exfalso
        simp [World.cell?, Addr.add, Array.getElem?_eq_none h] at hc
    · have hk' : k < n := by simp at hk; omega
      have hck := hcell k (by omega)
      rw [Addr.add_lit] at hck
      rw [hck]
      congr 2
      have hmem : zs.getD k 0 ∈ zs := by
        simp only [List.getD, List.getElem?_eq_getElem (show k < zs.length by omega), Option.getD_some]
        exact List.getElem_mem _
      have hb := bounds_u8 (hw _ hmem)
      have e : ((zs.take n).map fun z => UInt8.ofNat z.toNat).getD k 0 = UInt8.ofNat (zs.getD k 0).toNat := by
        simp [List.getD, hk', show k < zs.length by omega]
      rw [e]
      unfold B
      rw [UInt8.toNat_ofNat']
      omega

theorem texts_of {H : Type} {enc : TypeId × Value → H} {W : World} {base : Nat} {held : Bool} {a : Option Addr} {len cap : Nat} {d : DataW H} {p : List MemPlace}
    (h : DataW.Trod enc Tryd.prog W base (fun _ => true) held 66 (.slice a len cap) d p) : ∃ ps : List Part, ps.length = len ∧ len ≤ cap ∧ cap ≤ 9223372036854775807 ∧ ReadsAll W a ps := by
  obtain ⟨fuel, hf⟩ := h
  rcases Go.Deep.open_int_rows Tryd.underlying66 Tryd.underlying22 Tryd.underlying5 cells_bytes cells_u8 hf with ⟨hcs, _⟩ | ⟨x, l, c, A, L, C, Z, hcs, _, hl, hm, _, hrow⟩
  · simp [Value.cells] at hcs
    obtain ⟨rfl, rfl, rfl⟩ := hcs
    exact ⟨[], rfl, Nat.le_refl _, by omega, .inl rfl⟩
  · simp [Value.cells] at hcs
    obtain ⟨rfl, rfl, rfl⟩ := hcs
    refine ⟨(List.range len).map fun r => ⟨A r, C r, ((Z r).take (L r)).map fun z => UInt8.ofNat z.toNat⟩, by simp, hl, by simpa [maxLen] using hm, ?_⟩
    by_cases h0 : len = 0
    · subst h0; exact .inl (by simp)
    · obtain ⟨b, off, spot⟩ := x
      have hc := (hrow 0 (by omega)).1
      have hspot : spot = none := by simpa [Addr.add] using World.cell?_spot hc
      subst hspot
      refine .inr ⟨b, off, rfl, ?_, fun k hk => ?_⟩
      · rcases Nat.lt_or_ge b W.heap.size with h | h
        · exact h
        · exfalso
          simp [World.cell?, Addr.add, Array.getElem?_eq_none h] at hc
      · have hk' : k < len := by simpa using hk
        obtain ⟨r1, r2, r3, r4, r5, r6, r7⟩ := hrow k (by omega)
        have hlen : (((Z k).take (L k)).map fun z => UInt8.ofNat z.toNat).length = L k := by simp; omega
        rw [Addr.add_lit] at r1
        simp only [List.getElem_map, List.getElem_range]
        refine ⟨?_, ?_, ?_⟩
        · rw [r1]; unfold Part.val; simp only; rw [hlen]
        · rw [hlen]; have : C k ≤ maxLen := r3; unfold maxLen at this; omega
        · cases hA : A k with
          | none =>
            refine .inl (List.eq_nil_of_length_eq_zero ?_)
            rw [hlen]; have := r6 hA; omega
          | some a' => exact reads_of_ints r2 r4 r5 (r7 a' hA).2
end Go.Proofs.YtfjanenooembkaaDoor

namespace Go.Proofs.YtfjanenooembkaaDoor
open Go.RowKit Go.Maps Go.Sort

set_option maxRecDepth 100000 in
set_option maxHeartbeats 400000 in
theorem few12_any (A : Option Addr) (cap : Nat) (ps : List Part) (w : World) (hr : ReadsAll w A ps) (hc : ps.length ≤ 9223372036854775807) (good : Bool) (hg : good = true ↔ (ps.length ≤ 12 ∧ ∀ q ∈ ps, q.l.length ≤ 60)) :
    Calls Tryd.prog 36 #[.slice A ps.length cap, .int .i64 12, .int .i64 60] w fun e w' => e = .returned (.bool good) ∧ w = w' := by
  have HR := hide hr
  have HG := hide hg
  clear hr hg
  by_cases h12 : 12 < ps.length
  · have hgf : good = false := by
      cases good
      · rfl
      · have := (HG.out.1 rfl).1; omega
    subst hgf
    go_enter Tryd.func36, Tryd.ntmps36
    go_wp2_with fail
    go_ret
    exact ⟨rfl, rfl⟩
  · go_enter Tryd.func36, Tryd.ntmps36
    go_wp2_with fail
    go_loop [7] (fun i => ∃ k : Nat, k ≤ ps.length ∧ i = .int .i64 k ∧ ∀ q ∈ ps.take k, q.l.length ≤ 60) (fun i => ps.length - (intOf i).toNat)
    case atStart => exact ⟨0, Nat.zero_le _, rfl, fun q hq => by simp at hq⟩
    case round =>
      obtain ⟨k, hk, rfl, hq⟩ := hrel
      have HQ := hide hq
      clear hq
      by_cases hlt : k < ps.length
      · rcases HR.out with rfl | ⟨b, off, rfl, hb, hcl⟩
        · simp at hlt
        obtain ⟨hcell, hlen, -⟩ := hcl k hlt
        have HTK := hide (List.take_succ_eq_append_getElem (l := ps) hlt)
        have HIN := hide (List.getElem_mem hlt)
        unfold Part.val at hcell
        clear hcl
        generalize ps[k] = q at *
        by_cases h60 : 60 < q.l.length
        · have hgf : good = false := by
            cases good
            · rfl
            · have := (HG.out.1 rfl).2 q HIN.out; omega
          subst hgf
          go_wp2_with fail
          go_ret
          exact ⟨rfl, rfl⟩
        · have H60 := hide h60
          go_wp2_with fail
          go_round
          case rel => exact ⟨k + 1, by omega, by go_num, fun x hx => by
            rw [HTK.out] at hx
            rcases List.mem_append.1 hx with h | h
            · exact HQ.out x h
            · obtain rfl := List.mem_singleton.1 h
              have := H60.out; omega⟩
          case measure => simp [intOf]; omega
      · obtain rfl : k = ps.length := by omega
        have hgt : good = true := by
          refine HG.out.2 ⟨by omega, ?_⟩
          have := HQ.out
          rwa [List.take_length] at this
        subst hgt
        go_wp2_with fail
        go_ret
        exact ⟨rfl, rfl⟩


theorem cell_alloc_atB (w : World) (C : Array Value) (t : TypeId) (n j : Nat) (hn : n = w.heap.size) : (w.alloc (.cells C t)).cell? ⟨n, j, none⟩ = C[j]? := by
  subst hn; exact World.cell?_alloc_mark _ _ _ _ _
theorem madeCells_getB (z : Array Value) (n i : Nat) (h : i < n) : (madeCells z n)[i]? = some (z[i % z.size]!) := by
  unfold madeCells
  rw [Array.getElem?_map, Array.getElem?_range]
  simp [h]
theorem ReadsAll.at_ {w : World} {A : Option Addr} {ps : List Part} (h : ReadsAll w A ps) (k : Nat) (hk : k < ps.length) : ∃ b off, A = some ⟨b, off, none⟩ ∧ b < w.heap.size ∧ w.cell? ⟨b, off + k, none⟩ = some ps[k].val ∧ Reads w ps[k].a ps[k].l := by
  rcases h with h | ⟨b, off, e, hlt, hc⟩
  · rw [h] at hk; simp at hk
  · exact ⟨b, off, e, hlt, (hc k hk).1, (hc k hk).2.2⟩
theorem SessS.kept {S : Nat → Prop} {w0 w w' : World} {n Bd : Nat} {s : Dk.St} (h : SessS S w0 n Bd s w) (hz : w.heap.size ≤ w'.heap.size) (hk : ∀ k, S k → k < w.heap.size → w'.heap[k]? = w.heap[k]?) (hb : Below w0.heap.size w w') : SessS S w0 n Bd s w' :=
  ⟨h.disk.kept hk, fun k hk => by have := h.lo k hk; omega, h.below.trans hb, h.small⟩
/-- Four names, what each has, and whether it has: rows of the statement's own. -/
structure Mr (w0 : World) (S : Nat → Prop) (g : Nat) (H : Nat → Option Dk.Nm) (w : World) : Prop where
  lo : w0.heap.size ≤ g
  top : g + 3 ≤ w.heap.size
  out : ∀ k, g ≤ k → k < g + 3 → ¬ S k
  nm : ∀ k, k < 4 → w.cell? ⟨g, k, none⟩ = some (encStr (Dk.mn k))
  hv : ∀ k, k < 4 → ∃ A n c, w.cell? ⟨g + 1, k, none⟩ = some (.slice A n c) ∧ n ≤ 60 ∧ ((H k).getD []).length = n ∧ Reads w0 A ((H k).getD [])
  sm : ∀ k, k < 4 → w.cell? ⟨g + 2, k, none⟩ = some (.bool (H k).isSome)
  fz : ∀ k, w.frozen? ⟨g + 1, k, none⟩ = false ∧ w.frozen? ⟨g + 2, k, none⟩ = false
section
variable {w0 w w' : World} {S S' : Nat → Prop} {g n Bd : Nat} {s : Dk.St} {H : Nat → Option Dk.Nm}
theorem Mr.chg (h : Mr w0 S g H w) (hc : Chg S w w') (hS : ∀ k, S' k → Up S w w' k) : Mr w0 S' g H w' := by
  have hz := hc.size
  have o0 := h.out g (Nat.le_refl _) (by omega)
  have o1 := h.out (g + 1) (by omega) (by omega)
  have o2 := h.out (g + 2) (by omega) (by omega)
  have ht := h.top
  refine ⟨h.lo, by omega, fun k h1 h2 hk => ?_, fun k hk => hc.cell (h.nm k hk) o0, fun k hk => ?_, fun k hk => hc.cell (h.sm k hk) o2, fun k => ⟨?_, ?_⟩⟩
  · rcases hS k hk with h3 | h3
    · exact h.out k h1 h2 h3
    · omega
  · obtain ⟨A, n, c, e, r⟩ := h.hv k hk
    exact ⟨A, n, c, hc.cell e o1, r⟩
  · exact (World.frozen?_of_block (a := ⟨g + 1, k, none⟩) (hc.block (g + 1) (by omega) o1)).trans (h.fz k).1
  · exact (World.frozen?_of_block (a := ⟨g + 2, k, none⟩) (hc.block (g + 2) (by omega) o2)).trans (h.fz k).2
theorem Mr.quiet (h : Mr w0 S g H w) (hb : Below w.heap.size w w') : Mr w0 S g H w' := h.chg (Chg.of_below hb) fun _ hk => .inl hk
theorem Mr.ptr (h : Mr w0 S g H w) (hs : SessS S w0 n Bd s w) (i : Nat) (v : Value) (j : Nat) (hj : j < 3) : SessS S w0 n Bd s (w.setCell ⟨g + j, i, none⟩ v) := by
  have hlo := h.lo
  refine hs.kept (by simp) (fun k hk _ => Below.heap_setCell _ _ _ _ fun e => h.out (g + j) (by omega) (by omega) (by have e2 : k = g + j := e; rwa [e2] at hk)) ((Chg.setCell (S := fun k => k = g + j) w (g + j) i v rfl).below hs.below.size fun k hk => by omega)
theorem Mr.put (h : Mr w0 S g H w) (k : Nat) (hk : k < 4) (A : Option Addr) (n c : Nat) (b : Dk.Nm) (hn : b.length = n) (hn6 : n ≤ 60) (hr : Reads w0 A b) :
    Mr w0 S g (fun j => if j = k then some b else H j) ((w.setCell ⟨g + 1, k, none⟩ (.slice A n c)).setCell ⟨g + 2, k, none⟩ (.bool true)) := by
  have ht := h.top
  have ot : ∀ {i j x y : Nat} {u : Value} {W : World}, i ≠ j → (W.setCell ⟨j, y, none⟩ u).cell? ⟨i, x, none⟩ = W.cell? ⟨i, x, none⟩ := fun hne => World.cell?_setCell_other _ _ _ _ (by intro e; injection e with e _; exact hne e.symm)
  refine ⟨h.lo, by simpa using ht, h.out, fun j hj => ?_, fun j hj => ?_, fun j hj => ?_, fun j => ⟨?_, ?_⟩⟩
  · rw [ot (by omega), ot (by omega)]; exact h.nm j hj
  · rw [ot (by omega)]
    by_cases e : j = k
    · subst e
      obtain ⟨A', n', c', e', -⟩ := h.hv j hj
      refine ⟨A, n, c, World.cell?_setCell_same _ _ _ e', hn6, ?_, ?_⟩
      · simp [hn]
      · simpa using hr
    · obtain ⟨A', n', c', e', r⟩ := h.hv j hj
      rw [World.cell?_setCell_other _ _ _ _ (by intro e2; injection e2 with _ e2 _; exact e e2.symm)]
      refine ⟨A', n', c', e', ?_⟩
      simpa [e] using r
  · by_cases e : j = k
    · subst e
      have e' : (w.setCell ⟨g + 1, j, none⟩ (.slice A n c)).cell? ⟨g + 2, j, none⟩ = some (.bool (H j).isSome) := (ot (by omega)).trans (h.sm j hj)
      rw [World.cell?_setCell_same _ _ _ e']
      simp
    · rw [World.cell?_setCell_other _ _ _ _ (by intro e2; injection e2 with _ e2 _; exact e e2.symm), ot (by omega), h.sm j hj]
      simp [e]
  · exact (World.frozen?_setCell _ _ _ _).trans ((World.frozen?_setCell _ _ _ _).trans (h.fz j).1)
  · exact (World.frozen?_setCell _ _ _ _).trans ((World.frozen?_setCell _ _ _ _).trans (h.fz j).2)
end

theorem bytess_info : (Tryd.prog.info? 22).map (fun i => (i.zero, i.size, i.bytes)) = some (some (.slice none 0 0), 1, 24) := by kernel_rfl
theorem bool_infoM : (Tryd.prog.info? 4).map (fun i => (i.zero, i.size, i.bytes)) = some (some (.bool false), 1, 1) := by kernel_rfl
theorem make_texts4 : ∃ CS : Array Value, (∀ k, k < 4 → CS[k]? = some (.slice none 0 0)) ∧
    ∀ W, (Instr.makeSlice 66 (.int .i64 4) (.int .i64 4)).run Tryd.prog W = .ok (.slice (some ⟨W.heap.size, 0, none⟩) 4 4) (W.alloc (.cells CS 22)) := by
  obtain ⟨i, hi, hz, hs1, hby⟩ := info_parts bytess_info
  refine ⟨madeCells #[.slice none 0 0] (4 * 1), fun k hk => ?_, fun W => ?_⟩
  · rw [madeCells_getB _ _ _ (by omega)]
    have e : k % (#[.slice none 0 0] : Array Value).size = 0 := by
      show k % 1 = 0
      omega
    rw [e]
    rfl
  · have h := run_make (P := Tryd.prog) W 66 22 i _ Tryd.underlying66 hi hz .i64 .i64 4 4 (by omega) (by omega) (by rw [hby]; omega) (by omega)
    rw [h, hs1]
    rfl
theorem make_bools4 : ∃ CS : Array Value, (∀ k, k < 4 → CS[k]? = some (.bool false)) ∧
    ∀ W, (Instr.makeSlice 68 (.int .i64 4) (.int .i64 4)).run Tryd.prog W = .ok (.slice (some ⟨W.heap.size, 0, none⟩) 4 4) (W.alloc (.cells CS 4)) := by
  obtain ⟨i, hi, hz, hs1, hby⟩ := info_parts bool_infoM
  refine ⟨madeCells #[.bool false] (4 * 1), fun k hk => ?_, fun W => ?_⟩
  · rw [madeCells_getB _ _ _ (by omega)]
    have e : k % (#[.bool false] : Array Value).size = 0 := by
      show k % 1 = 0
      omega
    rw [e]
    rfl
  · have h := run_make (P := Tryd.prog) W 68 4 i _ Tryd.underlying68 hi hz .i64 .i64 4 4 (by omega) (by omega) (by rw [hby]; omega) (by omega)
    rw [h, hs1]
    rfl
/-- The three rows as they are made. -/
theorem Mr.new {w0 w : World} {S : Nat → Prop} (CN CH CS : Array Value) (tN tH tS : TypeId) (hlo : w0.heap.size ≤ w.heap.size) (hS : ∀ k, S k → k < w.heap.size) (hN : ∀ k, k < 4 → CN[k]? = some (encStr (Dk.mn k))) (hH : ∀ k, k < 4 → CH[k]? = some (.slice none 0 0)) (hB : ∀ k, k < 4 → CS[k]? = some (.bool false)) :
    Mr w0 S w.heap.size (fun _ => none) (((w.alloc (.cells CN tN)).alloc (.cells CH tH)).alloc (.cells CS tS)) := by
  have z1 : (w.alloc (.cells CN tN)).heap.size = w.heap.size + 1 := by simp
  have z2 : ((w.alloc (.cells CN tN)).alloc (.cells CH tH)).heap.size = w.heap.size + 2 := by simp
  refine ⟨hlo, by simp, fun k h1 _ hk => ?_, fun k hk => ?_, fun k hk => ⟨none, 0, 0, ?_, by omega, rfl, .inl rfl⟩, fun k hk => ?_, fun k => ⟨?_, ?_⟩⟩
  · have := hS k hk; omega
  · rw [World.cell?_alloc_lt _ _ ⟨_, k, none⟩ (by rw [z2]; show w.heap.size < _; omega), World.cell?_alloc_lt _ _ ⟨_, k, none⟩ (by rw [z1]; show w.heap.size < _; omega), World.cell?_alloc_mark, hN k hk]
  · rw [World.cell?_alloc_lt _ _ ⟨_, k, none⟩ (by rw [z2]; show w.heap.size + 1 < _; omega), cell_alloc_atB _ _ _ _ _ z1.symm, hH k hk]
  · rw [cell_alloc_atB _ _ _ _ _ z2.symm, hB k hk]; rfl
  · have e : ((w.alloc (.cells CN tN)).alloc (.cells CH tH)).heap[w.heap.size + 1]? = some (.cells CH tH) := by rw [← z1]; exact heap_alloc_new _ _
    rw [frozen?_alloc_cells]
    exact box_free e k
  · have e : (((w.alloc (.cells CN tN)).alloc (.cells CH tH)).alloc (.cells CS tS)).heap[w.heap.size + 2]? = some (.cells CS tS) := by rw [← z2]; exact heap_alloc_new _ _
    exact box_free e k
end Go.Proofs.YtfjanenooembkaaDoor

namespace Go.Proofs.YtfjanenooembkaaDoor
open Go.RowKit Go.Maps Go.Sort

/-- What a Write that the power left may have come to. -/
def Dk.Falls (s : Dk.St) (H : Nat → Option Dk.Nm) (j : Nat) (b : Dk.Nm) : Prop := ∀ picks ys, Dk.Order (s.settle (Dk.pick picks 0 s.since.length)) (s.settle (Dk.pick picks 0 s.since.length)).dur ys → (∀ k ∈ ys, (s.files k).synced ≤ (s.files k).bytes.length) →
      Dk.Ends (s.crash picks ys) H ∨ Dk.Ends (s.crash picks ys) (fun i => if i = j then some b else H i)
/-- The disk and the rows behind so many Writes, the last of which the power may have left. -/
def Mid (w1 : World) (Bd g k : Nat) (la nx : Value) (w : World) : Prop := ∃ S n s H, SessS S w1 n Bd s w ∧ n ≤ 6 * k ∧ Mr w1 S g H w ∧
  ((∃ c, Dk.Many s k c H ∧ la = .int .i64 (-1) ∧ nx = .slice none 0 0) ∨
   (s.down = true ∧ ∃ j A m c b, j < 4 ∧ la = .int .i64 (j : Nat) ∧ nx = .slice A m c ∧ m ≤ 60 ∧ b.length = m ∧ Reads w1 A b ∧ Dk.Falls s H j b))
/-- What the crash left: what there was, but where the power went. -/
theorem Mid.after {w1 : World} {s : Dk.St} {H : Nat → Option Dk.Nm} {la nx : Value} (h : (∃ c k, Dk.Many s k c H ∧ la = .int .i64 (-1) ∧ nx = .slice none 0 0) ∨ (s.down = true ∧ ∃ j A m c b, j < 4 ∧ la = .int .i64 (j : Nat) ∧ nx = .slice A m c ∧ m ≤ 60 ∧ b.length = m ∧ Reads w1 A b ∧ Dk.Falls s H j b)) (zs : List Int) (ys : List Nat) (hy : Dk.Order (s.settle (Dk.pick zs 0 s.since.length)) (s.settle (Dk.pick zs 0 s.since.length)).dur ys) (hyr : ∀ k ∈ ys, (s.files k).synced ≤ (s.files k).bytes.length) :
    ∃ H', Dk.Ends (s.crash zs ys) H' ∧ ∀ k, k < 4 → H' k = H k ∨ (la = .int .i64 (k : Nat) ∧ ∃ b A m c, H' k = some b ∧ nx = .slice A m c ∧ m ≤ 60 ∧ b.length = m ∧ Reads w1 A b) := by
  rcases h with ⟨c, k, hm, -, -⟩ | ⟨-, j, A, m, c, b, hj, rfl, rfl, hm, hb, hr, hf⟩
  · exact ⟨H, hm.crash zs ys hy hyr, fun k _ => .inl rfl⟩
  · rcases hf zs ys hy hyr with h | h
    · exact ⟨H, h, fun k _ => .inl rfl⟩
    · refine ⟨_, h, fun k _ => ?_⟩
      by_cases e : k = j
      · subst e; exact .inr ⟨rfl, b, A, m, c, by simp, rfl, hm, hb, hr⟩
      · exact .inl (by simp [e])
theorem Mr.ptr' {w1 w w' : World} {S : Nat → Prop} {n Bd g i : Nat} {s : Dk.St} {H H' : Nat → Option Dk.Nm} {u : Value} (_ : Mr w1 S g H w') (hs : SessS S w1 n Bd s (w.setCell ⟨g + 1, i, none⟩ u)) (hm : Mr w1 S g H' w) (j : Nat) (v : Value) : SessS S w1 n Bd s ((w.setCell ⟨g + 1, i, none⟩ u).setCell ⟨g + 2, j, none⟩ v) := by
  have hlo := hm.lo
  refine hs.kept (by simp) (fun k hk _ => Below.heap_setCell _ _ _ _ fun e => hm.out (g + 2) (by omega) (by omega) (by have e2 : k = g + 2 := e; rwa [e2] at hk)) ((Chg.setCell (S := fun k => k = g + 2) _ (g + 2) j v rfl).below hs.below.size fun k hk => by omega)
theorem Reads.apart {S : Nat → Prop} {w1 w : World} {n Bd : Nat} {s : Dk.St} (h : SessS S w1 n Bd s w) {A : Option Addr} {b : List UInt8} (hr : Reads w1 A b) : ∀ x o, A = some ⟨x, o, none⟩ → b ≠ [] → ¬ S x := fun x o e hb hS => by
  rcases hr with h0 | ⟨x', o', e', hlt, -⟩
  · exact hb h0
  · rw [e'] at e
    injection e with e
    injection e with e _ _
    have := (h.lo x hS).1
    omega
theorem Reads.belowB {C : Nat} {w w' : World} {A : Option Addr} {b : List UInt8} (h : Reads w A b) (hb : Below C w w') (hC : w.heap.size ≤ C) : Reads w' A b := by
  rcases h with h | ⟨x, o, e, hlt, hc⟩
  · exact .inl h
  · exact .inr ⟨x, o, e, Nat.lt_of_lt_of_le hlt hb.size, fun j hj => (hb.cell (p := ⟨x, o + j, none⟩) (by show x < C; omega)).trans (hc j hj)⟩
theorem ReadsAll.belowB {w w' : World} {C : Nat} {A : Option Addr} {ps : List Part} (h : ReadsAll w A ps) (hb : Below C w w') (hC : w.heap.size ≤ C) : ReadsAll w' A ps := by
  rcases h with h | ⟨b, off, e, hlt, hc⟩
  · exact .inl h
  · exact .inr ⟨b, off, e, Nat.lt_of_lt_of_le hlt hb.size, fun k hk => ⟨(hb.cell (p := ⟨b, off + k, none⟩) (by show b < C; omega)).trans (hc k hk).1, (hc k hk).2.1, (hc k hk).2.2.belowB hb hC⟩⟩

set_option maxRecDepth 100000 in
set_option maxHeartbeats 4000000 in
theorem pointMany_any (w : World) (p : Nat → Addr) (hs : SentsP w p) (ht : Tabs w) (Al Aw Az : Option Addr) (cl cw cz nl nw nz : Nat) (ps : List Part) (us zs : List Int) (am : Int) (hnl : ps.length = nl) (hnw : us.length = nw) (hnz : zs.length = nz) (hlm : nl ≤ 9223372036854775807)
    (hl : ReadsAll w Al ps) (hw : IntsArg w Aw cw us) (hz : IntsArg w Az cz zs) (ham : -9223372036854775808 ≤ am ∧ am ≤ 9223372036854775807) :
    Calls Tryd.prog 7 #[.slice Al nl cl, .slice Aw nw cw, .int .i64 am, .slice Az nz cz] w fun e w' => e = .returned (.bool true) ∧ Below w.heap.size w w' := by
  have HFI := hide (ptFirst_any w)
  have HS := hide hs
  have HT := hide ht
  have HW4 : Hid (4 ≤ w.heap.size) := hide ht.size
  have HL := hide hl
  have HW := hide hw
  have HZ := hide hz
  have HNL := hide hnl
  have HNW := hide hnw
  have HNZ := hide hnz
  clear hs ht hl hw hz hnl hnw hnz
  obtain ⟨good, hgd⟩ : ∃ good : Bool, good = true ↔ (ps.length ≤ 12 ∧ ∀ q ∈ ps, q.l.length ≤ 60) := ⟨decide (ps.length ≤ 12 ∧ ∀ q ∈ ps, q.l.length ≤ 60), by simp⟩
  have hfew := fun (W : World) (hb : Below w.heap.size w W) => few12_any Al cl ps W (HL.out.belowB hb (Nat.le_refl _)) (by rw [HNL.out]; exact hlm) good hgd
  rw [HNL.out] at hfew
  have HFEW := hide hfew
  have HGD := hide hgd
  clear hfew hgd
  cases good with
  | false =>
    go_enter Tryd.func7, Tryd.ntmps7
    go_wp2_with (first
      | (go_at_call 9; refine HFI.out.mono ?_; rintro e w1 ⟨rfl, hb1⟩; have HB1 := hide hb1; clear hb1)
      | (go_at_call 36; refine (HFEW.out w1 HB1.out).mono ?_; rintro e wv ⟨rfl, hwv⟩; obtain rfl : w1 = wv := hwv)
      | fail)
    go_ret
    exact ⟨rfl, HB1.out⟩
  | true =>
  obtain ⟨hl12, hq60⟩ := HGD.out.1 rfl
  rw [HNL.out] at hl12
  have HQ := hide hq60
  clear hq60 HGD
  by_cases lw : 12 < nw
  · go_enter Tryd.func7, Tryd.ntmps7
    go_wp2_with (first
      | (go_at_call 9; refine HFI.out.mono ?_; rintro e w1 ⟨rfl, hb1⟩; have HB1 := hide hb1; clear hb1)
      | (go_at_call 36; refine (HFEW.out w1 HB1.out).mono ?_; rintro e wv ⟨rfl, hwv⟩; obtain rfl : w1 = wv := hwv)
      | fail)
    go_ret
    exact ⟨rfl, HB1.out⟩
  by_cases lz : 8 < nz
  · go_enter Tryd.func7, Tryd.ntmps7
    go_wp2_with (first
      | (go_at_call 9; refine HFI.out.mono ?_; rintro e w1 ⟨rfl, hb1⟩; have HB1 := hide hb1; clear hb1)
      | (go_at_call 36; refine (HFEW.out w1 HB1.out).mono ?_; rintro e wv ⟨rfl, hwv⟩; obtain rfl : w1 = wv := hwv)
      | fail)
    go_ret
    exact ⟨rfl, HB1.out⟩
  have HNW2 := hide (fun W => new_sessS 65536 W W (Below.refl _ _) (by omega) (by omega))
  have hltN : num am 70 < 70 := num_lt am 70 (by omega)
  obtain ⟨N, hN⟩ : ∃ N, num am 70 = N := ⟨_, rfl⟩
  rw [hN] at hltN
  have HNN := hide hN
  clear hN
  obtain ⟨CH, hCH, mkH⟩ := make_texts4
  obtain ⟨CB, hCB, mkB⟩ := make_bools4
  have HCH := hide hCH
  have HCB := hide hCB
  clear hCH hCB
  go_enter Tryd.func7, Tryd.ntmps7
  have HNMS : Hid (∀ k, k < 4 → (#[Value.string ⟨#[97]⟩, Value.string ⟨#[98]⟩, Value.string ⟨#[99]⟩, Value.string ⟨#[100]⟩] : Array Value)[k]? = some (encStr (Dk.mn k))) := hide (fun k hk => by match k, hk with | 0, _ => rfl | 1, _ => rfl | 2, _ => rfl | 3, _ => rfl)
  go_upto_block 0 with (first
    | (go_at_call 9; refine HFI.out.mono ?_; rintro e w1 ⟨rfl, hb1⟩; have HB1 := hide hb1; have HL1 := hide (HL.out.belowB hb1 (Nat.le_refl _)); have HW1 := hide (HW.out.below hb1 (Nat.le_refl _)); have HZ1 := hide (HZ.out.below hb1 (Nat.le_refl _)); have HS1 : Hid (SentsP w1 p) := hide ((HS.out.below hb1).mono fun j hj => by omega); have HT1 := hide (HT.out.below hb1 (Nat.le_refl _)); have HW41 : Hid (4 ≤ w1.heap.size) := hide (Nat.le_trans HW4.out hb1.size); clear hb1)
    | (go_at_call 36; refine (HFEW.out w1 HB1.out).mono ?_; rintro e wv ⟨rfl, hwv⟩; obtain rfl : w1 = wv := hwv)
    | (go_at_call 10; refine (HNW2.out w1).mono ?_; rintro e w2 ⟨Bd, rfl, h2, -⟩; have H2 := hide h2; clear h2)
    | (have _t := H2; go_at_call 14; refine (num_at am 70 70 _ rfl (by omega) (by omega) ham.1 ham.2).mono ?_; rintro e wv ⟨rfl, rfl⟩; rw [HNN.out])
    | (go_at_call 15; rw [show w2.heap.size + 1 + 1 = w2.heap.size + 2 from rfl]; refine ((H2.out.grow (balloc (balloc (balloc (Below.refl _ _) _) _) _)).armS (N : Int) (by omega)).mono ?_; rintro e w4 ⟨rfl, h4, hc4⟩; have H4 := hide h4; have HM4 := hide ((Mr.new (w0 := w1) _ CH CB _ _ _ H2.out.below.size (fun k hk => (H2.out.lo k hk).2) HNMS.out HCH.out HCB.out).chg hc4 (fun _ hk => .inl hk)); clear h4 hc4)
    | fail)
  generalize w2.heap.size = g at *
  have HNEW := hide (Dk.Many.new (N : Int) (by omega))
  clear HFEW HFI H2 HNW2 HNMS mkH mkB HCH HCB
  go_cut [15, 16] (fun la nx wx => ∃ k, k ≤ 12 ∧ Mid w1 Bd g k la nx wx)
  case first =>
    go_wp2_with fail
    go_loopw [15, 16, 17] (fun la nx i wr => ∃ k : Nat, k ≤ nl ∧ k ≤ nw ∧ i = .int .i64 k ∧ Mid w1 Bd g k la nx wr) (fun _ _ i _ => nl - (intOf i).toNat)
    case atStart => exact ⟨0, Nat.zero_le _, Nat.zero_le _, rfl, _, 0, _, _, H4.out, by omega, HM4.out, .inl ⟨_, HNEW.out, rfl, rfl⟩⟩
    case round =>
      obtain ⟨k, hkl, hkw, rfl, S, n, s, H, h, hn, hm, hor⟩ := hrel
      have HR := hide h
      have HM := hide hm
      clear h hm H4 HM4 HNEW
      by_cases h1 : k < nl
      · by_cases h2 : k < nw
        · rcases hor with ⟨c, hM, rfl, rfl⟩ | ⟨hdn, hx⟩
          · have HDN := hide hM.down
            have HMY := hide hM
            clear hM
            have h1p : k < ps.length := by rw [HNL.out]; exact h1
            obtain ⟨bl, ol, rfl, hlb, hlc, hlr⟩ := HL1.out.at_ k h1p
            have HQK := hide (HQ.out ps[k] (List.getElem_mem h1p))
            unfold Part.val at hlc
            generalize ps[k] = part at *
            obtain ⟨pa, pc, b⟩ := part
            simp only at hlc hlr HQK
            obtain ⟨nb, hnb⟩ : ∃ nb, b.length = nb := ⟨_, rfl⟩
            rw [hnb] at hlc HQK
            have HNB := hide hnb
            have HLR := hide hlr
            clear hnb hlr
            obtain ⟨bz, oz, rfl, hcell⟩ := (HW1.out.below HR.out.below (Nat.le_refl _)).get k (by rw [HNW.out]; exact h2)
            have hfit := HW1.out.fit (us.getD k 0) (by
              have h1 : k < us.length := by rw [HNW.out]; exact h2
              rw [List.getD_eq_getElem?_getD, List.getElem?_eq_getElem h1, Option.getD_some]
              exact List.getElem_mem _)
            generalize us.getD k 0 = z at *
            have l1 : num z 4 < 4 := num_lt z 4 (by omega)
            obtain ⟨j, hj⟩ : ∃ j, num z 4 = j := ⟨_, rfl⟩
            rw [hj] at l1
            have HJ := hide hj
            clear hj
            have xl := (HR.out.below.cell (p := ⟨bl, ol + k, none⟩) hlb).trans hlc
            have xn := HM.out.nm j l1
            obtain ⟨hv1, hv2⟩ := Dk.mn_valid j l1
            have HWR := hide (fun (W : World) (hb : Below wr.heap.size wr W) => ptWrite_okR (HR.out.grow hb) p HS1.out HT1.out HW41.out (by omega) (Dk.mn j) (by simp [Dk.mn]) hv1 hv2 pa pc nb b ((HLR.out.belowB HR.out.below (Nat.le_refl _)).belowB hb (Nat.le_refl _)) HNB.out (by have := HQK.out; omega) (HLR.out.apart HR.out))
            have HST := hide (fun id hid => HMY.out.step (by omega) j l1 b (by rw [HNB.out]; exact HQK.out) id hid)
            clear hv1 hv2 HMY
            have d4 : decide (j < 4) = true := decide_eq_true l1
            have d4i : decide ((j : Int) < 4) = true := decide_eq_true (by omega)
            have d4j : (j : Int) < 4 := by omega
            have dl : decide (k < nl) = true := decide_eq_true h1
            have dli : decide ((k : Int) < nl) = true := decide_eq_true (by omega)
            generalize hmj : Dk.mn j = q at *
            go_upto_region 19 with (first
              | (go_at_call 16; refine HR.out.downS.mono ?_; rintro e wv ⟨rfl, hwv⟩; obtain rfl : wr = wv := hwv.symm; rw [HDN.out])
              | (go_at_call 14; (with_reducible refine (num_at z 4 4 _ rfl (by omega) (by omega) hfit.1 hfit.2).mono ?_); rintro e wr' ⟨rfl, rfl⟩; rw [HJ.out])
              | fail)
            go_still_tail 9, (by kernel_rfl)
            change wpList _ _ _ _ _ wr.drew
            have HBQ : Hid (Below wr.heap.size wr wr.drew) := hide (Below.refl _ _).drew
            have HMQ := hide (HM.out.quiet HBQ.out)
            generalize wr.drew = wq at *
            have HWQ := hide (HWR.out wq HBQ.out)
            clear HWR
            go_upto_region 20 with (first
              | (go_at_call 11; refine HWQ.out.mono ?_; rintro e w6 ⟨id, hid, rfl, S', h6, hc6, hu6⟩; have HID := hide hid; have H6 := hide h6; have HM6 := hide (HMQ.out.chg hc6 hu6); clear hid h6 hc6 hu6 HWQ HMQ)
              | fail)
            rcases HST.out id HID.out with ⟨s', c', e', hM'⟩ | ⟨s', e', dn', hcr⟩
            · rw [e'] at H6 ⊢
              have HMY := hide hM'
              clear e' hM' HST HID
              have xl6 := (H6.out.below.cell (p := ⟨bl, ol + k, none⟩) hlb).trans hlc
              obtain ⟨A0, n0, c0, x0, -⟩ := HM6.out.hv j l1
              have x1 := HM6.out.sm j l1
              have f0 := (HM6.out.fz j).1
              have f1 := (HM6.out.fz j).2
              have x1' : (w6.setCell ⟨g + 1, j, none⟩ (.slice pa nb pc)).cell? ⟨g + 2, j, none⟩ = some (.bool (H j).isSome) := (World.cell?_setCell_other _ _ _ _ (by intro e; injection e with e _; omega)).trans x1
              have f1' : (w6.setCell ⟨g + 1, j, none⟩ (.slice pa nb pc)).frozen? ⟨g + 2, j, none⟩ = false := (World.frozen?_setCell _ _ _ _).trans f1
              have HPUT := hide (HM6.out.put j l1 pa nb pc b HNB.out HQK.out HLR.out)
              have hs7 := HM6.out.ptr H6.out j (.slice pa nb pc) 1 (by omega)
              have H8 := hide (HPUT.out.ptr' hs7 HM6.out j (.bool true))
              clear hs7
              simp only [errR]
              go_wp2_with fail
              go_roundw
              case rel => exact ⟨k + 1, by omega, by omega, by go_num, _, _, _, _, H8.out, by omega, HPUT.out, .inl ⟨_, HMY.out, rfl, rfl⟩⟩
              case measure => simp [intOf]; omega
            · rw [e'] at H6 ⊢
              have HDN' := hide dn'
              have HCR := hide hcr
              have hne := eql_nil (p 8)
              simp only [errV] at hne
              clear e' dn' hcr HST HID
              have xl6 := (H6.out.below.cell (p := ⟨bl, ol + k, none⟩) hlb).trans hlc
              simp only [errR, errV]
              go_wp2_with (first
                | (go_at_call 16; refine H6.out.downS.mono ?_; rintro e wv ⟨rfl, hwv⟩; obtain rfl : w6 = wv := hwv.symm; rw [HDN'.out])
                | fail)
              go_roundw
              case rel => exact ⟨k + 1, by omega, by omega, by go_num, _, _, _, _, H6.out, by omega, HM6.out, .inr ⟨HDN'.out, j, _, _, _, b, l1, rfl, rfl, HQK.out, HNB.out, HLR.out, HCR.out⟩⟩
              case measure => simp [intOf]; omega
          · have HDN := hide hdn
            clear hdn
            go_wp2_with (first
              | (go_at_call 16; refine HR.out.downS.mono ?_; rintro e wv ⟨rfl, hwv⟩; obtain rfl : wr = wv := hwv.symm; rw [HDN.out])
              | fail)
            go_meet
            exact ⟨k, by omega, S, n, s, H, HR.out, hn, HM.out, .inr ⟨HDN.out, hx⟩⟩
        · go_wp2_with fail
          go_meet
          exact ⟨k, by omega, S, n, s, H, HR.out, hn, HM.out, hor⟩
      · go_wp2_with fail
        go_meet
        exact ⟨k, by omega, S, n, s, H, HR.out, hn, HM.out, hor⟩
  case rest =>
    obtain ⟨k0, hk0, S, n, s, H, h, hn, hm, hor⟩ := hcut
    have HR := hide h
    have HM := hide hm
    have HOR := hide hor
    clear h hm hor H4 HM4 HNEW HL1
    go_upto_region 28 with (first
      | (go_at_call 18; refine (HR.out.crash (by omega) Az cz nz zs (HZ1.out.below HR.out.below (Nat.le_refl _)) HNZ.out (HR.out.clearI HZ1.out)).mono ?_; rintro e w5 ⟨rfl, ys, ⟨hy, hyr⟩, h5, hc5⟩; have HY := hide hy; have HYR := hide hyr; have H5 := hide h5; have HM5 := hide (HM.out.chg hc5 (fun _ hk => hk)); clear hy hyr h5 hc5)
      | fail)
    obtain ⟨H', hen, hag⟩ := Mid.after (HOR.out.imp (fun ⟨c, h1, h2⟩ => ⟨c, k0, h1, h2⟩) id) zs ys HY.out HYR.out
    have HEN := hide hen
    have HAG := hide hag
    clear hen hag HOR HY HYR HR HM
    generalize s.crash zs ys = t at *
    go_wp2_with fail
    go_loopw [20] (fun i wr => ∃ k : Nat, k ≤ 4 ∧ i = .int .i64 k ∧ Below w5.heap.size w5 wr) (fun i _ => 4 - (intOf i).toNat)
    case atStart => exact ⟨0, by omega, rfl, Below.refl _ _⟩
    case round =>
      obtain ⟨k, hk, rfl, hb⟩ := hrel
      have HBR := hide hb
      clear hb
      by_cases h4 : k < 4
      · have d4 : decide (k < 4) = true := decide_eq_true h4
        have d4i : decide ((k : Int) < 4) = true := decide_eq_true (by omega)
        have d4j : (k : Int) < 4 := by omega
        have H6 := hide (H5.out.grow HBR.out)
        have HM6 := hide (HM5.out.quiet HBR.out)
        obtain ⟨Ah, nh, ch, x1, hh6, hhl, hhr⟩ := HM6.out.hv k h4
        have xn := HM6.out.nm k h4
        have HQ1 : Hid ((Dk.mn k).length ≤ 1000) := hide (by simp [Dk.mn])
        have HEK := hide (HEN.out k h4)
        have HAK := hide (HAG.out k h4)
        have HB1R := hide (H6.out.below)
        have HH6 := hide hh6
        rcases hx : H' k with _ | x
        · have hHk : H k = none := by
            rcases HAK.out with e | ⟨-, b, A, m, c, e, -⟩
            · rw [← e, hx]
            · rw [hx] at e; cases e
          rw [hHk] at hhl hhr
          simp only [Option.getD_none, List.length_nil] at hhl hhr
          subst hhl
          have HHK := hide hHk
          have HRD := hide (ptRead_none H6.out p HS1.out (Dk.mn k) HQ1.out 6 (HEK.out.2 hx))
          have hne := eql_nil (p 6)
          simp only [errV] at hne
          have HRH : Hid (∀ W, Below wr.heap.size wr W → Reads W Ah []) := hide (fun W _ => .inl rfl)
          clear hhr hHk hx HEK HAK
          generalize Dk.mn k = q at *
          go_upto_region 32 with (first
            | (go_at_call 12; refine HRD.out.mono ?_; rintro e w7 ⟨rfl, hb7⟩; have HB7 := hide hb7; have HM7 := hide (HM6.out.quiet hb7); clear hb7 HRD; unfold errV)
            | fail)
          have HSB := hide (fun (W : World) (hb : Below w7.heap.size w7 W) => (sameBytes_any none Ah 0 ch 0 0 [] [] W rfl rfl (by omega) (by omega) (.inl rfl) (.inl rfl)).mono fun e w' (h : _ ∧ ∃ q, w' = W.drewN q) => (show e = .returned (.bool true) ∧ Below W.heap.size W w' from ⟨by rw [h.1]; rfl, by obtain ⟨q, hq⟩ := h.2; rw [hq]; exact below_drewN (Below.refl _ _) q⟩))
          refine wp_region_guard (G := fun a b : World => Below a.heap.size a b) ⟨fun w => Below.refl _ w, fun h k => h.trans (k.mono h.size)⟩ [129, 130, 131, 132, 133, 134, 135, 136, 137, 138, 139, 140, 141, 142, 143, 23] (fun d => match d with
            | 129 => .is (.iface 183 (.pointer (some (p 6)))) | 130 => .is (.bool false) | 131 => .is (.slice (some ⟨g + 2, 0, none⟩) 4 4) | 132 => .is (.int .i64 (k : Nat)) | 133 => .is (.pointer (some ⟨g + 2, k, none⟩)) | 134 => .is (.bool false)
            | 135 => .is (.bool true) | 136 => .is (.bool true) | 137 => .is (.slice none 0 0) | 138 => .is (.slice (some ⟨g + 1, 0, none⟩) 4 4) | 139 => .is (.int .i64 (k : Nat)) | 140 => .is (.pointer (some ⟨g + 1, k, none⟩)) | 141 => .is (.slice Ah 0 ch) | _ => .is (.bool true)) (by kernel_rfl) (by kernel_rfl) (by kernel_rfl) ?_ ?_
          · simp only [StepsG]
            refine ⟨?_, ?_, ?_, ?_, ?_, ?_, ?_, ?_, ?_, ?_, ?_, ?_, ?_, ?_, ?_, ?_, trivial⟩
            all_goals
              intro ev w8 hb hev hd
              have ev22 : ev (.tmp 22) = (.iface 183 (.pointer (some (p 6)))) := hev _ (by simp)
              have ev14 : ev (.tmp 14) = .slice (some ⟨g + 2, 0, none⟩) 4 4 := hev _ (by simp)
              have ev13 : ev (.tmp 13) = .slice (some ⟨g + 1, 0, none⟩) 4 4 := hev _ (by simp)
              have ev20 : ev (.tmp 20) = .int .i64 (k : Nat) := hev _ (by simp)
              have ev21 : ev (.tmp 21) = (.slice none 0 0) := hev _ (by simp)
              have evf : ∀ f, ev (.func f) = .func (.func f) #[] #[] := fun f => hev _ (by simp)
              have evc : ∀ c, ev (.const c) = c := fun c => hev _ (by simp)
              have HB8 := hide (show Below w7.heap.size w7 w8 from (Below.refl _ _).drew.trans hb)
              have y1 := ((HB7.out.trans (HB8.out.mono HB7.out.size)).cell (p := ⟨g + 1, k, none⟩) (by have := HM6.out.top; show g + 1 < _; omega)).trans x1
              have y2 := (HM7.out.quiet HB8.out).sm k h4
              have y2' : w8.cell? ⟨g + 2, k, none⟩ = some (.bool false) := by rw [y2, HHK.out]; rfl
              clear y2
              clear hev hb
              simp [DepsG, Held.is] at hd
              try simp [OpGuard, OpRuns, execOp, go_sem, Held.is, Below.refl, *]
            exact HSB.out w8 HB8.out
          · intro f w9 hb hf
            have e23 : f 23 = .bool true := hf 23 (by simp)
            have HB9 := hide (show Below w7.heap.size w7 w9 from (Below.refl _ _).drew.trans hb)
            clear hf hb
            simp only [puts, Act.put, List.setIfInBounds_toArray, List.set_cons_succ, List.set_cons_zero]
            rw [e23]
            clear e23
            generalize f 129 = q129
            generalize f 130 = q130
            generalize f 131 = q131
            generalize f 132 = q132
            generalize f 133 = q133
            generalize f 134 = q134
            generalize f 135 = q135
            generalize f 136 = q136
            generalize f 137 = q137
            generalize f 138 = q138
            generalize f 139 = q139
            generalize f 140 = q140
            generalize f 141 = q141
            generalize f 142 = q142
            generalize f 143 = q143
            clear f
            go_wp2_with fail
            go_roundw
            case rel => exact ⟨k + 1, by omega, by go_num, HBR.out.trans ((HB7.out.trans (HB9.out.mono HB7.out.size)).mono HBR.out.size)⟩
            case measure => simp [intOf]; omega
        · have HKP := hide (HEK.out.1 x hx)
          obtain ⟨nx', hnx⟩ : ∃ nx', x.length = nx' := ⟨_, rfl⟩
          have HNX6 : Hid (nx' ≤ 60) := hide (by
            rcases HAK.out with e | ⟨-, b, A, m, c, e, -, hm6, hbm, -⟩
            · rw [← e, hx] at hhl
              have h2 : x.length = nh := hhl
              omega
            · rw [hx] at e
              injection e with e
              subst e
              omega)
          have HNX := hide hnx
          have HRD := hide (ptRead_kept H6.out p HS1.out HT1.out (by omega) (Dk.mn k) HQ1.out x nx' hnx (by have := HNX6.out; omega) HKP.out)
          have HRH : Hid (∀ W, Below wr.heap.size wr W → Reads W Ah ((H k).getD [])) := hide (fun W hb => (hhr.belowB HB1R.out (Nat.le_refl _)).belowB hb (Nat.le_refl _))
          have HHL := hide hhl
          clear hhr hnx HEK HKP hhl
          generalize Dk.mn k = q at *
          go_upto_region 32 with (first
            | (go_at_call 12; refine HRD.out.mono ?_; rintro e w7 ⟨A7, c7, rfl, ha7, hb7⟩; have HA7 := hide ha7; have HB7 := hide hb7; have HM7 := hide (HM6.out.quiet hb7); clear ha7 hb7 HRD)
            | fail)
          rcases hHk : H k with _ | y
          · have hag : u15 = .int .i64 (k : Nat) ∧ ∃ A m c, u16 = .slice A m c ∧ m = nx' ∧ Reads w1 A x := by
              rcases HAK.out with e | ⟨e1, b, A, m, c, e, e2, -, hbm, hr⟩
              · rw [hx, hHk] at e; cases e
              · rw [hx] at e
                injection e with e
                subst e
                exact ⟨e1, A, m, c, e2, by rw [← hbm, HNX.out], hr⟩
            obtain ⟨rfl, A', m', c', rfl, rfl, hrx⟩ := hag
            have HRX : Hid (∀ W, Below wr.heap.size wr W → Reads W A' x) := hide (fun W hb => (hrx.belowB HB1R.out (Nat.le_refl _)).belowB hb (Nat.le_refl _))
            have HHK := hide hHk
            clear hrx hx hHk HAK
            refine wp_region_guard (G := fun a b : World => Below a.heap.size a b) ⟨fun w => Below.refl _ w, fun h k => h.trans (k.mono h.size)⟩ [129, 130, 131, 132, 133, 134, 135, 136, 137, 138, 139, 140, 141, 142, 143, 23] (fun d => match d with
              | 129 => .is .nilIface | 130 => .is (.bool true) | 131 => .is (.slice (some ⟨g + 2, 0, none⟩) 4 4) | 132 => .is (.int .i64 (k : Nat)) | 133 => .is (.pointer (some ⟨g + 2, k, none⟩)) | 134 => .is (.bool false)
              | 135 => .is (.bool false) | 136 => .is (.bool false) | 143 => .is (.bool false) | 23 => .is (.bool false) | _ => .is undef) (by kernel_rfl) (by kernel_rfl) (by kernel_rfl) ?_ ?_
            · simp only [StepsG]
              refine ⟨?_, ?_, ?_, ?_, ?_, ?_, ?_, ?_, ?_, ?_, ?_, ?_, ?_, ?_, ?_, ?_, trivial⟩
              all_goals
                intro ev w8 hb hev hd
                have ev22 : ev (.tmp 22) = .nilIface := hev _ (by simp)
                have ev14 : ev (.tmp 14) = .slice (some ⟨g + 2, 0, none⟩) 4 4 := hev _ (by simp)
                have ev13 : ev (.tmp 13) = .slice (some ⟨g + 1, 0, none⟩) 4 4 := hev _ (by simp)
                have ev20 : ev (.tmp 20) = .int .i64 (k : Nat) := hev _ (by simp)
                have ev21 : ev (.tmp 21) = (.slice A7 m' c7) := hev _ (by simp)
                have evf : ∀ f, ev (.func f) = .func (.func f) #[] #[] := fun f => hev _ (by simp)
                have evc : ∀ c, ev (.const c) = c := fun c => hev _ (by simp)
                have HB8 := hide (show Below w7.heap.size w7 w8 from (Below.refl _ _).drew.trans hb)
                have y1 := ((HB7.out.trans (HB8.out.mono HB7.out.size)).cell (p := ⟨g + 1, k, none⟩) (by have := HM6.out.top; show g + 1 < _; omega)).trans x1
                have y2 := (HM7.out.quiet HB8.out).sm k h4
                have y2' : w8.cell? ⟨g + 2, k, none⟩ = some (.bool false) := by rw [y2, HHK.out]; rfl
                clear y2
                clear hev hb
                simp [DepsG, Held.is] at hd
                try simp [OpGuard, OpRuns, execOp, go_sem, Held.is, Below.refl, *]
            · intro f w9 hb hf
              have e23 : f 23 = .bool false := hf 23 (by simp)
              have HB9 := hide (show Below w7.heap.size w7 w9 from (Below.refl _ _).drew.trans hb)
              clear hf hb
              simp only [puts, Act.put, List.setIfInBounds_toArray, List.set_cons_succ, List.set_cons_zero]
              rw [e23]
              clear e23
              generalize f 129 = q129
              generalize f 130 = q130
              generalize f 131 = q131
              generalize f 132 = q132
              generalize f 133 = q133
              generalize f 134 = q134
              generalize f 135 = q135
              generalize f 136 = q136
              generalize f 137 = q137
              generalize f 138 = q138
              generalize f 139 = q139
              generalize f 140 = q140
              generalize f 141 = q141
              generalize f 142 = q142
              generalize f 143 = q143
              clear f
              go_wp2_with (first
                | (go_at_call 13; refine (sameBytes_any A7 A' c7 c' m' m' x x w9 HNX.out HNX.out (by have := HNX6.out; omega) (by have := HNX6.out; omega) (HA7.out.below HB9.out (Nat.le_refl _)).reads (HRX.out w9 (HB7.out.trans (HB9.out.mono HB7.out.size)))).mono ?_; rintro e w10 ⟨he, q, hq⟩; rw [decide_eq_true (rfl : x = x)] at he; subst he; have HB10 : Hid (Below w9.heap.size w9 w10) := hide (by rw [hq]; exact below_drewN (Below.refl _ _) q); clear hq)
                | fail)
              go_roundw
              case rel => exact ⟨k + 1, by omega, by go_num, HBR.out.trans ((HB7.out.trans ((HB9.out.trans (HB10.out.mono HB9.out.size)).mono HB7.out.size)).mono HBR.out.size)⟩
              case measure => simp [intOf]; omega
          · rw [hHk] at HRH HHL
            simp only [Option.getD_some] at HRH HHL
            have HHK := hide hHk
            by_cases hxy : x = y
            · have HXY := hide hxy
              clear hx hHk HAK hxy
              have HSB := hide (fun (W : World) (hb : Below w7.heap.size w7 W) => (sameBytes_any A7 Ah c7 ch nx' nh x y W HNX.out HHL.out (by have := HNX6.out; omega) (by omega) (HA7.out.below hb (Nat.le_refl _)).reads (HRH.out W (HB7.out.trans (hb.mono HB7.out.size)))).mono fun e w' (h : _ ∧ ∃ q, w' = W.drewN q) => (show e = .returned (.bool true) ∧ Below W.heap.size W w' from ⟨by rw [h.1, decide_eq_true HXY.out], by obtain ⟨q, hq⟩ := h.2; rw [hq]; exact below_drewN (Below.refl _ _) q⟩))
              refine wp_region_guard (G := fun a b : World => Below a.heap.size a b) ⟨fun w => Below.refl _ w, fun h k => h.trans (k.mono h.size)⟩ [129, 130, 131, 132, 133, 134, 135, 136, 137, 138, 139, 140, 141, 142, 143, 23] (fun d => match d with
                | 129 => .is .nilIface | 130 => .is (.bool true) | 131 => .is (.slice (some ⟨g + 2, 0, none⟩) 4 4) | 132 => .is (.int .i64 (k : Nat)) | 133 => .is (.pointer (some ⟨g + 2, k, none⟩)) | 134 => .is (.bool true)
                | 135 => .is (.bool true) | 136 => .is (.bool true) | 137 => .is (.slice A7 nx' c7) | 138 => .is (.slice (some ⟨g + 1, 0, none⟩) 4 4) | 139 => .is (.int .i64 (k : Nat)) | 140 => .is (.pointer (some ⟨g + 1, k, none⟩)) | 141 => .is (.slice Ah nh ch) | _ => .is (.bool true)) (by kernel_rfl) (by kernel_rfl) (by kernel_rfl) ?_ ?_
              · simp only [StepsG]
                refine ⟨?_, ?_, ?_, ?_, ?_, ?_, ?_, ?_, ?_, ?_, ?_, ?_, ?_, ?_, ?_, ?_, trivial⟩
                all_goals
                  intro ev w8 hb hev hd
                  have ev22 : ev (.tmp 22) = .nilIface := hev _ (by simp)
                  have ev14 : ev (.tmp 14) = .slice (some ⟨g + 2, 0, none⟩) 4 4 := hev _ (by simp)
                  have ev13 : ev (.tmp 13) = .slice (some ⟨g + 1, 0, none⟩) 4 4 := hev _ (by simp)
                  have ev20 : ev (.tmp 20) = .int .i64 (k : Nat) := hev _ (by simp)
                  have ev21 : ev (.tmp 21) = (.slice A7 nx' c7) := hev _ (by simp)
                  have evf : ∀ f, ev (.func f) = .func (.func f) #[] #[] := fun f => hev _ (by simp)
                  have evc : ∀ c, ev (.const c) = c := fun c => hev _ (by simp)
                  have HB8 := hide (show Below w7.heap.size w7 w8 from (Below.refl _ _).drew.trans hb)
                  have y1 := ((HB7.out.trans (HB8.out.mono HB7.out.size)).cell (p := ⟨g + 1, k, none⟩) (by have := HM6.out.top; show g + 1 < _; omega)).trans x1
                  have y2 := (HM7.out.quiet HB8.out).sm k h4
                  have y2' : w8.cell? ⟨g + 2, k, none⟩ = some (.bool true) := by rw [y2, HHK.out]; rfl
                  clear y2
                  clear hev hb
                  simp [DepsG, Held.is] at hd
                  try simp [OpGuard, OpRuns, execOp, go_sem, Held.is, Below.refl, *]
                exact HSB.out w8 HB8.out
              · intro f w9 hb hf
                have e23 : f 23 = .bool true := hf 23 (by simp)
                have HB9 := hide (show Below w7.heap.size w7 w9 from (Below.refl _ _).drew.trans hb)
                clear hf hb
                simp only [puts, Act.put, List.setIfInBounds_toArray, List.set_cons_succ, List.set_cons_zero]
                rw [e23]
                clear e23
                generalize f 129 = q129
                generalize f 130 = q130
                generalize f 131 = q131
                generalize f 132 = q132
                generalize f 133 = q133
                generalize f 134 = q134
                generalize f 135 = q135
                generalize f 136 = q136
                generalize f 137 = q137
                generalize f 138 = q138
                generalize f 139 = q139
                generalize f 140 = q140
                generalize f 141 = q141
                generalize f 142 = q142
                generalize f 143 = q143
                clear f
                go_wp2_with fail
                go_roundw
                case rel => exact ⟨k + 1, by omega, by go_num, HBR.out.trans ((HB7.out.trans (HB9.out.mono HB7.out.size)).mono HBR.out.size)⟩
                case measure => simp [intOf]; omega
            · have hag : u15 = .int .i64 (k : Nat) ∧ ∃ A m c, u16 = .slice A m c ∧ m = nx' ∧ Reads w1 A x := by
                rcases HAK.out with e | ⟨e1, b, A, m, c, e, e2, -, hbm, hr⟩
                · rw [hx, hHk] at e
                  injection e with e
                  exact absurd e hxy
                · rw [hx] at e
                  injection e with e
                  subst e
                  exact ⟨e1, A, m, c, e2, by rw [← hbm, HNX.out], hr⟩
              obtain ⟨rfl, A', m', c', rfl, rfl, hrx⟩ := hag
              have HRX : Hid (∀ W, Below wr.heap.size wr W → Reads W A' x) := hide (fun W hb => (hrx.belowB HB1R.out (Nat.le_refl _)).belowB hb (Nat.le_refl _))
              have HXY := hide hxy
              clear hrx hx hHk HAK hxy
              have HSB := hide (fun (W : World) (hb : Below w7.heap.size w7 W) => (sameBytes_any A7 Ah c7 ch m' nh x y W HNX.out HHL.out (by have := HNX6.out; omega) (by omega) (HA7.out.below hb (Nat.le_refl _)).reads (HRH.out W (HB7.out.trans (hb.mono HB7.out.size)))).mono fun e w' (h : _ ∧ ∃ q, w' = W.drewN q) => (show e = .returned (.bool false) ∧ Below W.heap.size W w' from ⟨by rw [h.1, decide_eq_false HXY.out], by obtain ⟨q, hq⟩ := h.2; rw [hq]; exact below_drewN (Below.refl _ _) q⟩))
              refine wp_region_guard (G := fun a b : World => Below a.heap.size a b) ⟨fun w => Below.refl _ w, fun h k => h.trans (k.mono h.size)⟩ [129, 130, 131, 132, 133, 134, 135, 136, 137, 138, 139, 140, 141, 142, 143, 23] (fun d => match d with
                | 129 => .is .nilIface | 130 => .is (.bool true) | 131 => .is (.slice (some ⟨g + 2, 0, none⟩) 4 4) | 132 => .is (.int .i64 (k : Nat)) | 133 => .is (.pointer (some ⟨g + 2, k, none⟩)) | 134 => .is (.bool true)
                | 135 => .is (.bool true) | 136 => .is (.bool true) | 137 => .is (.slice A7 m' c7) | 138 => .is (.slice (some ⟨g + 1, 0, none⟩) 4 4) | 139 => .is (.int .i64 (k : Nat)) | 140 => .is (.pointer (some ⟨g + 1, k, none⟩)) | 141 => .is (.slice Ah nh ch) | _ => .is (.bool false)) (by kernel_rfl) (by kernel_rfl) (by kernel_rfl) ?_ ?_
              · simp only [StepsG]
                refine ⟨?_, ?_, ?_, ?_, ?_, ?_, ?_, ?_, ?_, ?_, ?_, ?_, ?_, ?_, ?_, ?_, trivial⟩
                all_goals
                  intro ev w8 hb hev hd
                  have ev22 : ev (.tmp 22) = .nilIface := hev _ (by simp)
                  have ev14 : ev (.tmp 14) = .slice (some ⟨g + 2, 0, none⟩) 4 4 := hev _ (by simp)
                  have ev13 : ev (.tmp 13) = .slice (some ⟨g + 1, 0, none⟩) 4 4 := hev _ (by simp)
                  have ev20 : ev (.tmp 20) = .int .i64 (k : Nat) := hev _ (by simp)
                  have ev21 : ev (.tmp 21) = (.slice A7 m' c7) := hev _ (by simp)
                  have evf : ∀ f, ev (.func f) = .func (.func f) #[] #[] := fun f => hev _ (by simp)
                  have evc : ∀ c, ev (.const c) = c := fun c => hev _ (by simp)
                  have HB8 := hide (show Below w7.heap.size w7 w8 from (Below.refl _ _).drew.trans hb)
                  have y1 := ((HB7.out.trans (HB8.out.mono HB7.out.size)).cell (p := ⟨g + 1, k, none⟩) (by have := HM6.out.top; show g + 1 < _; omega)).trans x1
                  have y2 := (HM7.out.quiet HB8.out).sm k h4
                  have y2' : w8.cell? ⟨g + 2, k, none⟩ = some (.bool true) := by rw [y2, HHK.out]; rfl
                  clear y2
                  clear hev hb
                  simp [DepsG, Held.is] at hd
                  try simp [OpGuard, OpRuns, execOp, go_sem, Held.is, Below.refl, *]
                exact HSB.out w8 HB8.out
              · intro f w9 hb hf
                have e23 : f 23 = .bool false := hf 23 (by simp)
                have HB9 := hide (show Below w7.heap.size w7 w9 from (Below.refl _ _).drew.trans hb)
                clear hf hb
                simp only [puts, Act.put, List.setIfInBounds_toArray, List.set_cons_succ, List.set_cons_zero]
                rw [e23]
                clear e23
                generalize f 129 = q129
                generalize f 130 = q130
                generalize f 131 = q131
                generalize f 132 = q132
                generalize f 133 = q133
                generalize f 134 = q134
                generalize f 135 = q135
                generalize f 136 = q136
                generalize f 137 = q137
                generalize f 138 = q138
                generalize f 139 = q139
                generalize f 140 = q140
                generalize f 141 = q141
                generalize f 142 = q142
                generalize f 143 = q143
                clear f
                go_wp2_with (first
                  | (go_at_call 13; refine (sameBytes_any A7 A' c7 c' m' m' x x w9 HNX.out HNX.out (by have := HNX6.out; omega) (by have := HNX6.out; omega) (HA7.out.below HB9.out (Nat.le_refl _)).reads (HRX.out w9 (HB7.out.trans (HB9.out.mono HB7.out.size)))).mono ?_; rintro e w10 ⟨he, q, hq⟩; rw [decide_eq_true (rfl : x = x)] at he; subst he; have HB10 : Hid (Below w9.heap.size w9 w10) := hide (by rw [hq]; exact below_drewN (Below.refl _ _) q); clear hq)
                  | fail)
                go_roundw
                case rel => exact ⟨k + 1, by omega, by go_num, HBR.out.trans ((HB7.out.trans ((HB9.out.trans (HB10.out.mono HB9.out.size)).mono HB7.out.size)).mono HBR.out.size)⟩
                case measure => simp [intOf]; omega
      · obtain rfl : k = 4 := by omega
        go_wp2_with fail
        go_ret
        exact ⟨rfl, HB1.out.trans ((H5.out.below.trans (HBR.out.mono H5.out.below.size)).mono HB1.out.size)⟩
end Go.Proofs.YtfjanenooembkaaDoor

namespace Go.Proofs.YtfjanenooembkaaDoor.PManyLaw
open Go.Proofs.YtfjanenooembkaaDoor
open Go.RowKit Go.ChangeShapes Go.WideShapes Go.ChangeAt

set_option maxRecDepth 100000 in
theorem lifted (os : Os) (started : os.Started) (H : Type) (enc : TypeId × Value → H) :
    ReturnsInHanded {} Tryd.checked os 7 .any (fun w args => (Rows.pointManySpec.pre enc Tryd.prog Tryd.f7 [] false w args ∧ laidMetH Tryd.prog laidP w) ∧ sizedMet enc Tryd.prog Tryd.f7 (OpenSpec.ofChange Rows.pointManySpec) false w args)
      (Rows.pointManySpec.post enc Tryd.prog Tryd.f7 false true false false) := by
  refine returnsInHanded_of_change_and (C := Tryd.checked) (X := fun w _ => laidMetH Tryd.prog laidP w) (fun _ _ _ hh h => h.of_heap hh) own started (by kernel_rfl) Tryd.func7
    (ChangeSpec.witness_shaped (enc := enc) (C := Tryd.checked) (os := os) (X := fun w _ => laidMetH Tryd.prog laidP w) false (World.doorLaid Tryd.prog 400 os) #[.slice none 0 0, .slice none 0 0, .int .i64 0, .slice none 0 0] 8 rfl (World.shaped_of_RefB (by kernel_rfl) (by kernel_rfl)) (by kernel_rfl) (by kernel_rfl) (by kernel_rfl) (door_met_p os _)) ?_
  intro W base args ds gs before hval0 hW _ _ hL _
  have hval : ∀ (j : Nat) t v, Tryd.f7.params[j]? = some t → args[j]? = some v → Value.okWide Tryd.prog W .any base t v := hval0
  have hW' := hW
  obtain ⟨p, q, hA0, hV, rfl, hfz, hnd⟩ := hW
  have hA : DataW.TrodAll enc Tryd.prog W 0 (fun _ => true) true Tryd.f7.params.toList args.toList ds p := hA0
  rw [Tryd.params7] at hA hval
  obtain ⟨v0, vs0, d0, ds0, p0, q0, hargs, rfl, rfl, h0, r0⟩ := trodAll_cons hA
  obtain ⟨v1, vs1, d1, ds1, p1, q1, rfl, rfl, rfl, h1, r1⟩ := trodAll_cons r0
  obtain ⟨v2, vs2, d2, ds2, p2, q2, rfl, rfl, rfl, h2, r2⟩ := trodAll_cons r1
  obtain ⟨v3, vs3, d3, ds3, p3, q3, rfl, rfl, rfl, h3, r3⟩ := trodAll_cons r2
  obtain ⟨rfl, rfl, rfl⟩ := trodAll_nil r3
  obtain rfl : args = #[v0, v1, v2, v3] := by cases args; simp_all
  obtain ⟨rfl, rfl⟩ := trodVars_none hV
  obtain ⟨a0, len0, cap0, rfl⟩ := okWide_slice Tryd.underlying66 (hval 0 66 v0 rfl rfl)
  have k0 := h0
  have lt0 : ∀ x ∈ p0, x.block < W.heap.size := by obtain ⟨m, hm⟩ := k0; exact DataW.trod_lt m _ _ _ hm
  obtain ⟨ps0, rfl, le0, mx0, w0⟩ := texts_of h0
  obtain ⟨a1, len1, cap1, rfl⟩ := okWide_slice Tryd.underlying23 (hval 1 23 v1 rfl rfl)
  have k1 := h1
  have lt1 : ∀ x ∈ p1, x.block < W.heap.size := by obtain ⟨m, hm⟩ := k1; exact DataW.trod_lt m _ _ _ hm
  obtain ⟨zs1, rfl, le1, mx1, w1, z1⟩ := ints_of h1
  obtain ⟨a2, rfl, rfl, rfl, w2⟩ := open_int Tryd.underlying3 (hval 2 3 v2 rfl rfl) h2
  have hb2 := bounds_i64 w2
  obtain ⟨a3, len3, cap3, rfl⟩ := okWide_slice Tryd.underlying23 (hval 3 23 v3 rfl rfl)
  have k3 := h3
  have lt3 : ∀ x ∈ p3, x.block < W.heap.size := by obtain ⟨m, hm⟩ := k3; exact DataW.trod_lt m _ _ _ hm
  obtain ⟨zs3, rfl, le3, mx3, w3, z3⟩ := ints_of h3
  clear hA0 hval0
  have htab := tabs_of_p hL
  obtain ⟨ps, hsent⟩ := sents_of_p hL
  refine (pointMany_any W ps hsent htab a0 a1 a3 cap0 cap1 cap3 _ _ _ ps0 zs1 zs3 a2 rfl rfl rfl (by omega) w0 (intsArg_of le1 mx1 w1 z1 (intsCap_of h1)) (intsArg_of le3 mx3 w3 z3 (intsCap_of h3)) hb2).mono fun e W' ⟨he, bel⟩ => ?_
  subst he
  exact ⟨_, rfl, _, _, _, [], _, [], hW', trodAll_mk1 (shut_bool Tryd.underlying4 _), (trodAll_cons_mk (Below.trod laidOut (by kernel_rfl) (of_decide_eq_true (by kernel_rfl)) k0 bel lt0) (trodAll_cons_mk (Below.trod laidOut (by kernel_rfl) (of_decide_eq_true (by kernel_rfl)) k1 bel lt1) (trodAll_cons_mk (shut_int Tryd.underlying3 w2) (trodAll_cons_mk (Below.trod laidOut (by kernel_rfl) (of_decide_eq_true (by kernel_rfl)) k3 bel lt3) trodAll_mk0)))), rfl, bel.frame _, fun h => by cases h⟩

theorem row : Rows.PointManySaid :=
  OpenClaim.holds_of_wide 7 Tryd.f7 rfl rfl rfl rfl rfl rfl rfl ⟨rfl, rfl, rfl, rfl, rfl⟩ rfl rfl rfl rfl rfl (by kernel_rfl) Tryd.func7 (by kernel_rfl)
    (of_decide_eq_true (by kernel_rfl)) (by unfold Func.isWrapper; first | (rw [if_pos (by decide +kernel)]; kernel_rfl) | (rw [if_neg (by decide +kernel)]; exact ⟨rfl, rfl⟩))
    (fun os started H enc _ => lifted os started H enc)

theorem proved : Rows.PointManyCardSaid :=
  Claim7.holds_tied_plain_at .later [] _ true _ true
    row (fun _ h => by cases h) (by kernel_rfl) (fun _ h => by cases h) pointMany_row_tie rfl ⟨rfl, rfl⟩ (by kernel_rfl) rfl
    (fun f fn hf hfn => by
      obtain rfl : f = 7 := Option.some.inj ((show Tryd.prog.funcNamed "cordwood/cordwoodlaw8.PointMany" = some 7 by kernel_rfl).symm.trans hf) |>.symm
      obtain rfl : fn = Tryd.f7 := (Option.some.inj (Tryd.func7.symm.trans hfn)).symm
      exact ⟨by kernel_rfl, fun j t ht => by
        rw [Tryd.params7] at ht
        have hm : t ∈ [66, 23, 3, 23] := by simpa using Array.mem_of_getElem? ht
        have hall : ([66, 23, 3, 23].all fun u => !Tryd.prog.wantsStandIn u) = true := by kernel_rfl
        exact (show Tryd.prog.wantsStandIn t = false by simpa using List.all_eq_true.1 hall t hm)⟩)
    (by kernel_rfl)
end Go.Proofs.YtfjanenooembkaaDoor.PManyLaw
