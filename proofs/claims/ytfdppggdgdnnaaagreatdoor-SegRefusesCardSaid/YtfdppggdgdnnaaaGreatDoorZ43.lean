/-
  A slice of numbers of 64 bits in memory.
  What a row's reading says of an argument of numbers of 64 bits, and of texts.
  What a row's reading says of an argument that is a batch.
-/
import Derived.Test.YtfdppggdgdnnaaaGreatDoorZ7
import Derived.Deep.Matrix
import Derived.Test.YtfdppggdgdnnaaaGreatDoorZ3
import Derived.Deep.Slices
import Derived.Deep.Fields
import Derived.ChangeSame
import Derived.Lib.SmallJoins
namespace Go.Proofs.YtfdppggdgdnnaaaGreatDoor
open Go.RowKit

/-- A slice that reads as these numbers of 64 bits. -/
def Nums (w : World) (A : Option Addr) (us : List Nat) : Prop :=
  us = [] ∨ ∃ b off, A = some ⟨b, off, none⟩ ∧ b < w.heap.size ∧ ∀ k, k < us.length → w.cell? ⟨b, off + k, none⟩ = some (.int .u64 (us.getD k 0 : Nat))
end Go.Proofs.YtfdppggdgdnnaaaGreatDoor

namespace Go.Proofs.YtfdppggdgdnnaaaGreatDoor
open Go.RowKit Go.ChangeShapes Go.WideShapes Go.ChangeAt

theorem cells_i64 : Tryz.prog.cellsOf 2 = 1 := by kernel_rfl
theorem cells_u64 : Tryz.prog.cellsOf 89 = 1 := by kernel_rfl
theorem cells_bytes : Tryz.prog.cellsOf 32 = 1 := by kernel_rfl

/-- A slice of integers of one kind. -/
theorem kinds_of {H : Type} {enc : TypeId × Value → H} {W : World} {base : Nat} {spare : Nat → Bool} {held : Bool} {a : Option Addr} {len cap : Nat} {d : DataW H} {p : List MemPlace} {t e : TypeId} {K : IntKind}
    (ht : Tryz.prog.underlying t = some (.slice e)) (he : Tryz.prog.underlying e = some (.int K)) (ce : Tryz.prog.cellsOf e = 1)
    (h : DataW.Trod enc Tryz.prog W base spare held t (.slice a len cap) d p) : ∃ zs : List Int, zs.length = len ∧ len ≤ cap ∧ cap ≤ 9223372036854775807 ∧ (∀ k, k < len → (Lit.int K (zs.getD k 0)).wf = true) ∧
      (zs = [] ∨ ∃ b off, a = some ⟨b, off, none⟩ ∧ b < W.heap.size ∧ ∀ k, k < zs.length → W.cell? ⟨b, off + k, none⟩ = some (.int K (zs.getD k 0))) := by
  obtain ⟨fuel, hf⟩ := h
  rcases open_ints ht he ce hf with ⟨hcs, _⟩ | ⟨x, l, c, zs, hcs, _, hl, hm, hz, _, hcell, hwz⟩
  · simp [Value.cells] at hcs
    obtain ⟨rfl, rfl, rfl⟩ := hcs
    exact ⟨[], rfl, Nat.le_refl _, by omega, fun k hk => by omega, .inl rfl⟩
  · simp [Value.cells] at hcs
    obtain ⟨rfl, rfl, rfl⟩ := hcs
    have hzl : len ≤ zs.length := by split at hz <;> omega
    have e : ∀ k, k < len → (zs.take len).getD k 0 = zs.getD k 0 := fun k hk => by simp [List.getD, hk]
    refine ⟨zs.take len, by simp; omega, hl, by simpa [maxLen] using hm, fun k hk => ?_, ?_⟩
    · rw [e k hk]
      have hmem : zs.getD k 0 ∈ zs := by
        simp only [List.getD, List.getElem?_eq_getElem (show k < zs.length by omega), Option.getD_some]
        exact List.getElem_mem _
      exact hwz _ hmem
    · by_cases h0 : len = 0
      · subst h0; exact .inl (by simp)
      · obtain ⟨b, off, spot⟩ := x
        have hc := hcell 0 (by omega)
        have hspot : spot = none := by simpa [Addr.add] using World.cell?_spot hc
        subst hspot
        refine .inr ⟨b, off, rfl, ?_, fun k hk => ?_⟩
        · rcases Nat.lt_or_ge b W.heap.size with h | h
          · exact h
          · exfalso
            simp [World.cell?, Addr.add, Array.getElem?_eq_none h] at hc
        · have hk' : k < len := by simp at hk; omega
          have hck := hcell k (by omega)
          rw [Addr.add_lit] at hck
          rw [hck, e k hk']
theorem reads_of_ints {W : World} {a : Addr} {zs : List Int} {n cap : Nat} (hl : n ≤ cap) (hz : zs.length = cap) (hw : ∀ z ∈ zs, (Lit.int .u8 z).wf = true) (hcell : ∀ c, c < cap → W.cell? (a.add c) = some (.int .u8 (zs.getD c 0))) :
    Reads W (some a) ((zs.take n).map fun z => UInt8.ofNat z.toNat) := by
  by_cases h0 : n = 0
  · subst h0; exact .inl (by simp)
  · obtain ⟨b, off, spot⟩ := a
    have hc := hcell 0 (by omega)
    have hspot : spot = none := by simpa [Addr.add] using World.cell?_spot hc
    subst hspot
    refine .inr ⟨b, off, rfl, ?_, fun k hk => ?_⟩
    · rcases Nat.lt_or_ge b W.heap.size with h | h
      · exact h
      · exfalso
        simp [World.cell?, Addr.add, Array.getElem?_eq_none h] at hc
    · have hk' : k < n := by simp at hk; omega
      have hck := hcell k (by omega)
      rw [Addr.add_lit] at hck
      rw [hck]
      congr 2
      have hmem : zs.getD k 0 ∈ zs := by
        simp only [List.getD, List.getElem?_eq_getElem (show k < zs.length by omega), Option.getD_some]
        exact List.getElem_mem _
      have hb := bounds_u8 (hw _ hmem)
      have e : ((zs.take n).map fun z => UInt8.ofNat z.toNat).getD k 0 = UInt8.ofNat (zs.getD k 0).toNat := by
        simp [List.getD, hk', show k < zs.length by omega]
      rw [e]
      unfold B
      rw [UInt8.toNat_ofNat']
      omega

theorem texts_of {H : Type} {enc : TypeId × Value → H} {W : World} {base : Nat} {held : Bool} {a : Option Addr} {len cap : Nat} {d : DataW H} {p : List MemPlace}
    (h : DataW.Trod enc Tryz.prog W base (fun _ => true) held 169 (.slice a len cap) d p) : ∃ ps : List Part, ps.length = len ∧ len ≤ cap ∧ cap ≤ 9223372036854775807 ∧ ReadsAll W a ps := by
  obtain ⟨fuel, hf⟩ := h
  rcases Go.Deep.open_int_rows Tryz.underlying169 Tryz.underlying32 Tryz.underlying5 cells_bytes cells_u8 hf with ⟨hcs, _⟩ | ⟨x, l, c, A, L, C, Z, hcs, _, hl, hm, _, hrow⟩
  · simp [Value.cells] at hcs
    obtain ⟨rfl, rfl, rfl⟩ := hcs
    exact ⟨[], rfl, Nat.le_refl _, by omega, .inl rfl⟩
  · simp [Value.cells] at hcs
    obtain ⟨rfl, rfl, rfl⟩ := hcs
    refine ⟨(List.range len).map fun r => ⟨A r, C r, ((Z r).take (L r)).map fun z => UInt8.ofNat z.toNat⟩, by simp, hl, by simpa [maxLen] using hm, ?_⟩
    by_cases h0 : len = 0
    · subst h0; exact .inl (by simp)
    · obtain ⟨b, off, spot⟩ := x
      have hc := (hrow 0 (by omega)).1
      have hspot : spot = none := by simpa [Addr.add] using World.cell?_spot hc
      subst hspot
      refine .inr ⟨b, off, rfl, ?_, fun k hk => ?_⟩
      · rcases Nat.lt_or_ge b W.heap.size with h | h
        · exact h
        · exfalso
          simp [World.cell?, Addr.add, Array.getElem?_eq_none h] at hc
      · have hk' : k < len := by simpa using hk
        obtain ⟨r1, r2, r3, r4, r5, r6, r7⟩ := hrow k (by omega)
        have hlen : (((Z k).take (L k)).map fun z => UInt8.ofNat z.toNat).length = L k := by simp; omega
        rw [Addr.add_lit] at r1
        simp only [List.getElem_map, List.getElem_range]
        refine ⟨?_, ?_, ?_⟩
        · rw [r1]; unfold Part.val; simp only; rw [hlen]
        · rw [hlen]; have : C k ≤ maxLen := r3; unfold maxLen at this; omega
        · cases hA : A k with
          | none =>
            refine .inl (List.eq_nil_of_length_eq_zero ?_)
            rw [hlen]; have := r6 hA; omega
          | some a' => exact reads_of_ints r2 r4 r5 (r7 a' hA).2
end Go.Proofs.YtfdppggdgdnnaaaGreatDoor

namespace Go.Proofs.YtfdppggdgdnnaaaGreatDoor
open Go.RowKit Go.ChangeShapes Go.WideShapes Go.ChangeAt Go.Joins Go.Deep

theorem slice_of_trod {H : Type} {enc : TypeId × Value → H} {W : World} {base : Nat} {spare : Nat → Bool} {held : Bool} {n : Nat} {v : Value} {y : DataW H × List MemPlace}
    (h : DataW.trod enc Tryz.prog W base spare held n 32 [v] = some y) : ∃ (A : Option Addr) (l : List UInt8) (cap : Nat), v = .slice A l.length cap ∧ Arg W A cap l := by
  rcases open_ints Tryz.underlying32 Tryz.underlying5 cells_u8 h with ⟨hcs, _⟩ | ⟨x, l, c, zs, hcs, _⟩
  · simp at hcs
    subst hcs
    exact ⟨none, [], 0, rfl, ⟨Nat.le_refl _, by omega, fun _ => rfl, .inl rfl⟩⟩
  · simp at hcs
    subst hcs
    have h' : DataW.Trod enc Tryz.prog W base spare held 32 (.slice (some x) l c) y.1 y.2 := ⟨n, by simpa [Value.cells] using h⟩
    obtain ⟨l', hl, ha⟩ := arg_of h'
    exact ⟨some x, l', c, by rw [hl], ha⟩
theorem rec_cells : Tryz.prog.cellsOf 81 = 3 := by kernel_rfl
theorem rec_fields : ∃ f0 f1 f2 : Field, Tryz.prog.underlying 81 = some (.struct #[f0, f1, f2]) ∧ (f0.type = 2 ∧ f0.offset = 0) ∧ (f1.type = 32 ∧ f1.offset = 1) ∧ (f2.type = 32 ∧ f2.offset = 2) :=
  ⟨_, _, _, Tryz.underlying81, ⟨rfl, rfl⟩, ⟨rfl, rfl⟩, ⟨rfl, rfl⟩⟩
theorem bat_fields : ∃ f0 f1 f2 : Field, Tryz.prog.underlying 41 = some (.struct #[f0, f1, f2]) ∧ oneCellFields Tryz.prog #[f0, f1, f2] = true ∧ f0.type = 2 ∧ f1.type = 3 ∧ f2.type = 39 :=
  ⟨_, _, _, Tryz.underlying41, by kernel_rfl, rfl, rfl, rfl⟩
theorem bat_cells : Tryz.prog.cellsOf 41 = 3 := by kernel_rfl

theorem recs_of {H : Type} {enc : TypeId × Value → H} {W : World} {base : Nat} {spare : Nat → Bool} {held : Bool} {n : Nat} {v : Value} {y : DataW H × List MemPlace}
    (h : DataW.trod enc Tryz.prog W base spare held n 39 [v] = some y) : ∃ (A : Option Addr) (rs : List Rc.Rec) (cap : Nat), v = .slice A rs.length cap ∧ rs.length ≤ cap ∧ cap ≤ 9223372036854775807 ∧ Recs W A rs := by
  rcases Go.Deep.open_slice Tryz.underlying39 h with ⟨hcs, _⟩ | ⟨x, l, c, m, n, D, Pl, hcs, _, hl, hm, hmm, _, hi⟩
  · simp at hcs
    subst hcs
    exact ⟨none, [], 0, rfl, Nat.le_refl _, by omega, .inl rfl⟩
  · simp at hcs
    subst hcs
    have one : ∀ i, i < l → ∃ r : Rc.Rec, ∃ Ak ck Av cv, W.cell? (x.add (i * 3)) = some (.int .i64 r.t) ∧ W.cell? (x.add (i * 3 + 1)) = some (.slice Ak r.k.length ck) ∧ W.cell? (x.add (i * 3 + 2)) = some (.slice Av r.v.length cv) ∧ Arg W Ak ck r.k ∧ Arg W Av cv r.v := by
      intro i hil
      have him : i < m := by split at hmm <;> omega
      obtain ⟨cs', hc, ht'⟩ := hi i him
      rw [rec_cells] at hc
      obtain ⟨f0, f1, f2, hu, ⟨a0, b0⟩, ⟨a1, b1⟩, ⟨a2, b2⟩⟩ := rec_fields
      obtain ⟨ys, n', _, _, _, hyl, hfd⟩ := DataW.trod_struct hu ht'
      obtain ⟨_, hcl, hat⟩ := World.cells?_some hc
      have hs : ∀ j, j < 3 → (ys[j]?).isSome = true := fun j hj => by
        have : j < ys.length := by rw [hyl]; exact hj
        simp [this]
      have g0 := hfd 0 f0 rfl
      have g1 := hfd 1 f1 rfl
      have g2 := hfd 2 f2 rfl
      rw [a0, b0] at g0
      rw [a1, b1] at g1
      rw [a2, b2] at g2
      obtain ⟨z0, e0, _⟩ : ∃ z, cs'[0]? = some (.int .i64 z) ∧ (Lit.int IntKind.i64 z).wf = true := by
        obtain ⟨x0, hx0⟩ := Option.isSome_iff_exists.1 (hs 0 (by omega))
        rw [hx0] at g0
        obtain ⟨z, h1, _, h2⟩ := DataW.trod_int Tryz.underlying2 g0
        rw [cells_i64] at h1
        refine ⟨z, ?_, h2⟩
        have h3 : ((cs'.drop 0).take 1)[0]? = some (.int .i64 z) := by rw [h1]; rfl
        simpa using h3
      have cell1 : ∀ j (f : Field), 0 < j → j < 3 → f.type = 32 → f.offset = j → DataW.trod enc Tryz.prog W base spare held n' 32 ((cs'.drop j).take (Tryz.prog.cellsOf 32)) = ys[j]? → ∃ (A : Option Addr) (l : List UInt8) (cap : Nat), cs'[j]? = some (.slice A l.length cap) ∧ Arg W A cap l := by
        intro j f h0 h3 _ _ g
        have hj : j < cs'.length := by omega
        rw [cells_bytes, List.drop_eq_getElem_cons hj, List.take_succ_cons, List.take_zero] at g
        obtain ⟨x0, hx0⟩ := Option.isSome_iff_exists.1 (hs j h3)
        rw [hx0] at g
        obtain ⟨A, l, cap, e, ha⟩ := slice_of_trod g
        exact ⟨A, l, cap, by rw [List.getElem?_eq_getElem hj, e], ha⟩
      obtain ⟨Ak, k, ck, e1, hk⟩ := cell1 1 f1 (by omega) (by omega) a1 b1 g1
      obtain ⟨Av, v, cv, e2, hv⟩ := cell1 2 f2 (by omega) (by omega) a2 b2 g2
      have h0 := hat 0 (by omega)
      have h1 := hat 1 (by omega)
      have h2 := hat 2 (by omega)
      rw [Go.Deep.add_add] at h0 h1 h2
      exact ⟨⟨z0, k, v⟩, Ak, ck, Av, cv, h0.trans e0, h1.trans e1, h2.trans e2, hk, hv⟩
    obtain ⟨V, hV⟩ := Go.Deep.choose_lt one
    have hg : ∀ k, k < l → ((List.range l).map V).getD k default = V k := fun k hk => by simp [List.getD, hk]
    refine ⟨some x, (List.range l).map V, c, by simp, by simpa using hl, by simpa [maxLen] using hm, ?_⟩
    by_cases h0 : l = 0
    · subst h0; exact .inl (by simp)
    · obtain ⟨b, off, spot⟩ := x
      obtain ⟨_, _, _, _, hc, _⟩ := hV 0 (by omega)
      have hspot : spot = none := by simpa [Addr.add] using World.cell?_spot hc
      subst hspot
      refine .inr ⟨b, off, rfl, ?_, fun k hk => ?_⟩
      · rcases Nat.lt_or_ge b W.heap.size with h | h
        · exact h
        · exfalso
          simp [World.cell?, Addr.add, Array.getElem?_eq_none h] at hc
      · have hk' : k < l := by simpa using hk
        obtain ⟨Ak, ck, Av, cv, r0, r1, r2, hk1, hk2⟩ := hV k hk'
        rw [Addr.add_lit] at r0 r1 r2
        rw [hg k hk']
        exact ⟨Ak, ck, Av, cv, r0, r1, r2, hk1, hk2⟩

set_option maxRecDepth 100000 in
theorem bat_of {H : Type} {enc : TypeId × Value → H} {W : World} {base : Nat} {spare : Nat → Bool} {held : Bool} {r : Reach} {b0 : Nat} {v : Value} {d : DataW H} {p : List MemPlace}
    (hv : Value.okWide Tryz.prog W r b0 41 v) (h : DataW.Trod enc Tryz.prog W base spare held 41 v d p) : ∃ (b : Rc.Bat) (A : Option Addr) (cap : Nat), v = batV b.base b.epoch A b.recs.length cap ∧ IsBat W A cap b := by
  obtain ⟨f0, f1, f2, hu, hone, t0, t1, t2⟩ := bat_fields
  obtain ⟨v0, v1, v2, y0, y1, y2, n, rfl, _, _, h0, h1, h2⟩ := open_agg3 hu hone bat_cells hv h
  rw [t0] at h0
  rw [t1] at h1
  rw [t2] at h2
  obtain ⟨z0, e0, _, w0⟩ := DataW.trod_int Tryz.underlying2 h0
  obtain ⟨z1, e1, _, w1⟩ := DataW.trod_int Tryz.underlying3 h1
  obtain ⟨A, rs, cap, e2, hl, hm, hr⟩ := recs_of h2
  simp at e0 e1
  subst e0 e1 e2
  have q0 := bounds_i64 w0
  have q1 := bounds_i64 w1
  exact ⟨⟨z0, z1, rs⟩, A, cap, rfl, ⟨hl, hm, hr, ⟨q0.1, q0.2⟩, ⟨q1.1, q1.2⟩⟩⟩
end Go.Proofs.YtfdppggdgdnnaaaGreatDoor
