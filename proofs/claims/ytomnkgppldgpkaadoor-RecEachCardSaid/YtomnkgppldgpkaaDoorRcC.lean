/-
  The walk through rec's cloneRecord: a record with bytes of its own.
-/
import Derived.Test.YtomnkgppldgpkaaDoorRSame
import Derived.Test.YtomnkgppldgpkaaDoorVMeth
namespace Go.Proofs.YtomnkgppldgpkaaDoor
open Go.RowKit

/-- A result's cell of three parts. -/
structure Res3 (w : World) (g : Nat) (a b c : Value) : Prop where
  c0 : w.cell? ⟨g, 0, none⟩ = some a
  c1 : w.cell? ⟨g, 1, none⟩ = some b
  c2 : w.cell? ⟨g, 2, none⟩ = some c
  f : ∀ k, w.frozen? ⟨g, k, none⟩ = false
theorem Res3.new (w : World) (a b c : Value) (t : TypeId) : Res3 (w.alloc (.cells #[a, b, c] t)) w.heap.size a b c := by
  obtain ⟨m0, m1, m2⟩ := made3 w a b c t
  exact ⟨m0, m1, m2, fun k => by simp [go_sem]⟩
theorem Res3.below {w w' : World} {g C : Nat} {a b c : Value} (h : Res3 w g a b c) (hb : Below C w w') (hg : g < C) : Res3 w' g a b c :=
  ⟨(hb.cell (p := ⟨g, 0, none⟩) hg).trans h.c0, (hb.cell (p := ⟨g, 1, none⟩) hg).trans h.c1, (hb.cell (p := ⟨g, 2, none⟩) hg).trans h.c2, fun k => (hb.frozen (p := ⟨g, k, none⟩) hg).trans (h.f k)⟩
theorem Res3.cells {w : World} {g : Nat} {a b c : Value} (h : Res3 w g a b c) (x0 x1 x2 : Value) :
    (((w.setCell ⟨g, 0, none⟩ x0).setCell ⟨g, 1, none⟩ x1).setCell ⟨g, 2, none⟩ x2).cell? ⟨g, 0, none⟩ = some x0 ∧ (((w.setCell ⟨g, 0, none⟩ x0).setCell ⟨g, 1, none⟩ x1).setCell ⟨g, 2, none⟩ x2).cell? ⟨g, 1, none⟩ = some x1 ∧ (((w.setCell ⟨g, 0, none⟩ x0).setCell ⟨g, 1, none⟩ x1).setCell ⟨g, 2, none⟩ x2).cell? ⟨g, 2, none⟩ = some x2 := by
  refine ⟨?_, ?_, ?_⟩
  · rw [World.cell?_setCell_other _ _ _ _ (by simp), World.cell?_setCell_other _ _ _ _ (by simp)]; exact World.cell?_setCell_same _ _ _ h.c0
  · rw [World.cell?_setCell_other _ _ _ _ (by simp)]
    exact World.cell?_setCell_same _ _ _ ((World.cell?_setCell_other _ _ _ _ (by simp)).trans h.c1)
  · exact World.cell?_setCell_same _ _ _ (((World.cell?_setCell_other _ _ _ _ (by simp)).trans (World.cell?_setCell_other _ _ _ _ (by simp))).trans h.c2)

theorem Arg.set3 {w : World} {A : Option Addr} {cap : Nat} {l : List UInt8} (h : Arg w A cap l) (g : Nat) (hne : ∀ b off, A = some ⟨b, off, none⟩ → b ≠ g) (x0 x1 x2 : Value) : Arg (((w.setCell ⟨g, 0, none⟩ x0).setCell ⟨g, 1, none⟩ x1).setCell ⟨g, 2, none⟩ x2) A cap l := by
  have hn : l ≠ [] → ∀ b off, A = some ⟨b, off, none⟩ → some b ≠ some g := fun _ b off e e2 => hne b off e (by injection e2)
  exact ((h.grown (grown_set w g 0 x0) hn).grown (grown_set (w.setCell ⟨g, 0, none⟩ x0) g 1 x1) hn).grown (grown_set ((w.setCell ⟨g, 0, none⟩ x0).setCell ⟨g, 1, none⟩ x1) g 2 x2) hn

set_option maxRecDepth 100000 in
set_option maxHeartbeats 1000000 in
theorem cloneRecord_any (t : Int) (k v : List UInt8) (A Bx : Option Addr) (ca cb nk nv : Nat) (w : World) (hk : k.length = nk) (hv : v.length = nv) (hkl : nk ≤ 1000000) (hvl : nv ≤ 1000000) (h1 : Arg w A ca k) (h2 : Arg w Bx cb v) :
    Calls Tryd.prog 33 #[recV t A nk ca Bx nv cb] w fun e w' => ∃ A' c1 B' c2, e = .returned (recV t A' nk c1 B' nv c2) ∧ Arg w' A' c1 k ∧ Arg w' B' c2 v ∧ (∀ b off, A' = some ⟨b, off, none⟩ → w.heap.size ≤ b ∧ b < w'.heap.size) ∧ (∀ b off, B' = some ⟨b, off, none⟩ → w.heap.size ≤ b ∧ b < w'.heap.size) ∧ Below w.heap.size w w' := by
  obtain ⟨W1, hW1⟩ : ∃ W1, W1 = w.alloc (.cells #[.int .i64 t, .slice A nk ca, .slice Bx nv cb] 48) := ⟨_, rfl⟩
  obtain ⟨m0, m1, m2⟩ := made3 w (.int .i64 t) (.slice A nk ca) (.slice Bx nv cb) 48
  rw [← hW1] at m0 m1 m2
  have b1 : Below w.heap.size w W1 := hW1 ▸ balloc (Below.refl _ _) _
  have z1 : W1.heap.size = w.heap.size + 1 := by rw [hW1]; simp
  have HB := hide b1
  have HK := hide (fun W (hw : Below w.heap.size w W) => clone_any A ca nk k W hk hkl (h1.below hw (Nat.le_refl _)))
  have HV := hide (fun W (hw : Below w.heap.size w W) => clone_any Bx cb nv v W hv hvl (h2.below hw (Nat.le_refl _)))
  have HW := hide hW1
  clear h1 h2 hk hv b1 hW1
  go_enter Tryd.func33, Tryd.ntmps33
  go_upto_region 1 with fail
  rw [← HW.out]
  obtain ⟨W2, hW2⟩ : ∃ W2, W2 = W1.alloc (.cells #[.int .i64 0, .slice none 0 0, .slice none 0 0] 48) := ⟨_, rfl⟩
  have b2 : Below W1.heap.size W1 W2 := hW2 ▸ balloc (Below.refl _ _) _
  have HB2 := hide (HB.out.trans (b2.mono HB.out.size))
  have z2 : W2.heap.size = w.heap.size + 2 := by rw [hW2]; simp [z1]
  have hres : Res3 W2 W1.heap.size (.int .i64 0) (.slice none 0 0) (.slice none 0 0) := hW2 ▸ Res3.new W1 _ _ _ 48
  rw [z1] at hres
  have o0 := (b2.cell (p := ⟨w.heap.size, 0, none⟩) (by show w.heap.size < _; omega)).trans m0
  have o1 := (b2.cell (p := ⟨w.heap.size, 1, none⟩) (by show w.heap.size < _; omega)).trans m1
  have o2 := (b2.cell (p := ⟨w.heap.size, 2, none⟩) (by show w.heap.size < _; omega)).trans m2
  have e2 : W1.alloc (.cells #[.int .i64 0, .slice none 0 0, .slice none 0 0] 48) = W2 := hW2.symm
  rw [e2]
  clear e2 hW2 b2 m0 m1 m2 HW
  have hresd : Res3 W2.drew (w.heap.size + 1) (.int .i64 0) (.slice none 0 0) (.slice none 0 0) := ⟨hres.c0, hres.c1, hres.c2, hres.f⟩
  clear hres
  have hfst : Below w.heap.size w W2.drew := HB2.out.drew
  go_region_held3 (fun w' => w'.cell? ⟨w.heap.size, 0, none⟩ = some (.int .i64 t) ∧ w'.cell? ⟨w.heap.size, 1, none⟩ = some (.slice A nk ca) ∧ w'.cell? ⟨w.heap.size, 2, none⟩ = some (.slice Bx nv cb)) (go_keep)
    (first
      | (go_at_call 37; (with_reducible refine (HK.out _ hfst).mono ?_); rintro e w7 ⟨A7, c7, rfl, ha7, hn7, hb7⟩; have hk7 : w7.cell? ⟨w.heap.size, 0, none⟩ = some (.int .i64 t) ∧ w7.cell? ⟨w.heap.size, 1, none⟩ = some (.slice A nk ca) ∧ w7.cell? ⟨w.heap.size, 2, none⟩ = some (.slice Bx nv cb) := ⟨(hb7.cell (p := ⟨w.heap.size, 0, none⟩) (by show w.heap.size < W2.heap.size; omega)).trans o0, (hb7.cell (p := ⟨w.heap.size, 1, none⟩) (by show w.heap.size < W2.heap.size; omega)).trans o1, (hb7.cell (p := ⟨w.heap.size, 2, none⟩) (by show w.heap.size < W2.heap.size; omega)).trans o2⟩; have hres7 := hresd.below hb7 (by show w.heap.size + 1 < W2.heap.size; omega); have hsec : Below w.heap.size w w7 := hfst.trans (hb7.mono hfst.size); have hz7 : W2.heap.size ≤ w7.heap.size := hb7.size)
      | (go_at_call 37; (with_reducible refine (HV.out _ hsec).mono ?_); rintro e w8 ⟨B8, c8, rfl, ha8, hn8, hb8⟩; have hk8 : w8.cell? ⟨w.heap.size, 0, none⟩ = some (.int .i64 t) ∧ w8.cell? ⟨w.heap.size, 1, none⟩ = some (.slice A nk ca) ∧ w8.cell? ⟨w.heap.size, 2, none⟩ = some (.slice Bx nv cb) := ⟨(hb8.cell (p := ⟨w.heap.size, 0, none⟩) (by show w.heap.size < w7.heap.size; omega)).trans hk7.1, (hb8.cell (p := ⟨w.heap.size, 1, none⟩) (by show w.heap.size < w7.heap.size; omega)).trans hk7.2.1, (hb8.cell (p := ⟨w.heap.size, 2, none⟩) (by show w.heap.size < w7.heap.size; omega)).trans hk7.2.2⟩; have hres8 := hres7.below hb8 (by omega); have r0 := hres8.c0; have r1 := hres8.c1; have r2 := hres8.c2; have rf0 := hres8.f 0; have rf1 := hres8.f 1; have rf2 := hres8.f 2)
      | fail)
  have hz8 : w7.heap.size ≤ w8.heap.size := hb8.size
  have hb9 := (((hsec.trans (hb8.mono hsec.size)).setCell (p := ⟨w.heap.size + 1, 0, none⟩) (by show w.heap.size ≤ w.heap.size + 1; omega) (.int .i64 t)).setCell (p := ⟨w.heap.size + 1, 1, none⟩) (by show w.heap.size ≤ w.heap.size + 1; omega) (.slice A7 nk c7)).setCell (p := ⟨w.heap.size + 1, 2, none⟩) (by show w.heap.size ≤ w.heap.size + 1; omega) (.slice B8 nv c8)
  obtain ⟨s0, s1, s2⟩ := hres8.cells (.int .i64 t) (.slice A7 nk c7) (.slice B8 nv c8)
  have a7 := (ha7.below hb8 (Nat.le_refl _)).set3 (w.heap.size + 1) (fun b off e => by have h : W2.heap.size ≤ b := (hn7 b off e).1; omega) (.int .i64 t) (.slice A7 nk c7) (.slice B8 nv c8)
  have a8 := ha8.set3 (w.heap.size + 1) (fun b off e => by have h := (hn8 b off e).1; omega) (.int .i64 t) (.slice A7 nk c7) (.slice B8 nv c8)
  have HB9 := hide hb9
  have HA7 := hide a7
  have HA8 := hide a8
  have HN7 := hide (fun b off e => (⟨by have h : W2.heap.size ≤ b := (hn7 b off e).1; omega, by have h := (hn7 b off e).2; omega⟩ : w.heap.size ≤ b ∧ b < w8.heap.size))
  have HN8 := hide (fun b off e => (⟨by have h := (hn8 b off e).1; omega, by have h := (hn8 b off e).2; omega⟩ : w.heap.size ≤ b ∧ b < w8.heap.size))
  clear hb9 a7 a8 hn7 hn8 hk7 hk8 r0 r1 r2 rf0 rf1 rf2 hres7 hres8 hb7 hb8
  go_wp2_with fail
  refine bodyPost_ret (v := recV t A7 nk c7 B8 nv c8) (by simp [results, Tryd.results33, go_sem, s0, s1, s2]) rfl ⟨A7, c7, B8, c8, rfl, HA7.out, HA8.out, fun b off e => by simpa using HN7.out b off e, fun b off e => by simpa using HN8.out b off e, HB9.out⟩
end Go.Proofs.YtomnkgppldgpkaaDoor
