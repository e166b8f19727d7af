/-
  bytes.Clone and rec's cloneRecord once more: what they make may be written into.
-/
import Derived.Test.YtomnkgppldgpkaaDoorRcC
import Derived.Test.YtomnkgppldgpkaaDoorOwnSet
namespace Go.Proofs.YtomnkgppldgpkaaDoor
open Go.RowKit

/-- The bytes lie in a block from lo on that may be written. -/
def Free (w : World) (lo : Nat) (A : Option Addr) (l : List UInt8) : Prop :=
  (∀ b off, A = some ⟨b, off, none⟩ → lo ≤ b ∧ b < w.heap.size) ∧ (l ≠ [] → ∀ b off, A = some ⟨b, off, none⟩ → ∀ k, w.frozen? ⟨b, k, none⟩ = false)
theorem Free.below {w w' : World} {C lo : Nat} {A : Option Addr} {l : List UInt8} (h : Free w lo A l) (hb : Below C w w') (hC : w.heap.size ≤ C) : Free w' lo A l :=
  ⟨fun b off e => ⟨(h.1 b off e).1, Nat.lt_of_lt_of_le (h.1 b off e).2 hb.size⟩, fun hl b off e k => (hb.frozen (p := ⟨b, k, none⟩) (by have := (h.1 b off e).2; show b < C; omega)).trans (h.2 hl b off e k)⟩
theorem Free.mono {w : World} {lo lo' : Nat} {A : Option Addr} {l : List UInt8} (h : Free w lo A l) (hl : lo' ≤ lo) : Free w lo' A l := ⟨fun b off e => ⟨Nat.le_trans hl (h.1 b off e).1, (h.1 b off e).2⟩, h.2⟩
theorem Free.set {w : World} {lo : Nat} {A : Option Addr} {l : List UInt8} (h : Free w lo A l) (g k : Nat) (x : Value) : Free (w.setCell ⟨g, k, none⟩ x) lo A l :=
  ⟨fun b off e => by rw [World.size_setCell]; exact h.1 b off e, fun hl b off e j => by rw [World.frozen?_setCell]; exact h.2 hl b off e j⟩
theorem Own.free {w : World} {base : Nat} {A : Option Addr} {n c : Nat} {l : List UInt8} (h : Own w base (.slice A n c) l) : Free w base A l := by
  refine ⟨fun b off e => ?_, fun hl b off e => ?_⟩
  · subst e; exact h.lt b rfl
  · obtain ⟨g, c', hv, _, _, _, hf, _⟩ := h.open_ (List.length_pos_iff.2 hl)
    injection hv with h1 h2 h3
    rw [e] at h1
    injection h1 with h1
    injection h1 with h1 _
    subst h1
    exact hf

set_option maxRecDepth 100000 in
theorem clone_free (A : Option Addr) (cap n : Nat) (l : List UInt8) (w : World) (hn : l.length = n) (hl : n ≤ 1000000) (ha : Arg w A cap l) :
    Calls Tryd.prog 37 #[.slice A n cap] w fun e w' => ∃ A' c', e = .returned (.slice A' n c') ∧ Arg w' A' c' l ∧ Free w' w.heap.size A' l ∧ Below w.heap.size w w' := by
  have ks := fun W => Lib.run_eql_slice_nil (P := Tryd.prog) W 22 5 A n cap 0 0 Tryd.underlying22
  cases A with
  | none =>
    have h0 : l = [] := by
      have := ha.nil rfl
      have := ha.le
      exact List.eq_nil_of_length_eq_zero (by omega)
    subst h0
    obtain rfl : n = 0 := hn.symm
    have hc := ha.nil rfl
    subst hc
    have HA := hide ha
    clear ha hn
    go_enter Tryd.func37, Tryd.ntmps37
    go_wp2_with fail
    go_ret
    exact ⟨none, 0, rfl, HA.out, ⟨fun b off h => (by cases h), fun _ b off h => (by cases h)⟩, Below.refl _ _⟩
  | some a =>
    have HA := hide ha
    have HN := hide hn
    have HO := hide (Own.empty w w.heap.size (Nat.le_refl _))
    clear ha hn
    go_enter Tryd.func37, Tryd.ntmps37
    go_wp2_with (at_builtin; refine wpList_app (w := w.alloc _) rfl (.tmp 5) (.tmp 6) rfl w.heap.size _ [] l rfl HO.out (some a) n cap rfl HN.out (HA.out.reads.alloc _) (by simp; omega) (by simp) ?_; intro v w3 hown3 hg3 hv3)
    have hb : Below w.heap.size w w3 := (balloc (Below.refl _ _) _).grown hg3 (by simp) (fun g hg => (HO.out.lt g hg).1)
    rw [List.nil_append] at hown3
    obtain ⟨A', c', rfl, ha'⟩ := hown3.arg
    have hf := hown3.free
    rw [HN.out]
    go_ret
    exact ⟨A', c', rfl, ha', hf, hb⟩

set_option maxRecDepth 100000 in
set_option maxHeartbeats 1000000 in
theorem cloneRecord_free (t : Int) (k v : List UInt8) (A Bx : Option Addr) (ca cb nk nv : Nat) (w : World) (hk : k.length = nk) (hv : v.length = nv) (hkl : nk ≤ 1000000) (hvl : nv ≤ 1000000) (h1 : Arg w A ca k) (h2 : Arg w Bx cb v) :
    Calls Tryd.prog 33 #[recV t A nk ca Bx nv cb] w fun e w' => ∃ A' c1 B' c2, e = .returned (recV t A' nk c1 B' nv c2) ∧ Arg w' A' c1 k ∧ Arg w' B' c2 v ∧ Free w' w.heap.size A' k ∧ Free w' w.heap.size B' v ∧ Below w.heap.size w w' := by
  obtain ⟨W1, hW1⟩ : ∃ W1, W1 = w.alloc (.cells #[.int .i64 t, .slice A nk ca, .slice Bx nv cb] 48) := ⟨_, rfl⟩
  obtain ⟨m0, m1, m2⟩ := made3 w (.int .i64 t) (.slice A nk ca) (.slice Bx nv cb) 48
  rw [← hW1] at m0 m1 m2
  have b1 : Below w.heap.size w W1 := hW1 ▸ balloc (Below.refl _ _) _
  have z1 : W1.heap.size = w.heap.size + 1 := by rw [hW1]; simp
  have HB := hide b1
  have HK := hide (fun W (hw : Below w.heap.size w W) => clone_free A ca nk k W hk hkl (h1.below hw (Nat.le_refl _)))
  have HV := hide (fun W (hw : Below w.heap.size w W) => clone_free Bx cb nv v W hv hvl (h2.below hw (Nat.le_refl _)))
  have HW := hide hW1
  clear h1 h2 hk hv b1 hW1
  go_enter Tryd.func33, Tryd.ntmps33
  go_upto_region 1 with fail
  rw [← HW.out]
  obtain ⟨W2, hW2⟩ : ∃ W2, W2 = W1.alloc (.cells #[.int .i64 0, .slice none 0 0, .slice none 0 0] 48) := ⟨_, rfl⟩
  have b2 : Below W1.heap.size W1 W2 := hW2 ▸ balloc (Below.refl _ _) _
  have HB2 := hide (HB.out.trans (b2.mono HB.out.size))
  have z2 : W2.heap.size = w.heap.size + 2 := by rw [hW2]; simp [z1]
  have hres : Res3 W2 W1.heap.size (.int .i64 0) (.slice none 0 0) (.slice none 0 0) := hW2 ▸ Res3.new W1 _ _ _ 48
  rw [z1] at hres
  have o0 := (b2.cell (p := ⟨w.heap.size, 0, none⟩) (by show w.heap.size < _; omega)).trans m0
  have o1 := (b2.cell (p := ⟨w.heap.size, 1, none⟩) (by show w.heap.size < _; omega)).trans m1
  have o2 := (b2.cell (p := ⟨w.heap.size, 2, none⟩) (by show w.heap.size < _; omega)).trans m2
  have e2 : W1.alloc (.cells #[.int .i64 0, .slice none 0 0, .slice none 0 0] 48) = W2 := hW2.symm
  rw [e2]
  clear e2 hW2 b2 m0 m1 m2 HW
  have hresd : Res3 W2.drew (w.heap.size + 1) (.int .i64 0) (.slice none 0 0) (.slice none 0 0) := ⟨hres.c0, hres.c1, hres.c2, hres.f⟩
  clear hres
  have hfst : Below w.heap.size w W2.drew := HB2.out.drew
  go_region_held3 (fun w' => w'.cell? ⟨w.heap.size, 0, none⟩ = some (.int .i64 t) ∧ w'.cell? ⟨w.heap.size, 1, none⟩ = some (.slice A nk ca) ∧ w'.cell? ⟨w.heap.size, 2, none⟩ = some (.slice Bx nv cb)) (go_keep)
    (first
      | (go_at_call 37; (with_reducible refine (HK.out _ hfst).mono ?_); rintro e w7 ⟨A7, c7, rfl, ha7, hn7, hb7⟩; have hk7 : w7.cell? ⟨w.heap.size, 0, none⟩ = some (.int .i64 t) ∧ w7.cell? ⟨w.heap.size, 1, none⟩ = some (.slice A nk ca) ∧ w7.cell? ⟨w.heap.size, 2, none⟩ = some (.slice Bx nv cb) := ⟨(hb7.cell (p := ⟨w.heap.size, 0, none⟩) (by show w.heap.size < W2.heap.size; omega)).trans o0, (hb7.cell (p := ⟨w.heap.size, 1, none⟩) (by show w.heap.size < W2.heap.size; omega)).trans o1, (hb7.cell (p := ⟨w.heap.size, 2, none⟩) (by show w.heap.size < W2.heap.size; omega)).trans o2⟩; have hres7 := hresd.below hb7 (by show w.heap.size + 1 < W2.heap.size; omega); have hsec : Below w.heap.size w w7 := hfst.trans (hb7.mono hfst.size); have hz7 : W2.heap.size ≤ w7.heap.size := hb7.size)
      | (go_at_call 37; (with_reducible refine (HV.out _ hsec).mono ?_); rintro e w8 ⟨B8, c8, rfl, ha8, hn8, hb8⟩; have hk8 : w8.cell? ⟨w.heap.size, 0, none⟩ = some (.int .i64 t) ∧ w8.cell? ⟨w.heap.size, 1, none⟩ = some (.slice A nk ca) ∧ w8.cell? ⟨w.heap.size, 2, none⟩ = some (.slice Bx nv cb) := ⟨(hb8.cell (p := ⟨w.heap.size, 0, none⟩) (by show w.heap.size < w7.heap.size; omega)).trans hk7.1, (hb8.cell (p := ⟨w.heap.size, 1, none⟩) (by show w.heap.size < w7.heap.size; omega)).trans hk7.2.1, (hb8.cell (p := ⟨w.heap.size, 2, none⟩) (by show w.heap.size < w7.heap.size; omega)).trans hk7.2.2⟩; have hres8 := hres7.below hb8 (by omega); have r0 := hres8.c0; have r1 := hres8.c1; have r2 := hres8.c2; have rf0 := hres8.f 0; have rf1 := hres8.f 1; have rf2 := hres8.f 2)
      | fail)
  have hz8 : w7.heap.size ≤ w8.heap.size := hb8.size
  have hb9 := (((hsec.trans (hb8.mono hsec.size)).setCell (p := ⟨w.heap.size + 1, 0, none⟩) (by show w.heap.size ≤ w.heap.size + 1; omega) (.int .i64 t)).setCell (p := ⟨w.heap.size + 1, 1, none⟩) (by show w.heap.size ≤ w.heap.size + 1; omega) (.slice A7 nk c7)).setCell (p := ⟨w.heap.size + 1, 2, none⟩) (by show w.heap.size ≤ w.heap.size + 1; omega) (.slice B8 nv c8)
  obtain ⟨s0, s1, s2⟩ := hres8.cells (.int .i64 t) (.slice A7 nk c7) (.slice B8 nv c8)
  have a7 := (ha7.below hb8 (Nat.le_refl _)).set3 (w.heap.size + 1) (fun b off e => by have h : W2.heap.size ≤ b := (hn7.1 b off e).1; omega) (.int .i64 t) (.slice A7 nk c7) (.slice B8 nv c8)
  have a8 := ha8.set3 (w.heap.size + 1) (fun b off e => by have h := (hn8.1 b off e).1; omega) (.int .i64 t) (.slice A7 nk c7) (.slice B8 nv c8)
  have HB9 := hide hb9
  have HA7 := hide a7
  have HA8 := hide a8
  have HN7 := hide (((((hn7.below hb8 (Nat.le_refl _)).mono (show w.heap.size ≤ W2.heap.size by omega)).set (w.heap.size + 1) 0 (.int .i64 t)).set (w.heap.size + 1) 1 (.slice A7 nk c7)).set (w.heap.size + 1) 2 (.slice B8 nv c8))
  have HN8 := hide ((((hn8.mono (show w.heap.size ≤ w7.heap.size by omega)).set (w.heap.size + 1) 0 (.int .i64 t)).set (w.heap.size + 1) 1 (.slice A7 nk c7)).set (w.heap.size + 1) 2 (.slice B8 nv c8))
  clear hb9 a7 a8 hn7 hn8 hk7 hk8 r0 r1 r2 rf0 rf1 rf2 hres7 hres8 hb7 hb8
  go_wp2_with fail
  refine bodyPost_ret (v := recV t A7 nk c7 B8 nv c8) (by simp [results, Tryd.results33, go_sem, s0, s1, s2]) rfl ⟨A7, c7, B8, c8, rfl, HA7.out, HA8.out, HN7.out, HN8.out, HB9.out⟩

end Go.Proofs.YtomnkgppldgpkaaDoor
