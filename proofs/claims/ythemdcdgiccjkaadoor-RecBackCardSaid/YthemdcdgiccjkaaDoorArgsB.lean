/-
  What a row's reading says of an argument that is a batch.
-/
import Derived.Test.YthemdcdgiccjkaaDoorArgsR
import Derived.Test.YthemdcdgiccjkaaDoorRcM
import Derived.Deep.Slices
import Derived.Deep.Fields
import Derived.ChangeSame
import Derived.Lib.SmallJoins
namespace Go.Proofs.YthemdcdgiccjkaaDoor
open Go.RowKit Go.ChangeShapes Go.WideShapes Go.ChangeAt Go.Joins Go.Deep

theorem slice_of_trod {H : Type} {enc : TypeId × Value → H} {W : World} {base : Nat} {spare : Nat → Bool} {held : Bool} {n : Nat} {v : Value} {y : DataW H × List MemPlace}
    (h : DataW.trod enc Tryd.prog W base spare held n 22 [v] = some y) : ∃ (A : Option Addr) (l : List UInt8) (cap : Nat), v = .slice A l.length cap ∧ Arg W A cap l := by
  rcases open_ints Tryd.underlying22 Tryd.underlying5 cells_u8 h with ⟨hcs, _⟩ | ⟨x, l, c, zs, hcs, _⟩
  · simp at hcs
    subst hcs
    exact ⟨none, [], 0, rfl, ⟨Nat.le_refl _, by omega, fun _ => rfl, .inl rfl⟩⟩
  · simp at hcs
    subst hcs
    have h' : DataW.Trod enc Tryd.prog W base spare held 22 (.slice (some x) l c) y.1 y.2 := ⟨n, by simpa [Value.cells] using h⟩
    obtain ⟨l', hl, ha⟩ := arg_of h'
    exact ⟨some x, l', c, by rw [hl], ha⟩
theorem rec_cells : Tryd.prog.cellsOf 57 = 3 := by kernel_rfl
theorem rec_fields : ∃ f0 f1 f2 : Field, Tryd.prog.underlying 57 = some (.struct #[f0, f1, f2]) ∧ (f0.type = 2 ∧ f0.offset = 0) ∧ (f1.type = 22 ∧ f1.offset = 1) ∧ (f2.type = 22 ∧ f2.offset = 2) :=
  ⟨_, _, _, Tryd.underlying57, ⟨rfl, rfl⟩, ⟨rfl, rfl⟩, ⟨rfl, rfl⟩⟩
theorem bat_fields : ∃ f0 f1 f2 : Field, Tryd.prog.underlying 26 = some (.struct #[f0, f1, f2]) ∧ oneCellFields Tryd.prog #[f0, f1, f2] = true ∧ f0.type = 2 ∧ f1.type = 3 ∧ f2.type = 24 :=
  ⟨_, _, _, Tryd.underlying26, by kernel_rfl, rfl, rfl, rfl⟩
theorem bat_cells : Tryd.prog.cellsOf 26 = 3 := by kernel_rfl

theorem recs_of {H : Type} {enc : TypeId × Value → H} {W : World} {base : Nat} {spare : Nat → Bool} {held : Bool} {n : Nat} {v : Value} {y : DataW H × List MemPlace}
    (h : DataW.trod enc Tryd.prog W base spare held n 24 [v] = some y) : ∃ (A : Option Addr) (rs : List Rc.Rec) (cap : Nat), v = .slice A rs.length cap ∧ rs.length ≤ cap ∧ cap ≤ 9223372036854775807 ∧ Recs W A rs := by
  rcases Go.Deep.open_slice Tryd.underlying24 h with ⟨hcs, _⟩ | ⟨x, l, c, m, n, D, Pl, hcs, _, hl, hm, hmm, _, hi⟩
  · simp at hcs
    subst hcs
    exact ⟨none, [], 0, rfl, Nat.le_refl _, by omega, .inl rfl⟩
  · simp at hcs
    subst hcs
    have one : ∀ i, i < l → ∃ r : Rc.Rec, ∃ Ak ck Av cv, W.cell? (x.add (i * 3)) = some (.int .i64 r.t) ∧ W.cell? (x.add (i * 3 + 1)) = some (.slice Ak r.k.length ck) ∧ W.cell? (x.add (i * 3 + 2)) = some (.slice Av r.v.length cv) ∧ Arg W Ak ck r.k ∧ Arg W Av cv r.v := by
      intro i hil
      have him : i < m := by split at hmm <;> omega
      obtain ⟨cs', hc, ht'⟩ := hi i him
      rw [rec_cells] at hc
      obtain ⟨f0, f1, f2, hu, ⟨a0, b0⟩, ⟨a1, b1⟩, ⟨a2, b2⟩⟩ := rec_fields
      obtain ⟨ys, n', _, _, _, hyl, hfd⟩ := DataW.trod_struct hu ht'
      obtain ⟨_, hcl, hat⟩ := World.cells?_some hc
      have hs : ∀ j, j < 3 → (ys[j]?).isSome = true := fun j hj => by
        have : j < ys.length := by rw [hyl]; exact hj
        simp [this]
      have g0 := hfd 0 f0 rfl
      have g1 := hfd 1 f1 rfl
      have g2 := hfd 2 f2 rfl
      rw [a0, b0] at g0
      rw [a1, b1] at g1
      rw [a2, b2] at g2
      obtain ⟨z0, e0, _⟩ : ∃ z, cs'[0]? = some (.int .i64 z) ∧ (Lit.int IntKind.i64 z).wf = true := by
        obtain ⟨x0, hx0⟩ := Option.isSome_iff_exists.1 (hs 0 (by omega))
        rw [hx0] at g0
        obtain ⟨z, h1, _, h2⟩ := DataW.trod_int Tryd.underlying2 g0
        rw [cells_i64] at h1
        refine ⟨z, ?_, h2⟩
        have h3 : ((cs'.drop 0).take 1)[0]? = some (.int .i64 z) := by rw [h1]; rfl
        simpa using h3
      have cell1 : ∀ j (f : Field), 0 < j → j < 3 → f.type = 22 → f.offset = j → DataW.trod enc Tryd.prog W base spare held n' 22 ((cs'.drop j).take (Tryd.prog.cellsOf 22)) = ys[j]? → ∃ (A : Option Addr) (l : List UInt8) (cap : Nat), cs'[j]? = some (.slice A l.length cap) ∧ Arg W A cap l := by
        intro j f h0 h3 _ _ g
        have hj : j < cs'.length := by omega
        rw [cells_bytes, List.drop_eq_getElem_cons hj, List.take_succ_cons, List.take_zero] at g
        obtain ⟨x0, hx0⟩ := Option.isSome_iff_exists.1 (hs j h3)
        rw [hx0] at g
        obtain ⟨A, l, cap, e, ha⟩ := slice_of_trod g
        exact ⟨A, l, cap, by rw [List.getElem?_eq_getElem hj, e], ha⟩
      obtain ⟨Ak, k, ck, e1, hk⟩ := cell1 1 f1 (by omega) (by omega) a1 b1 g1
      obtain ⟨Av, v, cv, e2, hv⟩ := cell1 2 f2 (by omega) (by omega) a2 b2 g2
      have h0 := hat 0 (by omega)
      have h1 := hat 1 (by omega)
      have h2 := hat 2 (by omega)
      rw [Go.Deep.add_add] at h0 h1 h2
      exact ⟨⟨z0, k, v⟩, Ak, ck, Av, cv, h0.trans e0, h1.trans e1, h2.trans e2, hk, hv⟩
    obtain ⟨V, hV⟩ := Go.Deep.choose_lt one
    have hg : ∀ k, k < l → ((List.range l).map V).getD k default = V k := fun k hk => by simp [List.getD, hk]
    refine ⟨some x, (List.range l).map V, c, by simp, by simpa using hl, by simpa [maxLen] using hm, ?_⟩
    by_cases h0 : l = 0
    · subst h0; exact .inl (by simp)
    · obtain ⟨b, off, spot⟩ := x
      obtain ⟨_, _, _, _, hc, _⟩ := hV 0 (by omega)
      have hspot : spot = none := by simpa [Addr.add] using World.cell?_spot hc
      subst hspot
      refine .inr ⟨b, off, rfl, ?_, fun k hk => ?_⟩
      · rcases Nat.lt_or_ge b W.heap.size with h | h
        · exact h
        · exfalso
          simp [World.cell?, Addr.add, Array.getElem?_eq_none h] at hc
      · have hk' : k < l := by simpa using hk
        obtain ⟨Ak, ck, Av, cv, r0, r1, r2, hk1, hk2⟩ := hV k hk'
        rw [Addr.add_lit] at r0 r1 r2
        rw [hg k hk']
        exact ⟨Ak, ck, Av, cv, r0, r1, r2, hk1, hk2⟩

set_option maxRecDepth 100000 in
theorem bat_of {H : Type} {enc : TypeId × Value → H} {W : World} {base : Nat} {spare : Nat → Bool} {held : Bool} {r : Reach} {b0 : Nat} {v : Value} {d : DataW H} {p : List MemPlace}
    (hv : Value.okWide Tryd.prog W r b0 26 v) (h : DataW.Trod enc Tryd.prog W base spare held 26 v d p) : ∃ (b : Rc.Bat) (A : Option Addr) (cap : Nat), v = batV b.base b.epoch A b.recs.length cap ∧ IsBat W A cap b := by
  obtain ⟨f0, f1, f2, hu, hone, t0, t1, t2⟩ := bat_fields
  obtain ⟨v0, v1, v2, y0, y1, y2, n, rfl, _, _, h0, h1, h2⟩ := open_agg3 hu hone bat_cells hv h
  rw [t0] at h0
  rw [t1] at h1
  rw [t2] at h2
  obtain ⟨z0, e0, _, w0⟩ := DataW.trod_int Tryd.underlying2 h0
  obtain ⟨z1, e1, _, w1⟩ := DataW.trod_int Tryd.underlying3 h1
  obtain ⟨A, rs, cap, e2, hl, hm, hr⟩ := recs_of h2
  simp at e0 e1
  subst e0 e1 e2
  have q0 := bounds_i64 w0
  have q1 := bounds_i64 w1
  exact ⟨⟨z0, z1, rs⟩, A, cap, rfl, ⟨hl, hm, hr, ⟨q0.1, q0.2⟩, ⟨q1.1, q1.2⟩⟩⟩
end Go.Proofs.YthemdcdgiccjkaaDoor
