/-
  What a row's reading says of an argument of things told to an index (five numbers each).
-/
import Derived.Test.YteeadlefbehhfaaDoorArgsR
import Derived.Deep.Slices
import Derived.Deep.Fields
import Derived.ChangeSame
namespace Go.Proofs.YteeadlefbehhfaaDoor
open Go.RowKit Go.ChangeShapes Go.WideShapes Go.ChangeAt

structure ToldV where
  kind : Int
  pos : Int
  size : Int
  off : Int
  time : Int
instance : Inhabited ToldV := ⟨⟨0, 0, 0, 0, 0⟩⟩
def i64ok (z : Int) : Prop := -9223372036854775808 ≤ z ∧ z ≤ 9223372036854775807
structure ToldOk (x : ToldV) : Prop where
  pos : i64ok x.pos
  size : i64ok x.size
  off : i64ok x.off
  time : i64ok x.time
/-- Where such a thing lies. -/
structure ToldAt (W : World) (b off : Nat) (x : ToldV) : Prop where
  c0 : W.cell? ⟨b, off, none⟩ = some (.int .i64 x.kind)
  c1 : W.cell? ⟨b, off + 1, none⟩ = some (.int .i64 x.pos)
  c2 : W.cell? ⟨b, off + 2, none⟩ = some (.int .i64 x.size)
  c3 : W.cell? ⟨b, off + 3, none⟩ = some (.int .i64 x.off)
  c4 : W.cell? ⟨b, off + 4, none⟩ = some (.int .i64 x.time)
def Tolds (W : World) (a : Option Addr) (xs : List ToldV) : Prop :=
  xs = [] ∨ ∃ b off, a = some ⟨b, off, none⟩ ∧ b < W.heap.size ∧ ∀ k, k < xs.length → ToldAt W b (off + k * 5) (xs.getD k default)

theorem told_cells : Tryd.prog.cellsOf 56 = 5 := by kernel_rfl
theorem told_fields : ∃ f0 f1 f2 f3 f4 : Field, Tryd.prog.underlying 56 = some (.struct #[f0, f1, f2, f3, f4]) ∧ (f0.type = 3 ∧ f0.offset = 0) ∧ (f1.type = 3 ∧ f1.offset = 1) ∧ (f2.type = 3 ∧ f2.offset = 2) ∧ (f3.type = 2 ∧ f3.offset = 3) ∧ (f4.type = 2 ∧ f4.offset = 4) :=
  ⟨_, _, _, _, _, Tryd.underlying56, ⟨rfl, rfl⟩, ⟨rfl, rfl⟩, ⟨rfl, rfl⟩, ⟨rfl, rfl⟩, ⟨rfl, rfl⟩⟩

/-- One field of one cell, a number. -/
theorem field_num {H : Type} {enc : TypeId × Value → H} {W : World} {base : Nat} {spare : Nat → Bool} {held : Bool} {n' : Nat} {t : TypeId} {K : IntKind} {cs : List Value} {y : Option (DataW H × List MemPlace)} (j : Nat)
    (ht : Tryd.prog.underlying t = some (.int K)) (hc : Tryd.prog.cellsOf t = 1) (hy : y.isSome = true) (h : DataW.trod enc Tryd.prog W base spare held n' t ((cs.drop j).take (Tryd.prog.cellsOf t)) = y) :
    ∃ z, cs[j]? = some (.int K z) ∧ (Lit.int K z).wf = true := by
  obtain ⟨x, rfl⟩ := Option.isSome_iff_exists.1 hy
  obtain ⟨z, h1, _, h2⟩ := DataW.trod_int ht h
  rw [hc] at h1
  refine ⟨z, ?_, h2⟩
  have h3 : ((cs.drop j).take 1)[0]? = some (.int K z) := by rw [h1]; rfl
  simpa using h3

theorem tolds_of {H : Type} {enc : TypeId × Value → H} {W : World} {base : Nat} {held : Bool} {a : Option Addr} {len cap : Nat} {d : DataW H} {p : List MemPlace}
    (h : DataW.Trod enc Tryd.prog W base (fun _ => true) held 54 (.slice a len cap) d p) : ∃ xs : List ToldV, xs.length = len ∧ len ≤ cap ∧ cap ≤ 9223372036854775807 ∧ Tolds W a xs ∧ ∀ k, k < xs.length → ToldOk (xs.getD k default) := by
  obtain ⟨fuel, hf⟩ := h
  rcases Go.Deep.open_slice Tryd.underlying54 hf with ⟨hcs, _⟩ | ⟨x, l, c, m, n, D, Pl, hcs, _, hl, hm, hmm, _, hi⟩
  · simp [Value.cells] at hcs
    obtain ⟨rfl, rfl, rfl⟩ := hcs
    exact ⟨[], rfl, Nat.le_refl _, by omega, .inl rfl, fun k hk => by simp at hk⟩
  · simp [Value.cells] at hcs
    obtain ⟨rfl, rfl, rfl⟩ := hcs
    have hmc : m = cap := by simpa using hmm
    have one : ∀ i, i < len → ∃ v : ToldV, ToldOk v ∧ W.cell? (x.add (i * 5)) = some (.int .i64 v.kind) ∧ W.cell? (x.add (i * 5 + 1)) = some (.int .i64 v.pos) ∧ W.cell? (x.add (i * 5 + 2)) = some (.int .i64 v.size) ∧ W.cell? (x.add (i * 5 + 3)) = some (.int .i64 v.off) ∧ W.cell? (x.add (i * 5 + 4)) = some (.int .i64 v.time) := by
      intro i hil
      obtain ⟨cs', hc, ht'⟩ := hi i (by omega)
      rw [told_cells] at hc
      obtain ⟨f0, f1, f2, f3, f4, hu, ⟨a0, b0⟩, ⟨a1, b1⟩, ⟨a2, b2⟩, ⟨a3, b3⟩, ⟨a4, b4⟩⟩ := told_fields
      obtain ⟨ys, n', _, _, _, hyl, hfd⟩ := DataW.trod_struct hu ht'
      obtain ⟨_, hcl, hat⟩ := World.cells?_some hc
      have hs : ∀ j, j < 5 → (ys[j]?).isSome = true := fun j hj => by
        have : j < ys.length := by rw [hyl]; exact hj
        simp [this]
      have g0 := hfd 0 f0 rfl
      have g1 := hfd 1 f1 rfl
      have g2 := hfd 2 f2 rfl
      have g3 := hfd 3 f3 rfl
      have g4 := hfd 4 f4 rfl
      rw [a0, b0] at g0
      rw [a1, b1] at g1
      rw [a2, b2] at g2
      rw [a3, b3] at g3
      rw [a4, b4] at g4
      obtain ⟨z0, e0, _⟩ := field_num 0 Tryd.underlying3 cells_int (hs 0 (by omega)) g0
      obtain ⟨z1, e1, w1⟩ := field_num 1 Tryd.underlying3 cells_int (hs 1 (by omega)) g1
      obtain ⟨z2, e2, w2⟩ := field_num 2 Tryd.underlying3 cells_int (hs 2 (by omega)) g2
      obtain ⟨z3, e3, w3⟩ := field_num 3 Tryd.underlying2 cells_i64 (hs 3 (by omega)) g3
      obtain ⟨z4, e4, w4⟩ := field_num 4 Tryd.underlying2 cells_i64 (hs 4 (by omega)) g4
      have h0 := hat 0 (by omega)
      have h1 := hat 1 (by omega)
      have h2 := hat 2 (by omega)
      have h3 := hat 3 (by omega)
      have h4 := hat 4 (by omega)
      rw [Go.Deep.add_add] at h0 h1 h2 h3 h4
      exact ⟨⟨z0, z1, z2, z3, z4⟩, ⟨bounds_i64 w1, bounds_i64 w2, bounds_i64 w3, bounds_i64 w4⟩, h0.trans e0, h1.trans e1, h2.trans e2, h3.trans e3, h4.trans e4⟩
    obtain ⟨V, hV⟩ := Go.Deep.choose_lt one
    have hg : ∀ k, k < len → ((List.range len).map V).getD k default = V k := fun k hk => by simp [List.getD, hk]
    refine ⟨(List.range len).map V, by simp, hl, by simpa [maxLen] using hm, ?_, fun k hk => ?_⟩
    · by_cases h0 : len = 0
      · subst h0; exact .inl (by simp)
      · obtain ⟨b, off, spot⟩ := x
        have hc := (hV 0 (by omega)).2.1
        have hspot : spot = none := by simpa [Addr.add] using World.cell?_spot hc
        subst hspot
        refine .inr ⟨b, off, rfl, ?_, fun k hk => ?_⟩
        · rcases Nat.lt_or_ge b W.heap.size with h | h
          · exact h
          · exfalso
            simp [World.cell?, Addr.add, Array.getElem?_eq_none h] at hc
        · have hk' : k < len := by simpa using hk
          obtain ⟨_, r0, r1, r2, r3, r4⟩ := hV k hk'
          rw [Addr.add_lit] at r0 r1 r2 r3 r4
          rw [hg k hk']
          exact ⟨r0, r1, r2, r3, r4⟩
    · have hk' : k < len := by simpa using hk
      rw [hg k hk']
      exact (hV k hk').1
end Go.Proofs.YteeadlefbehhfaaDoor
