/-
  What a body that writes bytes of its own, and one box, leaves of batches that are kept; the records of a row of batches, with their offsets.
-/
import Derived.Test.YtomnkgppldgpkaaDoorRcE
import Derived.Test.YtomnkgppldgpkaaDoorRcF
import Derived.Test.YtomnkgppldgpkaaDoorSeqW
namespace Go.Proofs.YtomnkgppldgpkaaDoor
open Go.RowKit

/-- Of what lay, all cells but block Bi's are as they were; of blocks from B on, all but bytes. -/
structure Kpt (Bi B : Nat) (W W' : World) : Prop where
  size : W.heap.size ≤ W'.heap.size
  cell : ∀ b off v, W.cell? ⟨b, off, none⟩ = some v → b ≠ Bi → (b < B ∨ ∀ n, v ≠ .int .u8 n) → W'.cell? ⟨b, off, none⟩ = some v
theorem Kpt.refl (Bi B : Nat) (W : World) : Kpt Bi B W W := ⟨Nat.le_refl _, fun _ _ _ h _ _ => h⟩
theorem Kpt.trans {Bi B : Nat} {a b c : World} (h : Kpt Bi B a b) (k : Kpt Bi B b c) : Kpt Bi B a c :=
  ⟨Nat.le_trans h.size k.size, fun i off v hc hi hb => k.cell i off v (h.cell i off v hc hi hb) hi hb⟩
theorem cell_below {w : World} {b off : Nat} {v : Value} (h : w.cell? ⟨b, off, none⟩ = some v) : b < w.heap.size := by
  obtain ⟨o, ho, _⟩ := cells_of_cell h
  exact (Array.getElem?_eq_some_iff.1 ho).1
theorem Kpt.of_below {Bi B C : Nat} {W W' : World} (h : Below C W W') (hC : W.heap.size ≤ C) : Kpt Bi B W W' :=
  ⟨h.size, fun b off v hc _ _ => (h.cell (p := ⟨b, off, none⟩) (by have := cell_below hc; show b < C; omega)).trans hc⟩
theorem Kpt.putObj {Bi B : Nat} (W : World) (l : Nat) (o o' : Obj) (h : W.heap[l]? = some o) (hc : o.isCells = false) : Kpt Bi B W (W.putObj l o') :=
  ⟨by simp, fun b off v hv _ _ => by
    have hne : b ≠ l := by
      intro e
      obtain ⟨o2, h2, h3⟩ := cells_of_cell hv
      subst e
      rw [h] at h2
      injection h2 with h2
      rw [h2, h3] at hc
      cases hc
    exact (World.cell?_of_block (World.putObj_heap_other hne)).trans hv⟩
theorem Kpt.setBox {Bi B : Nat} (W : World) (k : Nat) (x : Value) : Kpt Bi B W (W.setCell ⟨Bi, k, none⟩ x) :=
  ⟨by simp, fun b off v hv hb _ => (World.cell?_setCell_other _ _ _ _ (by intro e; injection e with e _; exact hb e.symm)).trans hv⟩
theorem Kpt.setByte {Bi B : Nat} (W : World) (g k : Nat) (x : Value) (n : Int) (hg : B ≤ g) (hv : W.cell? ⟨g, k, none⟩ = some (.int .u8 n)) : Kpt Bi B W (W.setCell ⟨g, k, none⟩ x) :=
  ⟨by simp, fun b off v h _ hb => (World.cell?_setCell_other _ _ _ _ (by
    intro e
    injection e with e1 e2
    subst e1
    subst e2
    rw [hv] at h
    injection h with h
    rcases hb with hb | hb
    · omega
    · exact hb n h.symm)).trans h⟩
theorem Arg.kpt {Bi B lo cap : Nat} {w w' : World} {A : Option Addr} {l : List UInt8} (h : Arg w A cap l) (hk : Kpt Bi B w w') (hB : w.heap.size ≤ B) (hlo : Bi < lo) (hA : ∀ b o, A = some ⟨b, o, none⟩ → lo ≤ b) : Arg w' A cap l := by
  refine ⟨h.le, h.max, h.nil, ?_⟩
  rcases h.reads with e | ⟨b, off, e, hb, hc⟩
  · exact .inl e
  · exact .inr ⟨b, off, e, Nat.lt_of_lt_of_le hb hk.size, fun k hl => hk.cell b _ _ (hc k hl) (by have := hA b off e; omega) (.inl (by omega))⟩
theorem RecFar.kpt {Bi B lo g off : Nat} {w w' : World} {r : Rc.Rec} (h : RecFar w lo g off r) (hk : Kpt Bi B w w') (hB : w.heap.size ≤ B) (hlo : Bi < lo) (hg : lo ≤ g) : RecFar w' lo g off r := by
  obtain ⟨Ak, ck, Av, cv, h0, h1, h2, ha, hv, f1, f2⟩ := h.ex
  have hl : g < B := by have := cell_below h0; omega
  exact ⟨Ak, ck, Av, cv, hk.cell _ _ _ h0 (by omega) (.inl hl), hk.cell _ _ _ h1 (by omega) (.inl hl), hk.cell _ _ _ h2 (by omega) (.inl hl), ha.kpt hk hB hlo f1, hv.kpt hk hB hlo f2, f1, f2⟩
theorem FarRecs.kpt {Bi B lo : Nat} {w w' : World} {A : Option Addr} {rs : List Rc.Rec} (h : FarRecs w lo A rs) (hk : Kpt Bi B w w') (hB : w.heap.size ≤ B) (hlo : Bi < lo) : FarRecs w' lo A rs := by
  rcases h with e | ⟨b, off, e, hl, hs, hc⟩
  · exact .inl e
  · exact .inr ⟨b, off, e, hl, Nat.lt_of_lt_of_le hs hk.size, fun j hj => (hc j hj).kpt hk hB hlo hl⟩
theorem FarBats.kpt {Bi B lo g : Nat} {w w' : World} {bs : List Rc.Bat} (h : FarBats w lo g bs) (hk : Kpt Bi B w w') (hB : w.heap.size ≤ B) (hlo : Bi < lo) : FarBats w' lo g bs :=
  ⟨h.at_, Nat.lt_of_lt_of_le h.lt hk.size, fun k hl => by
    obtain ⟨A, c, h0, h1, h2, hf⟩ := h.el k hl
    have hg := h.at_
    have hgl := h.lt
    exact ⟨A, c, hk.cell _ _ _ h0 (by omega) (.inl (by omega)), hk.cell _ _ _ h1 (by omega) (.inl (by omega)), hk.cell _ _ _ h2 (by omega) (.inl (by omega)), hf.kpt hk hB hlo⟩⟩

namespace Rc
/-- The records of a batch, with their offsets. -/
def flat1 (b : Bat) : List (Int × Rec) := (List.range b.recs.length).map fun (i : Nat) => (b.base + (i : Int), b.recs.getD i default)
def flat (bs : List Bat) : List (Int × Rec) := bs.flatMap flat1
def upto (bs : List Bat) (k : Nat) : Nat := (flat (bs.take k)).length
theorem flat1_len (b : Bat) : (flat1 b).length = b.recs.length := by simp [flat1]
theorem upto_zero (bs : List Bat) : upto bs 0 = 0 := by simp [upto, flat]
theorem upto_succ (bs : List Bat) (k : Nat) (hk : k < bs.length) : upto bs (k + 1) = upto bs k + (bs.getD k default).recs.length := by
  unfold upto flat
  rw [List.take_succ_eq_append_getElem hk, List.flatMap_append, List.length_append]
  simp [flat1_len, List.getD, hk]
theorem upto_all (bs : List Bat) : upto bs bs.length = (flat bs).length := by simp [upto]
theorem flat_at (bs : List Bat) (k i : Nat) (hk : k < bs.length) (hi : i < (bs.getD k default).recs.length) :
    (flat bs).getD (upto bs k + i) default = ((bs.getD k default).base + (i : Int), (bs.getD k default).recs.getD i default) := by
  have e : bs = bs.take k ++ bs.getD k default :: bs.drop (k + 1) := by
    rw [show bs.getD k default = bs[k] from by simp [List.getD, hk]]
    rw [List.getElem_cons_drop, List.take_append_drop]
  have h : flat bs = flat (bs.take k) ++ (flat1 (bs.getD k default) ++ flat (bs.drop (k + 1))) := by
    conv => lhs; rw [e]
    simp [flat]
  rw [h]
  unfold upto
  rw [List.getD_eq_getElem?_getD, List.getElem?_append_right (by omega), List.getElem?_append_left (by rw [flat1_len]; omega)]
  simp only [Nat.add_sub_cancel_left]
  generalize bs.getD k default = b at *
  simp [flat1, hi]
theorem upto_lt (bs : List Bat) (k i : Nat) (hk : k < bs.length) (hi : i < (bs.getD k default).recs.length) : upto bs k + i < (flat bs).length := by
  have h1 := upto_succ bs k hk
  have h2 : upto bs (k + 1) ≤ upto bs bs.length := by
    unfold upto flat
    have hh : bs.take bs.length = bs.take (k + 1) ++ (bs.drop (k + 1)) := by rw [List.take_length, List.take_append_drop]
    rw [hh, List.flatMap_append, List.length_append]; omega
  rw [upto_all] at h2
  omega
end Rc
end Go.Proofs.YtomnkgppldgpkaaDoor
