/-
  A disk's maps of names: looked up, stored into, struck from, at the operation; and whether a name may be.
  The file of a name; what is ahead of a call that changes a file; the first bytes of a file kept.
  One file of a disk is turned; its first bytes kept.
  The calls of a disk that change a file: Sync, Cut, Append.
-/
import Derived.Test.YteeadlefbehhfaaDoorDkB
import Derived.Maps.OwnIn
import Derived.Deep.QuietTactic
import Derived.BigQuiet
import Derived.Deep.Cut
namespace Go.Proofs.YteeadlefbehhfaaDoor
open Go.RowKit Go.Maps Go.ChangeMaps Go.MapKept

theorem str_key {k : Dk.Nm} (hk : k.length ≤ 9223372036854775807) : keyOf Tryd.prog 9 (encStr k) = some (.string k) := by
  have := Go.WideMaps.keyOf_string_mk (P := Tryd.prog) Tryd.underlying9 (s := ⟨k.toArray⟩) (by simpa [maxLen, ByteArray.size] using hk)
  simpa using this
end Go.Proofs.YteeadlefbehhfaaDoor
namespace Go.Proofs.YteeadlefbehhfaaDoor
open Go.RowKit

theorem str_at (k : Dk.Nm) (i : Nat) (h : i < k.length) (W : World) : (Instr.index 9 (encStr k) (.int .i64 (i : Int))).run Tryd.prog W = .ok (.int .u8 (B (k.getD i 0))) W := by
  have hg : (⟨k.toArray⟩ : ByteArray)[i]? = some k[i] := by
    rw [getElem?_pos (⟨k.toArray⟩ : ByteArray) i (by simpa [ByteArray.size] using h)]
    rfl
  simp [Instr.index, run_underlying Tryd.underlying9, asIntOf, hg, B, List.getD, h]

theorem okByte_iff (c : UInt8) : Dk.okByte c = true ↔ (97 ≤ B c ∧ B c ≤ 122) ∨ (48 ≤ B c ∧ B c ≤ 57) ∨ B c = 46 ∨ B c = 45 ∨ B c = 95 := by
  unfold Dk.okByte B
  simp [UInt8.le_iff_toNat_le, ← UInt8.toNat_inj]
  omega
theorem all_take (k : Dk.Nm) (j : Nat) (hj : j < k.length) (h : (k.take j).all Dk.okByte = true) (hb : Dk.okByte (k.getD j 0) = true) : (k.take (j + 1)).all Dk.okByte = true := by
  rw [List.take_succ_eq_append_getElem hj, List.all_append, h]
  simpa [List.getD, hj] using hb
theorem not_all (k : Dk.Nm) (j : Nat) (hj : j < k.length) (hb : Dk.okByte (k.getD j 0) ≠ true) : Dk.valid k = false := by
  have : k.all Dk.okByte = false := by
    rw [List.all_eq_false]
    exact ⟨k[j], List.getElem_mem _, by simpa [List.getD, hj] using hb⟩
  simp [Dk.valid, this]

end Go.Proofs.YteeadlefbehhfaaDoor

namespace Go.Proofs.YteeadlefbehhfaaDoor
open Go.RowKit Go.Maps

theorem neq_nilD (a : Addr) (w : World) : (binOp .neq 26 (errV a) .nilIface).run Tryd.prog w = .ok (.bool true) w := by
  obtain ⟨ms, i, j, h1, h2, h3, h4, h5⟩ := es_facts
  have h : ∀ d : Nat, (Op.equalIn (d + 1) 26 (errV a) .nilIface).run Tryd.prog w = .ok false w := fun d => by simp [Op.equalIn, run_underlying h1, errV]
  simp only [binOp]
  simp [Op.equal, Op.maxDepth, h 9999]

end Go.Proofs.YteeadlefbehhfaaDoor

namespace Go.Proofs.YteeadlefbehhfaaDoor
open Go.RowKit Go.Maps

theorem Own.take {w : World} {base n len cap : Nat} {A : Option Addr} {l : List UInt8} (h : Own w base (.slice A len cap) l) (hn : n ≤ l.length) : Own w base (.slice A n cap) (l.take n) := by
  obtain ⟨_, h2⟩ := h
  have hlen : (l.take n).length = n := by simp; omega
  refine ⟨by simp [cells_len], ?_⟩
  rcases h2 with ⟨e, h0⟩ | ⟨g, cp, cur, e, hb, hh, hc, hm, hs, ht⟩
  · injection e with e1 e2 e3
    subst e1 e2 e3
    obtain rfl : n = 0 := by omega
    exact .inl ⟨rfl, by simp⟩
  · injection e with e1 e2 e3
    subst e1 e3
    refine .inr ⟨g, cap, cur, by rw [hlen], hb, hh, by omega, hm, hs, ?_⟩
    have h3 : cells (l.take n) = (cells l).take n := by simp [cells, List.map_take]
    rw [h3, ← ht, hlen, List.take_take]
    congr 1
    omega
theorem ownBlock_lt {w : World} {v : Value} {l : List UInt8} (h : Own w 0 v l) {g : Nat} (hg : v.ownBlock = some g) : ∃ cur, w.heap[g]? = some (.cells cur 5 (0, 0)) := by
  rcases h.2 with ⟨e, _⟩ | ⟨g', cap, cur, e, _, hh, _⟩
  · rw [e] at hg; cases hg
  · rw [e] at hg; injection hg with hg; subst hg; exact ⟨cur, hh⟩
theorem rowBlock_at {w : World} {e : TypeId} {n sz : Nat} {v : Value} {xs : List Value} (h : w.ownsRow 0 e sz v n xs) {g : Nat} (hg : v.ownBlock = some g) : ∃ cur, w.heap[g]? = some (.cells cur e (0, 0)) := by
  rcases h.2 with ⟨e, _⟩ | ⟨g', cap, cur, e, _, hh, _⟩
  · rw [e] at hg; cases hg
  · rw [e] at hg; injection hg with hg; subst hg; exact ⟨cur, hh⟩
theorem types_ne {w : World} {i j : Nat} {c c' : Array Value} {t t' : TypeId} (h : w.heap[i]? = some (.cells c t (0, 0))) (h' : w.heap[j]? = some (.cells c' t' (0, 0))) (ht : t ≠ t') : i ≠ j := by
  intro e
  subst e
  rw [h] at h'
  injection h' with h'
  injection h' with _ h' _
  exact ht h'
theorem map_ne {w : World} {i b n : Nat} {c : Array Value} {t : TypeId} {f : Dk.Dir} (h : NamesAt w b n f) (h' : w.heap[i]? = some (.cells c t (0, 0))) : b ≠ i := by
  obtain ⟨D, ⟨es, clock, h1, _⟩, _⟩ := h.ex
  intro e
  subst e
  rw [h1] at h'
  cases h'

theorem up_same {S : Nat → Prop} {w w' : World} (h : w'.heap.size = w.heap.size) : ∀ k, Up S w w' k → S k := fun k hk => by
  rcases hk with hk | hk
  · exact hk
  · omega

end Go.Proofs.YteeadlefbehhfaaDoor

namespace Go.Proofs.YteeadlefbehhfaaDoor
open Go.RowKit Go.Maps

/-- None of S's blocks is an error's. -/
structure Safe (S : Nat → Prop) (p : Nat → Addr) : Prop where
  g : ∀ j, 4 ≤ j → j ≤ 9 → ¬ S (gs.getD j 0)
  b : ∀ j, 4 ≤ j → j ≤ 9 → ¬ S (p j).block
theorem SentsOn.chg {S : Nat → Prop} {w w' : World} {p : Nat → Addr} (h : SentsD w p) (hS : Safe S p) (hc : Chg S w w') : SentsD w' p :=
  ⟨fun j hj => hc.cell (h.cell j hj) (hS.g j hj.1 hj.2), fun j hj => by
    obtain ⟨h1, c, t, h2⟩ := h.blk j hj
    exact ⟨Nat.lt_of_lt_of_le h1 hc.size, c, t, (hc.block _ h1 (hS.b j hj.1 hj.2)).trans h2⟩, h.ne⟩
/-- Numbers that stay within 64 bits. -/
structure Dk.Fit (s : Dk.St) : Prop where
  armed : -9223372036854775808 ≤ s.armed ∧ s.armed ≤ 9223372036854775807
  calls : 0 ≤ s.calls ∧ s.calls ≤ 1099511627776
  used : -1125899906842624 ≤ s.used ∧ s.used ≤ 1125899906842624
  room : 0 ≤ s.room ∧ s.room ≤ 1125899906842624
  file : ∀ i, (s.files i).bytes.length ≤ 1000000000
theorem Dk.Fit.begin {s : Dk.St} (h : Dk.Fit s) : Dk.Fit s.begin := by
  unfold Dk.St.begin
  split
  · exact ⟨by have := h.armed; show _ ≤ s.armed - 1 ∧ s.armed - 1 ≤ _; omega, h.calls, h.used, h.room, h.file⟩
  · exact h
theorem find_cases (t : Dk.St) (k : Dk.Nm) : (∃ j, t.find k = (some j, none)) ∨ ∃ i, t.find k = (none, some i) ∧ t.names k = some i := by
  unfold Dk.St.find
  split
  · exact .inl ⟨9, rfl⟩
  · cases h : t.names k with
    | none => exact .inl ⟨6, rfl⟩
    | some i => exact .inr ⟨i, rfl, rfl⟩

def LenIs (b : List UInt8) (n : Nat) : Prop := b.length = n
theorem LenIs.out {b : List UInt8} {n : Nat} (h : LenIs b n) : b.length = n := h
theorem Arg.chg {S : Nat → Prop} {w w' : World} {A : Option Addr} {c : Nat} {l : List UInt8} (h : Arg w A c l) (hc : Chg S w w') (hA : ∀ b o, A = some ⟨b, o, none⟩ → l ≠ [] → ¬ S b) : Arg w' A c l := by
  refine ⟨h.le, h.max, h.nil, ?_⟩
  rcases h.reads with e | ⟨b, off, e, hb, hr⟩
  · exact .inl e
  · by_cases hl : l = []
    · exact .inl hl
    · exact .inr ⟨b, off, e, Nat.lt_of_lt_of_le hb hc.size, fun k hk => hc.cell (hr k hk) (hA b off e hl)⟩

end Go.Proofs.YteeadlefbehhfaaDoor
