/-
  Records that the call itself lays in a row of its own, beside a reader and two blocks.
-/
import Derived.Test.YthemdcdgiccjkaaDoorRcP
import Derived.Test.YthemdcdgiccjkaaDoorRcL
namespace Go.Proofs.YthemdcdgiccjkaaDoor
open Go.RowKit

theorem record_info : (Tryd.prog.info? 57).map (fun i => (i.zero, i.size, i.bytes)) = some (some (.agg #[.int .i64 0, .slice none 0 0, .slice none 0 0]), 3, 56) := by kernel_rfl

/-- A record, and where its texts lie. -/
structure PRec where
  r : Rc.Rec
  Ak : Option Addr
  ck : Nat
  Av : Option Addr
  cv : Nat
def PRec.cells (q : PRec) : List Value := [.int .i64 q.r.t, .slice q.Ak q.r.k.length q.ck, .slice q.Av q.r.v.length q.cv]
theorem PRec.cells_len (q : PRec) : q.cells.length = 3 := rfl
theorem PRec.cells_one (q : PRec) : ∀ u ∈ q.cells, u.oneCell' = true := by
  intro u hu
  simp [PRec.cells] at hu
  rcases hu with rfl | rfl | rfl <;> rfl
theorem pcells_len (qs : List PRec) : (qs.flatMap PRec.cells).length = qs.length * 3 := by
  induction qs with
  | nil => rfl
  | cons q qs ih => simp [ih, PRec.cells_len]; omega

theorem Arg.grown {w w' : World} {row : Option Nat} {A : Option Addr} {cap : Nat} {l : List UInt8} (h : Arg w A cap l) (hg : w.grownBy w' row) (hne : l ≠ [] → ∀ b off, A = some ⟨b, off, none⟩ → some b ≠ row) : Arg w' A cap l := by
  refine ⟨h.le, h.max, h.nil, ?_⟩
  rcases h.reads with h0 | ⟨b, off, e, hlt, hc⟩
  · exact .inl h0
  · by_cases hl : l = []
    · exact .inl hl
    · exact .inr ⟨b, off, e, Nat.lt_of_lt_of_le hlt hg.size, fun k hk => hg.cell (hc k hk) (hne hl b off e)⟩

/-- A text that lies at or beyond lo, and not in v's row. -/
structure Txt (w : World) (lo : Nat) (v : Value) (A : Option Addr) (c : Nat) (l : List UInt8) : Prop where
  arg : Arg w A c l
  far : l ≠ [] → ∀ b off, A = some ⟨b, off, none⟩ → lo ≤ b ∧ v.ownBlock ≠ some b
theorem Txt.keep {w w' : World} {lo x : Nat} {v : Value} {A : Option Addr} {c : Nat} {l : List UInt8} (h : Txt w lo v A c l) (hg : w.grownBy w' (some x)) (hx : x < lo) : Txt w' lo v A c l :=
  ⟨h.arg.grown hg fun hl b off e => by have := (h.far hl b off e).1; intro e'; injection e' with e'; omega, h.far⟩
theorem Txt.lt {w : World} {lo : Nat} {v : Value} {A : Option Addr} {c : Nat} {l : List UInt8} (h : Txt w lo v A c l) (hl : l ≠ []) : ∀ b off, A = some ⟨b, off, none⟩ → b < w.heap.size := by
  intro b off e
  rcases h.arg.reads with h0 | ⟨b', off', e', hlt, _⟩
  · exact absurd h0 hl
  · rw [e] at e'
    injection e' with e'
    injection e' with e1
    omega
theorem Txt.app {w w' : World} {lo : Nat} {v v' : Value} {A : Option Addr} {c : Nat} {l : List UInt8} (h : Txt w lo v A c l) (hg : w.grownBy w' v.ownBlock) (hv : v'.ownBlock = v.ownBlock ∨ ∃ k, v'.ownBlock = some k ∧ w.heap.size ≤ k) : Txt w' lo v' A c l := by
  refine ⟨h.arg.grown hg fun hl b off e e' => (h.far hl b off e).2 e'.symm, fun hl b off e => ⟨(h.far hl b off e).1, ?_⟩⟩
  rcases hv with hv | ⟨k, hv, hk⟩
  · rw [hv]; exact (h.far hl b off e).2
  · rw [hv]; have := h.lt hl b off e; intro e'; injection e' with e'; omega

/-- The row of records. -/
structure Row (w : World) (lo : Nat) (v : Value) (qs : List PRec) : Prop where
  own : w.ownsRow lo 57 3 v qs.length (qs.flatMap PRec.cells)
  txt : ∀ q ∈ qs, Txt w lo v q.Ak q.ck q.r.k ∧ Txt w lo v q.Av q.cv q.r.v
theorem Row.nil (w : World) (lo : Nat) : Row w lo (.slice none 0 0) [] := ⟨World.ownsRow_nil w lo _ 3, fun q hq => by simp at hq⟩
theorem Row.keep {w w' : World} {lo x : Nat} {v : Value} {qs : List PRec} (h : Row w lo v qs) (hg : w.grownBy w' (some x)) (hx : x < lo) : Row w' lo v qs :=
  ⟨h.own.kept hg (.inr fun e => by have := (h.own.lt x e).1; omega), fun q hq => ⟨(h.txt q hq).1.keep hg hx, (h.txt q hq).2.keep hg hx⟩⟩
theorem grown_of_below {w w' : World} (h : Below w.heap.size w w') (row : Option Nat) : w.grownBy w' row := ⟨h.os, h.tape, h.output, h.size, fun k hk _ => h.block k hk⟩
theorem Txt.below {w w' : World} {lo : Nat} {v : Value} {A : Option Addr} {c : Nat} {l : List UInt8} (h : Txt w lo v A c l) (hb : Below w.heap.size w w') : Txt w' lo v A c l := ⟨h.arg.below hb (Nat.le_refl _), h.far⟩
theorem Row.below {w w' : World} {lo : Nat} {v : Value} {qs : List PRec} (h : Row w lo v qs) (hb : Below w.heap.size w w') : Row w' lo v qs :=
  ⟨h.own.kept (grown_of_below hb none) (by cases v.ownBlock <;> simp), fun q hq => ⟨(h.txt q hq).1.below hb, (h.txt q hq).2.below hb⟩⟩
theorem Row.app {w w' : World} {lo : Nat} {v v' : Value} {qs : List PRec} {q : PRec} (h : Row w lo v qs) (hk : Txt w lo v q.Ak q.ck q.r.k) (hq : Txt w lo v q.Av q.cv q.r.v) (hg : w.grownBy w' v.ownBlock) (hv : v'.ownBlock = v.ownBlock ∨ ∃ k, v'.ownBlock = some k ∧ w.heap.size ≤ k)
    (ho : w'.ownsRow lo 57 3 v' (qs.length + 1) (qs.flatMap PRec.cells ++ q.cells)) : Row w' lo v' (qs ++ [q]) := by
  refine ⟨?_, fun x hx => ?_⟩
  · rw [List.length_append, List.flatMap_append]
    simpa using ho
  · rcases List.mem_append.1 hx with hx | hx
    · exact ⟨(h.txt x hx).1.app hg hv, (h.txt x hx).2.app hg hv⟩
    · obtain rfl := List.mem_singleton.1 hx
      exact ⟨hk.app hg hv, hq.app hg hv⟩
theorem Row.val {w : World} {lo : Nat} {v : Value} {qs : List PRec} (h : Row w lo v qs) : ∃ A c, v = .slice A qs.length c ∧ qs.length ≤ c ∧ c ≤ 9223372036854775807 ∧ Recs w A (qs.map (·.r)) := by
  rcases h.own.2 with ⟨rfl, h0⟩ | ⟨g, cap, cur, rfl, hg, hh, hn, hm, hs, ht⟩
  · have : qs = [] := List.eq_nil_of_length_eq_zero h0
    subst this
    exact ⟨none, 0, rfl, Nat.le_refl _, by omega, .inl rfl⟩
  · refine ⟨_, _, rfl, hn, by simpa [maxLen] using hm, .inr ⟨g, 0, rfl, ?_, fun k hk => ?_⟩⟩
    · rcases Nat.lt_or_ge g w.heap.size with h | h
      · exact h
      · rw [Array.getElem?_eq_none h] at hh; cases hh
    · have hk' : k < qs.length := by simpa using hk
      have hq := h.txt _ (List.getElem_mem hk')
      have e : (qs.map (·.r)).getD k default = qs[k].r := by simp [List.getD, hk']
      have hcells : ∀ j u, j < 3 → (qs[k].cells)[j]? = some u → w.cell? ⟨g, 0 + k * 3 + j, none⟩ = some u := by
        intro j u hj hu
        have h1 : (qs.flatMap PRec.cells)[k * 3 + j]? = some u := by
          have e1 : qs.flatMap PRec.cells = (qs.take k).flatMap PRec.cells ++ (qs[k].cells ++ (qs.drop (k + 1)).flatMap PRec.cells) := by
            conv => lhs; rw [← List.take_append_drop k qs, List.drop_eq_getElem_cons hk']
            rw [List.flatMap_append, List.flatMap_cons]
          have e2 : ((qs.take k).flatMap PRec.cells).length = k * 3 := by rw [pcells_len, List.length_take]; congr 1; omega
          rw [e1, List.getElem?_append_right (by rw [e2]; omega), e2, Nat.add_sub_cancel_left, List.getElem?_append_left (by rw [PRec.cells_len]; exact hj)]
          exact hu
        have h2 := h.own.cells (g := g) rfl _ _ h1
        rw [show (⟨g, 0, none⟩ : Addr).add (k * 3 + j) = ⟨g, 0 + k * 3 + j, none⟩ from by rw [Addr.add_lit]; congr 1; omega] at h2
        exact h2
      rw [e]
      exact ⟨_, _, _, _, hcells 0 _ (by omega) rfl, hcells 1 _ (by omega) rfl, hcells 2 _ (by omega) rfl, hq.1.arg, hq.2.arg⟩
end Go.Proofs.YthemdcdgiccjkaaDoor
