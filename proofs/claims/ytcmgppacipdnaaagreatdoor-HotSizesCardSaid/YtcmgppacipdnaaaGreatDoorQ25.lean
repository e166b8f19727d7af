/-
  An index in memory; what a call leaves of all else.
-/
import Derived.Test.YtcmgppacipdnaaaGreatDoorQ24
import Derived.Test.YtcmgppacipdnaaaGreatDoorQ17
import Derived.Test.YtcmgppacipdnaaaGreatDoorQ18
namespace Go.Proofs.YtcmgppacipdnaaaGreatDoor
open Go.RowKit

def mkCells (m : Ix.Mark) : List Value := [.int .i64 m.off, .int .i64 m.time, .int .i64 m.pos]
def adCells (a : Ix.Ad) : List Value := [.int .i64 a.off, .int .i64 a.pos]
theorem mk_at : ∀ (l : List Ix.Mark) (k : Nat) (hk : k < l.length), (l.flatMap mkCells)[k * 3]? = some (.int .i64 l[k].off) ∧ (l.flatMap mkCells)[k * 3 + 1]? = some (.int .i64 l[k].time) ∧ (l.flatMap mkCells)[k * 3 + 2]? = some (.int .i64 l[k].pos)
  | m :: l, 0, _ => ⟨rfl, rfl, rfl⟩
  | m :: l, k + 1, hk => by
    obtain ⟨h1, h2, h3⟩ := mk_at l k (by simpa using hk)
    simp only [List.flatMap_cons, List.getElem_cons_succ]
    rw [List.getElem?_append_right (by simp [mkCells]; omega), List.getElem?_append_right (by simp [mkCells]; omega), List.getElem?_append_right (by simp [mkCells]; omega)]
    simp only [mkCells, List.length_cons, List.length_nil]
    rw [show (k + 1) * 3 - (0 + 1 + 1 + 1) = k * 3 by omega, show (k + 1) * 3 + 1 - (0 + 1 + 1 + 1) = k * 3 + 1 by omega, show (k + 1) * 3 + 2 - (0 + 1 + 1 + 1) = k * 3 + 2 by omega]
    exact ⟨h1, h2, h3⟩
theorem ad_at : ∀ (l : List Ix.Ad) (k : Nat) (hk : k < l.length), (l.flatMap adCells)[k * 2]? = some (.int .i64 l[k].off) ∧ (l.flatMap adCells)[k * 2 + 1]? = some (.int .i64 l[k].pos)
  | m :: l, 0, _ => ⟨rfl, rfl⟩
  | m :: l, k + 1, hk => by
    obtain ⟨h1, h2⟩ := ad_at l k (by simpa using hk)
    simp only [List.flatMap_cons, List.getElem_cons_succ]
    rw [List.getElem?_append_right (by simp [adCells]; omega), List.getElem?_append_right (by simp [adCells]; omega)]
    simp only [adCells, List.length_cons, List.length_nil]
    rw [show (k + 1) * 2 - (0 + 1 + 1) = k * 2 by omega, show (k + 1) * 2 + 1 - (0 + 1 + 1) = k * 2 + 1 by omega]
    exact ⟨h1, h2⟩

def ixCells (s : Ix.St) (mv av : Value) : Array Value := #[.int .i64 s.every, mv, av, .int .i64 s.time]
/-- An index at block X, its rows at mv and av; S holds of its blocks. -/
structure IxL (w : World) (X : Nat) (mv av : Value) (s : Ix.St) (S : Nat → Prop) : Prop where
  box : w.heap[X]? = some (.cells (ixCells s mv av) 168 (0, 0))
  marks : w.ownsRow 0 187 3 mv s.marks.length (s.marks.flatMap mkCells)
  adds : w.ownsRow 0 218 2 av s.adds.length (s.adds.flatMap adCells)
  mX : S X
  mM : ∀ g, mv.ownBlock = some g → S g
  mA : ∀ g, av.ownBlock = some g → S g
def IxAt (w : World) (X : Nat) (s : Ix.St) (S : Nat → Prop) : Prop := ∃ mv av, IxL w X mv av s S
theorem IxL.same {w w' : World} {X : Nat} {mv av : Value} {s : Ix.St} {S : Nat → Prop} (h : IxL w X mv av s S) (hk : ∀ k, S k → k < w.heap.size → w'.heap[k]? = w.heap[k]?) : IxL w' X mv av s S :=
  { h with box := (hk _ h.mX (Array.getElem?_eq_some_iff.1 h.box).1).trans h.box, marks := ownsRow_same h.marks fun g hg => hk g (h.mM g hg) (h.marks.lt g hg).2, adds := ownsRow_same h.adds fun g hg => hk g (h.mA g hg) (h.adds.lt g hg).2 }
theorem IxL.mono {w : World} {X : Nat} {mv av : Value} {s : Ix.St} {S T : Nat → Prop} (h : IxL w X mv av s S) (hT : ∀ k, S k → T k) : IxL w X mv av s T :=
  { h with mX := hT _ h.mX, mM := fun g hg => hT _ (h.mM g hg), mA := fun g hg => hT _ (h.mA g hg) }
theorem IxAt.same {w w' : World} {X : Nat} {s : Ix.St} {S : Nat → Prop} (h : IxAt w X s S) (hk : ∀ k, S k → k < w.heap.size → w'.heap[k]? = w.heap[k]?) : IxAt w' X s S := by
  obtain ⟨mv, av, h⟩ := h; exact ⟨mv, av, h.same hk⟩
theorem IxAt.below {w w' : World} {X : Nat} {s : Ix.St} {S : Nat → Prop} (h : IxAt w X s S) (hb : Below w.heap.size w w') : IxAt w' X s S := h.same fun k _ hk => hb.block k hk
theorem IxAt.mono {w : World} {X : Nat} {s : Ix.St} {S T : Nat → Prop} (h : IxAt w X s S) (hT : ∀ k, S k → T k) : IxAt w X s T := by
  obtain ⟨mv, av, h⟩ := h; exact ⟨mv, av, h.mono hT⟩
theorem IxL.ne {w : World} {X : Nat} {mv av : Value} {s : Ix.St} {S : Nat → Prop} (h : IxL w X mv av s S) : mv.ownBlock ≠ some X ∧ av.ownBlock ≠ some X ∧ (mv.ownBlock = none ∨ mv.ownBlock ≠ av.ownBlock) ∧ (av.ownBlock = none ∨ av.ownBlock ≠ mv.ownBlock) := by
  have hm : ∀ g, mv.ownBlock = some g → ∃ c, w.heap[g]? = some (.cells c 187 (0, 0)) := fun g hg => by
    rcases h.marks.2 with ⟨e, _⟩ | ⟨g', cap, cur, e, _, hh, _⟩
    · rw [e] at hg; cases hg
    · rw [e] at hg
      have : g' = g := by simpa [Value.ownBlock] using hg
      exact ⟨cur, this ▸ hh⟩
  have ha : ∀ g, av.ownBlock = some g → ∃ c, w.heap[g]? = some (.cells c 218 (0, 0)) := fun g hg => by
    rcases h.adds.2 with ⟨e, _⟩ | ⟨g', cap, cur, e, _, hh, _⟩
    · rw [e] at hg; cases hg
    · rw [e] at hg
      have : g' = g := by simpa [Value.ownBlock] using hg
      exact ⟨cur, this ▸ hh⟩
  have hma : ∀ g, mv.ownBlock = some g → av.ownBlock ≠ some g := fun g h1 h2 => by
    obtain ⟨c1, e1⟩ := hm g h1
    obtain ⟨c2, e2⟩ := ha g h2
    exact types_ne e1 e2 (by decide) rfl
  refine ⟨fun e => ?_, fun e => ?_, ?_, ?_⟩
  · obtain ⟨c, e1⟩ := hm X e
    exact types_ne e1 h.box (by decide) rfl
  · obtain ⟨c, e1⟩ := ha X e
    exact types_ne e1 h.box (by decide) rfl
  · cases hx : mv.ownBlock with
    | none => exact .inl rfl
    | some g => exact .inr fun e => hma g hx e.symm
  · cases hx : av.ownBlock with
    | none => exact .inl rfl
    | some g => exact .inr fun e => hma g e.symm hx

section
variable {P : Program} {w : World} {o : Oper} {a : Act} {Q : Exit → Act → World → Prop}
/-- append(s, x...), s the call's own row, whatever its elements. -/
theorem step_appG {K : Act → World → Prop} (t e : TypeId) (size bytes : Nat) (z : Value) (hu : P.underlying t = some (.slice e)) (hin : (P.info? e).map (fun i => (i.zero, i.size, i.bytes)) = some (some z, size, bytes)) (hzs : z.cells.size = size) (hsz : 0 < size)
    (s x : Operand) (ho : o.op = .call { callee := .builtin .append, args := #[s, x], argTypes := #[t, t] })
    (base : Nat) (v : Value) (n : Nat) (xs : List Value) (hs : a.eval s = v) (hown : w.ownsRow base e size v n xs) (A : Addr) (m c : Nat) (news : List Value) (hx : a.eval x = .slice (some A) m c) (hl : news.length = m * size)
    (hnews : ∀ j u, news[j]? = some u → w.cell? (A.add j) = some u) (h1 : ∀ u ∈ news, u.oneCell' = true) (h63 : n + m ≤ maxLen) (hby : (n + m) * bytes ≤ 140737488355328) (hbase : base ≤ w.heap.size)
    (h : ∀ v' w', w'.ownsRow base e size v' (n + m) (xs ++ news) → w.grownBy w' v.ownBlock → (v'.ownBlock = v.ownBlock ∨ v'.ownBlock = some w.heap.size) → K (a.put o.dst v') w') : o.wp P a w K Q := by
  obtain ⟨i, hi, hz, hs1, hb⟩ := info_parts hin
  obtain ⟨v', w', hrun, r2, r3, _, r5⟩ := run_append_own_at (P := P) w base t o.type e i _ size bytes hu hi hz hs1 hb hzs hsz v n xs hown A m c news hl hnews h1 h63 hby hbase
  unfold Oper.wp execOp
  simp only [ho, resolve, invoke, builtin, Sem.run_bind, Sem.run_pure, Result.andThen_ok, List.map_toArray, List.map_cons, List.map_nil, hs, hx, hrun]
  exact h v' w' r2 r3 r5
end
end Go.Proofs.YtcmgppacipdnaaaGreatDoor
