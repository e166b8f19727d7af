/-
  An index, plainly: its marks, what was added, the greatest time; Add.
  An index in memory; what a call leaves of all else.
  Package index: New, isBehind, isDue.
  Package index: isDue, Add.
  Package index: Add.
  Package index: Add.
  Package index: Add, of what may be.
  Package index: Marks (a copy of the marks), When.
-/
import Derived.Test.YtcmgppacipdnaaaGreatDoorQTable
import Derived.Test.YtcmgppacipdnaaaGreatDoorQDk
import Derived.WalkKit
import Derived.ProofKit
import Derived.BigQuiet
import Derived.Deep.QuietTactic
import Derived.Outline
import Derived.LoopTactic
import Derived.Deep.RegionLaw
namespace Go.Proofs.YtcmgppacipdnaaaGreatDoor.Ix

structure Mark where
  off : Int
  time : Int
  pos : Int
structure Ad where
  off : Int
  pos : Int
structure St where
  every : Int
  marks : List Mark
  adds : List Ad
  time : Int
def new (every : Int) : St := ⟨every, [], [], -1099511627776⟩
def okO (o : Int) : Prop := 0 ≤ o ∧ o ≤ 1099511627776
def okT (t : Int) : Prop := -1099511627776 ≤ t ∧ t ≤ 1099511627776
def okP (p : Int) : Prop := 0 ≤ p ∧ p ≤ 1073741824
/-- Behind the last one that was added. -/
def behind (l : List Ad) (o p : Int) : Prop := ∀ a, l.getLast? = some a → a.off < o ∧ a.pos < p
/-- It lies every bytes or more behind the last mark. -/
def due (s : St) (p : Int) : Prop := ∀ m, s.marks.getLast? = some m → s.every ≤ p - m.pos
instance (o : Int) : Decidable (okO o) := inferInstanceAs (Decidable (_ ∧ _))
instance (o : Int) : Decidable (okT o) := inferInstanceAs (Decidable (_ ∧ _))
instance (o : Int) : Decidable (okP o) := inferInstanceAs (Decidable (_ ∧ _))
instance (l : List Ad) (o p : Int) : Decidable (behind l o p) := by
  unfold behind
  cases l.getLast? with
  | none => exact isTrue fun a h => by cases h
  | some b => exact decidable_of_iff (b.off < o ∧ b.pos < p) ⟨fun h a e => by cases e; exact h, fun h => h b rfl⟩
instance (s : St) (p : Int) : Decidable (due s p) := by
  unfold due
  cases s.marks.getLast? with
  | none => exact isTrue fun a h => by cases h
  | some b => exact decidable_of_iff (s.every ≤ p - b.pos) ⟨fun h a e => by cases e; exact h, fun h => h b rfl⟩
def good (s : St) (o t p z : Int) : Prop := okO o ∧ okT t ∧ 1 ≤ z ∧ okP p ∧ behind s.adds o p
instance (s : St) (o t p z : Int) : Decidable (good s o t p z) := inferInstanceAs (Decidable (_ ∧ _))
/-- What is taken in. -/
def put (s : St) (o t p : Int) : St :=
  ⟨s.every, if due s p then s.marks ++ [⟨o, max s.time t, p⟩] else s.marks, s.adds ++ [⟨o, p⟩], max s.time t⟩
def add (s : St) (o t p z : Int) : Option Nat × St := if good s o t p z then (none, put s o t p) else (some 4, s)

/-- Its numbers are such as may be. -/
structure Ok (s : St) : Prop where
  every : 1 ≤ s.every ∧ s.every ≤ 1048576
  time : okT s.time
  marks : ∀ m ∈ s.marks, okO m.off ∧ okT m.time ∧ okP m.pos
  adds : ∀ a ∈ s.adds, okO a.off ∧ okP a.pos
theorem Ok.new (e : Int) (h : 1 ≤ e ∧ e ≤ 1048576) : Ok (new e) :=
  ⟨h, (show okT (-1099511627776) from ⟨by omega, by omega⟩), fun m (hm : m ∈ []) => (by cases hm), fun a (ha : a ∈ []) => (by cases ha)⟩
theorem okT_max {a b : Int} (ha : okT a) (hb : okT b) : okT (max a b) := by unfold okT at *; omega
theorem Ok.put {s : St} (h : Ok s) (o t p : Int) (ho : okO o) (ht : okT t) (hp : okP p) : Ok (put s o t p) := by
  refine ⟨h.every, okT_max h.time ht, fun m hm => ?_, fun a ha => ?_⟩
  · unfold Ix.put at hm
    simp only at hm
    split at hm
    · rcases List.mem_append.1 hm with hm | hm
      · exact h.marks m hm
      · rw [List.mem_singleton] at hm; subst hm; exact ⟨ho, okT_max h.time ht, hp⟩
    · exact h.marks m hm
  · rcases List.mem_append.1 ha with ha | ha
    · exact h.adds a ha
    · rw [List.mem_singleton] at ha; subst ha; exact ⟨ho, hp⟩
end Go.Proofs.YtcmgppacipdnaaaGreatDoor.Ix

namespace Go.Proofs.YtcmgppacipdnaaaGreatDoor
open Go.RowKit

def mkCells (m : Ix.Mark) : List Value := [.int .i64 m.off, .int .i64 m.time, .int .i64 m.pos]
def adCells (a : Ix.Ad) : List Value := [.int .i64 a.off, .int .i64 a.pos]
theorem mk_at : ∀ (l : List Ix.Mark) (k : Nat) (hk : k < l.length), (l.flatMap mkCells)[k * 3]? = some (.int .i64 l[k].off) ∧ (l.flatMap mkCells)[k * 3 + 1]? = some (.int .i64 l[k].time) ∧ (l.flatMap mkCells)[k * 3 + 2]? = some (.int .i64 l[k].pos)
  | m :: l, 0, _ => ⟨rfl, rfl, rfl⟩
  | m :: l, k + 1, hk => by
    obtain ⟨h1, h2, h3⟩ := mk_at l k (by simpa using hk)
    simp only [List.flatMap_cons, List.getElem_cons_succ]
    rw [List.getElem?_append_right (by simp [mkCells]; omega), List.getElem?_append_right (by simp [mkCells]; omega), List.getElem?_append_right (by simp [mkCells]; omega)]
    simp only [mkCells, List.length_cons, List.length_nil]
    rw [show (k + 1) * 3 - (0 + 1 + 1 + 1) = k * 3 by omega, show (k + 1) * 3 + 1 - (0 + 1 + 1 + 1) = k * 3 + 1 by omega, show (k + 1) * 3 + 2 - (0 + 1 + 1 + 1) = k * 3 + 2 by omega]
    exact ⟨h1, h2, h3⟩
theorem ad_at : ∀ (l : List Ix.Ad) (k : Nat) (hk : k < l.length), (l.flatMap adCells)[k * 2]? = some (.int .i64 l[k].off) ∧ (l.flatMap adCells)[k * 2 + 1]? = some (.int .i64 l[k].pos)
  | m :: l, 0, _ => ⟨rfl, rfl⟩
  | m :: l, k + 1, hk => by
    obtain ⟨h1, h2⟩ := ad_at l k (by simpa using hk)
    simp only [List.flatMap_cons, List.getElem_cons_succ]
    rw [List.getElem?_append_right (by simp [adCells]; omega), List.getElem?_append_right (by simp [adCells]; omega)]
    simp only [adCells, List.length_cons, List.length_nil]
    rw [show (k + 1) * 2 - (0 + 1 + 1) = k * 2 by omega, show (k + 1) * 2 + 1 - (0 + 1 + 1) = k * 2 + 1 by omega]
    exact ⟨h1, h2⟩

def ixCells (s : Ix.St) (mv av : Value) : Array Value := #[.int .i64 s.every, mv, av, .int .i64 s.time]
/-- An index at block X, its rows at mv and av; S holds of its blocks. -/
structure IxL (w : World) (X : Nat) (mv av : Value) (s : Ix.St) (S : Nat → Prop) : Prop where
  box : w.heap[X]? = some (.cells (ixCells s mv av) 168 (0, 0))
  marks : w.ownsRow 0 187 3 mv s.marks.length (s.marks.flatMap mkCells)
  adds : w.ownsRow 0 218 2 av s.adds.length (s.adds.flatMap adCells)
  mX : S X
  mM : ∀ g, mv.ownBlock = some g → S g
  mA : ∀ g, av.ownBlock = some g → S g
def IxAt (w : World) (X : Nat) (s : Ix.St) (S : Nat → Prop) : Prop := ∃ mv av, IxL w X mv av s S
theorem IxL.same {w w' : World} {X : Nat} {mv av : Value} {s : Ix.St} {S : Nat → Prop} (h : IxL w X mv av s S) (hk : ∀ k, S k → k < w.heap.size → w'.heap[k]? = w.heap[k]?) : IxL w' X mv av s S :=
  { h with box := (hk _ h.mX (Array.getElem?_eq_some_iff.1 h.box).1).trans h.box, marks := ownsRow_same h.marks fun g hg => hk g (h.mM g hg) (h.marks.lt g hg).2, adds := ownsRow_same h.adds fun g hg => hk g (h.mA g hg) (h.adds.lt g hg).2 }
theorem IxL.mono {w : World} {X : Nat} {mv av : Value} {s : Ix.St} {S T : Nat → Prop} (h : IxL w X mv av s S) (hT : ∀ k, S k → T k) : IxL w X mv av s T :=
  { h with mX := hT _ h.mX, mM := fun g hg => hT _ (h.mM g hg), mA := fun g hg => hT _ (h.mA g hg) }
theorem IxAt.same {w w' : World} {X : Nat} {s : Ix.St} {S : Nat → Prop} (h : IxAt w X s S) (hk : ∀ k, S k → k < w.heap.size → w'.heap[k]? = w.heap[k]?) : IxAt w' X s S := by
  obtain ⟨mv, av, h⟩ := h; exact ⟨mv, av, h.same hk⟩
theorem IxAt.below {w w' : World} {X : Nat} {s : Ix.St} {S : Nat → Prop} (h : IxAt w X s S) (hb : Below w.heap.size w w') : IxAt w' X s S := h.same fun k _ hk => hb.block k hk
theorem IxAt.mono {w : World} {X : Nat} {s : Ix.St} {S T : Nat → Prop} (h : IxAt w X s S) (hT : ∀ k, S k → T k) : IxAt w X s T := by
  obtain ⟨mv, av, h⟩ := h; exact ⟨mv, av, h.mono hT⟩
theorem IxL.ne {w : World} {X : Nat} {mv av : Value} {s : Ix.St} {S : Nat → Prop} (h : IxL w X mv av s S) : mv.ownBlock ≠ some X ∧ av.ownBlock ≠ some X ∧ (mv.ownBlock = none ∨ mv.ownBlock ≠ av.ownBlock) ∧ (av.ownBlock = none ∨ av.ownBlock ≠ mv.ownBlock) := by
  have hm : ∀ g, mv.ownBlock = some g → ∃ c, w.heap[g]? = some (.cells c 187 (0, 0)) := fun g hg => by
    rcases h.marks.2 with ⟨e, _⟩ | ⟨g', cap, cur, e, _, hh, _⟩
    · rw [e] at hg; cases hg
    · rw [e] at hg
      have : g' = g := by simpa [Value.ownBlock] using hg
      exact ⟨cur, this ▸ hh⟩
  have ha : ∀ g, av.ownBlock = some g → ∃ c, w.heap[g]? = some (.cells c 218 (0, 0)) := fun g hg => by
    rcases h.adds.2 with ⟨e, _⟩ | ⟨g', cap, cur, e, _, hh, _⟩
    · rw [e] at hg; cases hg
    · rw [e] at hg
      have : g' = g := by simpa [Value.ownBlock] using hg
      exact ⟨cur, this ▸ hh⟩
  have hma : ∀ g, mv.ownBlock = some g → av.ownBlock ≠ some g := fun g h1 h2 => by
    obtain ⟨c1, e1⟩ := hm g h1
    obtain ⟨c2, e2⟩ := ha g h2
    exact types_ne e1 e2 (by decide) rfl
  refine ⟨fun e => ?_, fun e => ?_, ?_, ?_⟩
  · obtain ⟨c, e1⟩ := hm X e
    exact types_ne e1 h.box (by decide) rfl
  · obtain ⟨c, e1⟩ := ha X e
    exact types_ne e1 h.box (by decide) rfl
  · cases hx : mv.ownBlock with
    | none => exact .inl rfl
    | some g => exact .inr fun e => hma g hx e.symm
  · cases hx : av.ownBlock with
    | none => exact .inl rfl
    | some g => exact .inr fun e => hma g e.symm hx

section
variable {P : Program} {w : World} {o : Oper} {a : Act} {Q : Exit → Act → World → Prop}
/-- append(s, x...), s the call's own row, whatever its elements. -/
theorem step_appG {K : Act → World → Prop} (t e : TypeId) (size bytes : Nat) (z : Value) (hu : P.underlying t = some (.slice e)) (hin : (P.info? e).map (fun i => (i.zero, i.size, i.bytes)) = some (some z, size, bytes)) (hzs : z.cells.size = size) (hsz : 0 < size)
    (s x : Operand) (ho : o.op = .call { callee := .builtin .append, args := #[s, x], argTypes := #[t, t] })
    (base : Nat) (v : Value) (n : Nat) (xs : List Value) (hs : a.eval s = v) (hown : w.ownsRow base e size v n xs) (A : Addr) (m c : Nat) (news : List Value) (hx : a.eval x = .slice (some A) m c) (hl : news.length = m * size)
    (hnews : ∀ j u, news[j]? = some u → w.cell? (A.add j) = some u) (h1 : ∀ u ∈ news, u.oneCell' = true) (h63 : n + m ≤ maxLen) (hby : (n + m) * bytes ≤ 140737488355328) (hbase : base ≤ w.heap.size)
    (h : ∀ v' w', w'.ownsRow base e size v' (n + m) (xs ++ news) → w.grownBy w' v.ownBlock → (v'.ownBlock = v.ownBlock ∨ v'.ownBlock = some w.heap.size) → K (a.put o.dst v') w') : o.wp P a w K Q := by
  obtain ⟨i, hi, hz, hs1, hb⟩ := info_parts hin
  obtain ⟨v', w', hrun, r2, r3, _, r5⟩ := run_append_own_at (P := P) w base t o.type e i _ size bytes hu hi hz hs1 hb hzs hsz v n xs hown A m c news hl hnews h1 h63 hby hbase
  unfold Oper.wp execOp
  simp only [ho, resolve, invoke, builtin, Sem.run_bind, Sem.run_pure, Result.andThen_ok, List.map_toArray, List.map_cons, List.map_nil, hs, hx, hrun]
  exact h v' w' r2 r3 r5
end
end Go.Proofs.YtcmgppacipdnaaaGreatDoor

namespace Go.Proofs.YtcmgppacipdnaaaGreatDoor
open Go.RowKit

set_option maxRecDepth 100000 in
theorem ixNew_any (e : Int) (w : World) (h : 1 ≤ e ∧ e ≤ 1048576) :
    Calls Tryz.prog 71 #[.int .i64 e] w fun r w' => r = .returned (.tuple #[.pointer (some ⟨w.heap.size, 0, none⟩), .nilIface]) ∧ IxAt w' w.heap.size (Ix.new e) (fun k => w.heap.size ≤ k ∧ k < w'.heap.size) ∧ Below w.heap.size w w' := by
  have d1 : decide (e < 1) = false := by simp; omega
  have d2 : decide (1048576 < e) = false := by simp; omega
  go_enter Tryz.func71, Tryz.ntmps71
  go_wp2_with fail
  go_returns
  refine ⟨rfl, ⟨.slice none 0 0, .slice none 0 0, ⟨heap_alloc_new _ _, World.ownsRow_nil _ _ _ _, World.ownsRow_nil _ _ _ _, ⟨Nat.le_refl _, by simp⟩, fun g hg => (by cases hg), fun g hg => (by cases hg)⟩⟩, balloc (Below.refl _ _) _⟩

theorem last_split {α : Type} {l : List α} (h : l ≠ []) : ∃ a, l = l.dropLast ++ [a] ∧ l.getLast? = some a ∧ l.length = l.dropLast.length + 1 :=
  ⟨l.getLast h, (List.dropLast_concat_getLast h).symm, (by match l, h with | _ :: _, _ => rfl), by rw [List.length_dropLast]; have := List.length_pos_iff.2 h; omega⟩

set_option maxRecDepth 100000 in
theorem behind_any (X : Nat) (mv av : Value) (s : Ix.St) (S : Nat → Prop) (o p : Int) (w : World) (h : IxL w X mv av s S) (hn : s.adds.length ≤ 1000000) :
    Calls Tryz.prog 169 #[.pointer (some ⟨X, 0, none⟩), .agg #[.int .i64 o, .int .i64 p]] w fun r w' => r = .returned (.bool (decide (Ix.behind s.adds o p))) ∧ Below w.heap.size w w' := by
  have hX := (Array.getElem?_eq_some_iff.1 h.box).1
  obtain ⟨W, hW⟩ : ∃ W, W = w.alloc (.cells #[.int .i64 o, .int .i64 p] 218) := ⟨_, rfl⟩
  have hb : Below w.heap.size w W := by rw [hW]; exact balloc (Below.refl _ _) _
  have c2 : W.cell? ⟨X, 2, none⟩ = some av := by
    have e := hb.cell (p := ⟨X, 2, none⟩) hX
    rw [e]; exact box_cell h.box 2
  have b0 : W.cell? ⟨w.heap.size, 0, none⟩ = some (.int .i64 o) := by rw [hW]; simp
  have b1 : W.cell? ⟨w.heap.size, 1, none⟩ = some (.int .i64 p) := by rw [hW, World.cell?_alloc_mark]; rfl
  have HW := hide hW
  have HB := hide hb
  by_cases h0 : s.adds = []
  · obtain ⟨A, c, rfl⟩ : ∃ A c, av = .slice A 0 c := by
      rcases h.adds.2 with ⟨e, _⟩ | ⟨g, cap, cur, e, _⟩
      · exact ⟨none, 0, e⟩
      · exact ⟨_, _, by rw [e, h0]; rfl⟩
    have e : decide (Ix.behind s.adds o p) = true := decide_eq_true (fun a ha => by rw [h0] at ha; cases ha)
    rw [e]
    clear h e h0 hb hW hn
    go_enter Tryz.func169, Tryz.ntmps169
    go_upto_region 1 with fail
    rw [← HW.out]
    go_wp2_with fail
    go_quiet (fail)
    go_wp2_with fail
    go_ret
    exact ⟨rfl, below_drewN HB.out _⟩
  · obtain ⟨a, hl, hg, hlen⟩ := last_split h0
    obtain ⟨n, hN⟩ : ∃ n, n = s.adds.dropLast.length := ⟨_, rfl⟩
    rw [← hN] at hlen
    obtain ⟨g, cap, rfl, hgl, hcap, hcx⟩ : ∃ g cap, av = .slice (some ⟨g, 0, none⟩) (n + 1) cap ∧ g < w.heap.size ∧ n + 1 ≤ cap ∧ (w.cell? ⟨g, n * 2, none⟩ = some (.int .i64 a.off) ∧ w.cell? ⟨g, n * 2 + 1, none⟩ = some (.int .i64 a.pos)) := by
      rcases h.adds.2 with ⟨_, e⟩ | ⟨g, cap, cur, e, _, hh, hcap, _⟩
      · rw [hlen] at e; omega
      · obtain ⟨k1, k2⟩ := ad_at s.adds n (by omega)
        have e1 : s.adds[n]'(by omega) = a := by
          have : s.adds[n]? = some a := by rw [hl, hN]; simp
          rw [List.getElem?_eq_getElem (by omega)] at this
          exact Option.some.inj this
        rw [e1] at k1 k2
        have hc := h.adds.cells (g := g) (by rw [e]; rfl)
        refine ⟨g, cap, by rw [e, hlen], (Array.getElem?_eq_some_iff.1 hh).1, by omega, ?_, ?_⟩
        · have := hc _ _ k1; rwa [Addr.add_lit, Nat.zero_add] at this
        · have := hc _ _ k2; rwa [Addr.add_lit, Nat.zero_add] at this
    have g0 : W.cell? ⟨g, n * 2, none⟩ = some (.int .i64 a.off) := (hb.cell (p := ⟨g, n * 2, none⟩) hgl).trans hcx.1
    have g1 : W.cell? ⟨g, n * 2 + 1, none⟩ = some (.int .i64 a.pos) := (hb.cell (p := ⟨g, n * 2 + 1, none⟩) hgl).trans hcx.2
    have hbe : Ix.behind s.adds o p ↔ a.off < o ∧ a.pos < p := ⟨fun hh => hh a hg, fun hh b hb => by rw [hg] at hb; cases hb; exact hh⟩
    have hn1 : n + 1 ≤ 1000000 := by omega
    have hz0 : ((n : Int) + 1 == 0) = false := by rw [beq_eq_false_iff_ne]; omega
    clear h hl hg hlen hN hcx hb hW hn h0
    obtain ⟨ao, ap⟩ := a
    simp only at g0 g1 hbe
    by_cases h1 : ao < o
    · by_cases h2 : ap < p
      · rw [decide_eq_true (hbe.2 ⟨h1, h2⟩)]
        clear hbe
        go_enter Tryz.func169, Tryz.ntmps169
        go_upto_region 1 with fail
        rw [← HW.out]
        go_wp2_with fail
        go_quiet (fail)
        go_wp2_with fail
        go_ret
        exact ⟨rfl, below_drewN HB.out _⟩
      · rw [decide_eq_false (fun hh => h2 (hbe.1 hh).2)]
        clear hbe
        go_enter Tryz.func169, Tryz.ntmps169
        go_upto_region 1 with fail
        rw [← HW.out]
        go_wp2_with fail
        go_quiet (fail)
        go_wp2_with fail
        go_ret
        exact ⟨by simp [h2], below_drewN HB.out _⟩
    · rw [decide_eq_false (fun hh => h1 (hbe.1 hh).1)]
      clear hbe
      have h1' : o ≤ ao := by omega
      have h1d : decide (ao < o) = false := decide_eq_false h1
      go_enter Tryz.func169, Tryz.ntmps169
      go_upto_region 1 with fail
      rw [← HW.out]
      go_wp2_with fail
      go_quiet (fail)
      go_wp2_with fail
      go_ret
      exact ⟨rfl, below_drewN HB.out _⟩
end Go.Proofs.YtcmgppacipdnaaaGreatDoor

namespace Go.Proofs.YtcmgppacipdnaaaGreatDoor
open Go.RowKit

set_option maxRecDepth 100000 in
theorem due_any (X : Nat) (mv av : Value) (s : Ix.St) (S : Nat → Prop) (p : Int) (w : World) (h : IxL w X mv av s S) (hok : Ix.Ok s) (hp : Ix.okP p) (hn : s.marks.length ≤ 1000000) :
    Calls Tryz.prog 170 #[.pointer (some ⟨X, 0, none⟩), .int .i64 p] w fun r w' => r = .returned (.bool (decide (Ix.due s p))) ∧ ∃ q, w' = w.drewN q := by
  have c1 : w.cell? ⟨X, 1, none⟩ = some mv := box_cell h.box 1
  have c0 : w.cell? ⟨X, 0, none⟩ = some (.int .i64 s.every) := box_cell h.box 0
  by_cases h0 : s.marks = []
  · obtain ⟨A, c, rfl⟩ : ∃ A c, mv = .slice A 0 c := by
      rcases h.marks.2 with ⟨e, _⟩ | ⟨g, cap, cur, e, _⟩
      · exact ⟨none, 0, e⟩
      · exact ⟨_, _, by rw [e, h0]; rfl⟩
    have e : decide (Ix.due s p) = true := decide_eq_true (fun a ha => by rw [h0] at ha; cases ha)
    rw [e]
    clear h e h0 hn hok hp
    go_enter Tryz.func170, Tryz.ntmps170
    go_wp2_with fail
    go_quiet (fail)
    go_wp2_with fail
    go_ret
    exact ⟨rfl, _, rfl⟩
  · obtain ⟨a, hl, hg, hlen⟩ := last_split h0
    obtain ⟨n, hN⟩ : ∃ n, n = s.marks.dropLast.length := ⟨_, rfl⟩
    rw [← hN] at hlen
    have hi : s.marks[n]'(by omega) = a := by
      have : s.marks[n]? = some a := by rw [hl, hN]; simp
      rw [List.getElem?_eq_getElem (by omega)] at this
      exact Option.some.inj this
    obtain ⟨g, cap, rfl, hcap, g2⟩ : ∃ g cap, mv = .slice (some ⟨g, 0, none⟩) (n + 1) cap ∧ n + 1 ≤ cap ∧ w.cell? ⟨g, n * 3 + 2, none⟩ = some (.int .i64 a.pos) := by
      rcases h.marks.2 with ⟨_, e⟩ | ⟨g, cap, cur, e, _, hh, hcap, _⟩
      · rw [hlen] at e; omega
      · obtain ⟨k1, k2, k3⟩ := mk_at s.marks n (by omega)
        rw [hi] at k3
        have hc := h.marks.cells (g := g) (by rw [e]; rfl)
        refine ⟨g, cap, by rw [e, hlen], by omega, ?_⟩
        have := hc _ _ k3; rwa [Addr.add_lit, Nat.zero_add] at this
    have hap := (hok.marks a (by rw [← hi]; exact List.getElem_mem _)).2.2
    have hev := hok.every
    have hbe : Ix.due s p ↔ s.every ≤ p - a.pos := ⟨fun hh => hh a hg, fun hh b hb => by rw [hg] at hb; cases hb; exact hh⟩
    have hn1 : n + 1 ≤ 1000000 := by omega
    have hz0 : ((n : Int) + 1 == 0) = false := by rw [beq_eq_false_iff_ne]; omega
    unfold Ix.okP at hap hp
    clear h hl hg hlen hN hn h0 hi hok
    obtain ⟨ao, at_, ap⟩ := a
    simp only at g2 hbe hap
    generalize s.every = ev at *
    have hw : IntKind.i64.wrap (p - ap) = p - ap := by rw [IntKind.wrap_i64]; omega
    by_cases h1 : ev ≤ p - ap
    · rw [decide_eq_true (hbe.2 h1)]
      clear hbe
      go_enter Tryz.func170, Tryz.ntmps170
      go_wp2_with fail
      go_quiet (fail)
      go_wp2_with fail
      go_ret
      exact ⟨by simp, _, rfl⟩
    · rw [decide_eq_false (fun hh => h1 (hbe.1 hh))]
      clear hbe
      go_enter Tryz.func170, Tryz.ntmps170
      go_wp2_with fail
      go_quiet (fail)
      go_wp2_with fail
      go_ret
      exact ⟨by simp [h1], _, rfl⟩

theorem rightO_any (o : Int) (w : World) : Calls Tryz.prog 166 #[.int .i64 o] w fun r w' => r = .returned (.bool (decide (Ix.okO o))) ∧ w' = w := by
  by_cases h1 : 0 ≤ o
  · have d1 : decide (0 ≤ o) = true := by simp [h1]
    by_cases h2 : o ≤ 1099511627776
    · have d2 : decide (o ≤ 1099511627776) = true := by simp [h2]
      rw [decide_eq_true (show Ix.okO o from ⟨h1, h2⟩)]
      go_enter Tryz.func166, Tryz.ntmps166
      go_wp2_with fail
      go_ret
      exact ⟨rfl, rfl⟩
    · have d2 : decide (o ≤ 1099511627776) = false := by simp; omega
      rw [decide_eq_false (fun hh : Ix.okO o => h2 hh.2)]
      go_enter Tryz.func166, Tryz.ntmps166
      go_wp2_with fail
      go_ret
      exact ⟨rfl, rfl⟩
  · have d1 : decide (0 ≤ o) = false := by simp; omega
    rw [decide_eq_false (fun hh : Ix.okO o => h1 hh.1)]
    go_enter Tryz.func166, Tryz.ntmps166
    go_wp2_with fail
    go_ret
    exact ⟨rfl, rfl⟩
theorem rightT_any (o : Int) (w : World) : Calls Tryz.prog 167 #[.int .i64 o] w fun r w' => r = .returned (.bool (decide (Ix.okT o))) ∧ w' = w := by
  by_cases h1 : -1099511627776 ≤ o
  · have d1 : decide (-1099511627776 ≤ o) = true := by simp [h1]
    by_cases h2 : o ≤ 1099511627776
    · have d2 : decide (o ≤ 1099511627776) = true := by simp [h2]
      rw [decide_eq_true (show Ix.okT o from ⟨h1, h2⟩)]
      go_enter Tryz.func167, Tryz.ntmps167
      go_wp2_with fail
      go_ret
      exact ⟨rfl, rfl⟩
    · have d2 : decide (o ≤ 1099511627776) = false := by simp; omega
      rw [decide_eq_false (fun hh : Ix.okT o => h2 hh.2)]
      go_enter Tryz.func167, Tryz.ntmps167
      go_wp2_with fail
      go_ret
      exact ⟨rfl, rfl⟩
  · have d1 : decide (-1099511627776 ≤ o) = false := by simp; omega
    rw [decide_eq_false (fun hh : Ix.okT o => h1 hh.1)]
    go_enter Tryz.func167, Tryz.ntmps167
    go_wp2_with fail
    go_ret
    exact ⟨rfl, rfl⟩
theorem rightP_any (o : Int) (w : World) : Calls Tryz.prog 168 #[.int .i64 o] w fun r w' => r = .returned (.bool (decide (Ix.okP o))) ∧ w' = w := by
  by_cases h1 : 0 ≤ o
  · have d1 : decide (0 ≤ o) = true := by simp [h1]
    by_cases h2 : o ≤ 1073741824
    · have d2 : decide (o ≤ 1073741824) = true := by simp [h2]
      rw [decide_eq_true (show Ix.okP o from ⟨h1, h2⟩)]
      go_enter Tryz.func168, Tryz.ntmps168
      go_wp2_with fail
      go_ret
      exact ⟨rfl, rfl⟩
    · have d2 : decide (o ≤ 1073741824) = false := by simp; omega
      rw [decide_eq_false (fun hh : Ix.okP o => h2 hh.2)]
      go_enter Tryz.func168, Tryz.ntmps168
      go_wp2_with fail
      go_ret
      exact ⟨rfl, rfl⟩
  · have d1 : decide (0 ≤ o) = false := by simp; omega
    rw [decide_eq_false (fun hh : Ix.okP o => h1 hh.1)]
    go_enter Tryz.func168, Tryz.ntmps168
    go_wp2_with fail
    go_ret
    exact ⟨rfl, rfl⟩
end Go.Proofs.YtcmgppacipdnaaaGreatDoor

namespace Go.Proofs.YtcmgppacipdnaaaGreatDoor
open Go.RowKit

theorem mk_info : (Tryz.prog.info? 187).map (fun i => (i.zero, i.size, i.bytes)) = some (some (.agg #[.int .i64 0, .int .i64 0, .int .i64 0]), 3, 24) := by kernel_rfl
theorem ad_info : (Tryz.prog.info? 218).map (fun i => (i.zero, i.size, i.bytes)) = some (some (.agg #[.int .i64 0, .int .i64 0]), 2, 16) := by kernel_rfl

theorem IxL.setTime {w : World} {X : Nat} {mv av : Value} {s : Ix.St} {S : Nat → Prop} (h : IxL w X mv av s S) (t : Int) :
    IxL (w.setCell ⟨X, 3, none⟩ (.int .i64 t)) X mv av ⟨s.every, s.marks, s.adds, t⟩ S ∧ Chg S w (w.setCell ⟨X, 3, none⟩ (.int .i64 t)) := by
  obtain ⟨n1, n2, -, -⟩ := h.ne
  refine ⟨⟨heap_setCell_same w X 3 _ _ _ h.box, ownsRow_same h.marks fun g hg => Below.heap_setCell _ _ _ _ (fun e => n1 (by rw [hg, e])), ownsRow_same h.adds fun g hg => Below.heap_setCell _ _ _ _ (fun e => n2 (by rw [hg, e])), h.mX, h.mM, h.mA⟩, Chg.setCell w X 3 _ h.mX⟩
/-- The box stays where a row grows. -/
theorem IxL.boxed {w w1 w2 : World} {X : Nat} {mv av : Value} {s : Ix.St} {S : Nat → Prop} (h : IxL w X mv av s S) (hb : Below w.heap.size w w1) {row : Option Nat} (hg : w1.grownBy w2 row) (hr : row ≠ some X) : w2.heap[X]? = some (.cells (ixCells s mv av) 168 (0, 0)) := by
  have hX := (Array.getElem?_eq_some_iff.1 h.box).1
  have hs := hb.size
  exact (hg.block X (by omega) (fun e => hr e.symm)).trans ((hb.block X hX).trans h.box)
theorem IxL.pushAd {w w1 w2 : World} {X : Nat} {mv av v' : Value} {s : Ix.St} {S : Nat → Prop} (h : IxL w X mv av s S) (hb : Below w.heap.size w w1) (a : Ix.Ad) (ho : w2.ownsRow 0 218 2 v' (s.adds.length + 1) (s.adds.flatMap adCells ++ adCells a)) (hg : w1.grownBy w2 av.ownBlock) (hv : v'.ownBlock = av.ownBlock ∨ v'.ownBlock = some w1.heap.size) :
    IxL (w2.setCell ⟨X, 2, none⟩ v') X mv v' ⟨s.every, s.marks, s.adds ++ [a], s.time⟩ (Up S w (w2.setCell ⟨X, 2, none⟩ v')) ∧ Chg S w (w2.setCell ⟨X, 2, none⟩ v') := by
  obtain ⟨n1, n2, n3, n4⟩ := h.ne
  have hX := (Array.getElem?_eq_some_iff.1 h.box).1
  have hbs := hb.size
  have hgs := hg.size
  have hbx := h.boxed hb hg n2
  have hnx : v'.ownBlock ≠ some X := fun e => by
    rcases hv with k | k
    · exact n2 (k ▸ e)
    · rw [k] at e; injection e with e; omega
  have hsz : (w2.setCell ⟨X, 2, none⟩ v').heap.size = w2.heap.size := by simp
  refine ⟨⟨heap_setCell_same w2 X 2 _ _ _ hbx, ownsRow_same h.marks fun g hgm => ?_, ?_, .inl h.mX, fun g hgm => .inl (h.mM g hgm), fun g hga => ?_⟩, ?_⟩
  · have hlt := (h.marks.lt g hgm).2
    rw [Below.heap_setCell _ _ _ _ (fun e => n1 (by rw [hgm, e])), hg.block g (by omega) (fun e => by
      rcases n3 with k | k
      · rw [k] at hgm; cases hgm
      · exact k (by rw [hgm, e])), hb.block g hlt]
  · have e : (s.adds ++ [a]).length = s.adds.length + 1 := by simp
    have e2 : (s.adds ++ [a]).flatMap adCells = s.adds.flatMap adCells ++ adCells a := by simp
    show World.ownsRow _ 0 _ 2 v' (s.adds ++ [a]).length ((s.adds ++ [a]).flatMap adCells)
    rw [e, e2]
    exact ownsRow_same ho fun g hga => Below.heap_setCell _ _ _ _ (fun e => hnx (by rw [hga, e]))
  · rcases hv with k | k
    · exact .inl (h.mA g (k ▸ hga))
    · rw [k] at hga; injection hga with hga; subst hga
      refine .inr ⟨hbs, ?_⟩
      rw [hsz]
      exact (ho.lt _ k).2
  · refine (Chg.of_below hb).trans ((Chg.of_grown (S := S) hg fun k hk => h.mA k hk).trans (Chg.setCell w2 X 2 _ h.mX) fun _ _ t => t) fun _ _ t => t
theorem IxL.pushMk {w w1 w2 : World} {X : Nat} {mv av v' : Value} {s : Ix.St} {S : Nat → Prop} (h : IxL w X mv av s S) (hb : Below w.heap.size w w1) (a : Ix.Mark) (ho : w2.ownsRow 0 187 3 v' (s.marks.length + 1) (s.marks.flatMap mkCells ++ mkCells a)) (hg : w1.grownBy w2 mv.ownBlock) (hv : v'.ownBlock = mv.ownBlock ∨ v'.ownBlock = some w1.heap.size) :
    IxL (w2.setCell ⟨X, 1, none⟩ v') X v' av ⟨s.every, s.marks ++ [a], s.adds, s.time⟩ (Up S w (w2.setCell ⟨X, 1, none⟩ v')) ∧ Chg S w (w2.setCell ⟨X, 1, none⟩ v') := by
  obtain ⟨n1, n2, n3, n4⟩ := h.ne
  have hX := (Array.getElem?_eq_some_iff.1 h.box).1
  have hbs := hb.size
  have hgs := hg.size
  have hbx := h.boxed hb hg n1
  have hnx : v'.ownBlock ≠ some X := fun e => by
    rcases hv with k | k
    · exact n1 (k ▸ e)
    · rw [k] at e; injection e with e; omega
  have hsz : (w2.setCell ⟨X, 1, none⟩ v').heap.size = w2.heap.size := by simp
  refine ⟨⟨heap_setCell_same w2 X 1 _ _ _ hbx, ?_, ownsRow_same h.adds fun g hgm => ?_, .inl h.mX, fun g hga => ?_, fun g hgm => .inl (h.mA g hgm)⟩, ?_⟩
  · have e : (s.marks ++ [a]).length = s.marks.length + 1 := by simp
    have e2 : (s.marks ++ [a]).flatMap mkCells = s.marks.flatMap mkCells ++ mkCells a := by simp
    show World.ownsRow _ 0 _ 3 v' (s.marks ++ [a]).length ((s.marks ++ [a]).flatMap mkCells)
    rw [e, e2]
    exact ownsRow_same ho fun g hga => Below.heap_setCell _ _ _ _ (fun e => hnx (by rw [hga, e]))
  · have hlt := (h.adds.lt g hgm).2
    rw [Below.heap_setCell _ _ _ _ (fun e => n2 (by rw [hgm, e])), hg.block g (by omega) (fun e => by
      rcases n4 with k | k
      · rw [k] at hgm; cases hgm
      · exact k (by rw [hgm, e])), hb.block g hlt]
  · rcases hv with k | k
    · exact .inl (h.mM g (k ▸ hga))
    · rw [k] at hga; injection hga with hga; subst hga
      refine .inr ⟨hbs, ?_⟩
      rw [hsz]
      exact (ho.lt _ k).2
  · refine (Chg.of_below hb).trans ((Chg.of_grown (S := S) hg fun k hk => h.mM k hk).trans (Chg.setCell w2 X 1 _ h.mX) fun _ _ t => t) fun _ _ t => t
end Go.Proofs.YtcmgppacipdnaaaGreatDoor

namespace Go.Proofs.YtcmgppacipdnaaaGreatDoor
open Go.RowKit

theorem add_good {s : Ix.St} {o t p z : Int} (h : Ix.good s o t p z) : Ix.add s o t p z = (none, Ix.put s o t p) := if_pos h
theorem add_bad {s : Ix.St} {o t p z : Int} (h : ¬ Ix.good s o t p z) : Ix.add s o t p z = (some 4, s) := if_neg h

set_option maxRecDepth 100000 in
set_option maxHeartbeats 1000000 in
theorem ixBad_any (X : Nat) (mv av : Value) (s : Ix.St) (S : Nat → Prop) (e4 : Addr) (o t p z : Int) (w : World) (h : IxL w X mv av s S) (hn : s.adds.length ≤ 1000000) (hs : w.cell? ⟨3, 0, none⟩ = some (errV e4)) (hb : ¬ Ix.good s o t p z) :
    Calls Tryz.prog 132 #[.pointer (some ⟨X, 0, none⟩), .int .i64 o, .int .i64 t, .int .i64 p, .int .i64 z] w fun r w' => r = .returned (errV e4) ∧ Below w.heap.size w w' := by
  obtain ⟨W, hW⟩ : ∃ W, W = w.alloc (.cells #[.int .i64 o, .int .i64 p] 218) := ⟨_, rfl⟩
  have hbl : Below w.heap.size w W := by rw [hW]; exact balloc (Below.refl _ _) _
  have g4 := (hbl.cell (p := ⟨3, 0, none⟩) (World.block_lt_of_cell? w _ hs)).trans hs
  have b0 : W.cell? ⟨w.heap.size, 0, none⟩ = some (.int .i64 o) := by rw [hW]; simp
  have b1 : W.cell? ⟨w.heap.size, 1, none⟩ = some (.int .i64 p) := by rw [hW, World.cell?_alloc_mark]; rfl
  have HW := hide hW
  have HB := hide hbl
  have HO := hide (fun V => rightO_any o V)
  have HT := hide (fun V => rightT_any t V)
  have HP := hide (fun V => rightP_any p V)
  have HI := hide (behind_any X mv av s S o p W (h.same fun k _ hk => hbl.block k hk) hn)
  have HG4 := hide g4
  have HWZ := hide hbl.size
  clear h hn hbl hW hs
  unfold Ix.good at hb
  by_cases h1 : Ix.okO o
  · rw [decide_eq_true h1] at HO
    by_cases h2 : Ix.okT t
    · rw [decide_eq_true h2] at HT
      by_cases h3 : 1 ≤ z
      · have d3 : decide (z < 1) = false := by simp; omega
        by_cases h4 : Ix.okP p
        · rw [decide_eq_true h4] at HP
          have h5 : ¬ Ix.behind s.adds o p := fun k => hb ⟨h1, h2, h3, h4, k⟩
          rw [decide_eq_false h5] at HI
          clear hb h1 h2 h4 h5
          go_enter Tryz.func132, Tryz.ntmps132
          go_upto_region 2 with fail
          rw [← HW.out]
          go_wp2_with (first
            | (go_at_call 166; refine (HO.out _).mono ?_; rintro e w2 ⟨rfl, e⟩; subst e)
            | (go_at_call 167; refine (HT.out _).mono ?_; rintro e w2 ⟨rfl, e⟩; subst e)
            | (go_at_call 168; refine (HP.out _).mono ?_; rintro e w2 ⟨rfl, e⟩; subst e)
            | (go_at_call 169; refine HI.out.mono ?_; rintro e w2 ⟨rfl, hb2⟩; have HB2 := hide hb2; have g42 := (hb2.cell (p := ⟨3, 0, none⟩) (World.block_lt_of_cell? _ _ HG4.out)).trans HG4.out; clear hb2)
            | fail)
          go_ret
          exact ⟨rfl, HB.out.trans (HB2.out.mono HWZ.out)⟩
        · rw [decide_eq_false h4] at HP
          clear hb h1 h2 h4
          go_enter Tryz.func132, Tryz.ntmps132
          go_upto_region 2 with fail
          rw [← HW.out]
          go_wp2_with (first
            | (go_at_call 166; refine (HO.out _).mono ?_; rintro e w2 ⟨rfl, e⟩; subst e)
            | (go_at_call 167; refine (HT.out _).mono ?_; rintro e w2 ⟨rfl, e⟩; subst e)
            | (go_at_call 168; refine (HP.out _).mono ?_; rintro e w2 ⟨rfl, e⟩; subst e)
            | fail)
          go_ret
          exact ⟨rfl, HB.out⟩
      · have d3 : decide (z < 1) = true := by simp; omega
        clear hb h1 h2
        go_enter Tryz.func132, Tryz.ntmps132
        go_upto_region 2 with fail
        rw [← HW.out]
        go_wp2_with (first
          | (go_at_call 166; refine (HO.out _).mono ?_; rintro e w2 ⟨rfl, e⟩; subst e)
          | (go_at_call 167; refine (HT.out _).mono ?_; rintro e w2 ⟨rfl, e⟩; subst e)
          | fail)
        go_ret
        exact ⟨rfl, HB.out⟩
    · rw [decide_eq_false h2] at HT
      clear hb h1 h2
      go_enter Tryz.func132, Tryz.ntmps132
      go_upto_region 2 with fail
      rw [← HW.out]
      go_wp2_with (first
        | (go_at_call 166; refine (HO.out _).mono ?_; rintro e w2 ⟨rfl, e⟩; subst e)
        | (go_at_call 167; refine (HT.out _).mono ?_; rintro e w2 ⟨rfl, e⟩; subst e)
        | fail)
      go_ret
      exact ⟨rfl, HB.out⟩
  · rw [decide_eq_false h1] at HO
    clear hb h1
    go_enter Tryz.func132, Tryz.ntmps132
    go_upto_region 2 with fail
    rw [← HW.out]
    go_wp2_with (first
      | (go_at_call 166; refine (HO.out _).mono ?_; rintro e w2 ⟨rfl, e⟩; subst e)
      | fail)
    go_ret
    exact ⟨rfl, HB.out⟩
end Go.Proofs.YtcmgppacipdnaaaGreatDoor

namespace Go.Proofs.YtcmgppacipdnaaaGreatDoor
open Go.RowKit

section
variable {P : Program} {w : World} {o : Oper} {a : Act} {Q : Exit → Act → World → Prop}
/-- The same, as one step of a region that draws. -/
theorem step_appR {K : Act → World → Prop} {ops : Array Oper} {E : Prop} (hgu : o.guard = none) (t e : TypeId) (size bytes : Nat) (z : Value) (hu : P.underlying t = some (.slice e)) (hin : (P.info? e).map (fun i => (i.zero, i.size, i.bytes)) = some (some z, size, bytes)) (hzs : z.cells.size = size) (hsz : 0 < size)
    (s x : Operand) (ho : o.op = .call { callee := .builtin .append, args := #[s, x], argTypes := #[t, t] })
    (base : Nat) (v : Value) (n : Nat) (xs : List Value) (hs : a.eval s = v) (hown : w.ownsRow base e size v n xs) (A : Addr) (m c : Nat) (news : List Value) (hx : a.eval x = .slice (some A) m c) (hl : news.length = m * size)
    (hnews : ∀ j u, news[j]? = some u → w.cell? (A.add j) = some u) (h1 : ∀ u ∈ news, u.oneCell' = true) (h63 : n + m ≤ maxLen) (hby : (n + m) * bytes ≤ 140737488355328) (hbase : base ≤ w.heap.size)
    (h : ∀ v' w', w'.ownsRow base e size v' (n + m) (xs ++ news) → w.grownBy w' v.ownBlock → (v'.ownBlock = v.ownBlock ∨ v'.ownBlock = some w.heap.size) → K (a.put o.dst v') w') :
    if Region.wanted o (yielded ops a.tmps) = true then Oper.wp P o a w K Q else E := by
  have hw : Region.wanted o (yielded ops a.tmps) = true := by simp [Region.wanted, hgu]
  rw [if_pos hw]
  exact step_appG t e size bytes z hu hin hzs hsz s x ho base v n xs hs hown A m c news hx hl hnews h1 h63 hby hbase h
end
theorem own_slice {w : World} {base : Nat} {e : TypeId} {size : Nat} {v : Value} {n : Nat} {xs : List Value} (h : w.ownsRow base e size v n xs) : ∃ A n c, v = .slice A n c := by
  rcases h.2 with ⟨rfl, _⟩ | ⟨g, cap, cur, rfl, _⟩
  · exact ⟨_, _, _, rfl⟩
  · exact ⟨_, _, _, rfl⟩
theorem news2 {w : World} {a b : Value} {t : TypeId} : ∀ j u, ([a, b] : List Value)[j]? = some u → (w.alloc (.cells #[a, b] t)).cell? ((⟨w.heap.size, 0, none⟩ : Addr).add j) = some u := fun j u h => by
  rw [Addr.add_lit, Nat.zero_add, World.cell?_alloc_mark]
  simpa using h
theorem news3 {w : World} {a b c : Value} {t : TypeId} : ∀ j u, ([a, b, c] : List Value)[j]? = some u → (w.alloc (.cells #[a, b, c] t)).cell? ((⟨w.heap.size, 0, none⟩ : Addr).add j) = some u := fun j u h => by
  rw [Addr.add_lit, Nat.zero_add, World.cell?_alloc_mark]
  simpa using h

theorem ixFin {w w2 w3 w5 : World} {X : Nat} {mv av : Value} {s : Ix.St} {S : Nat → Prop} (hb : Below w.heap.size w w2) (hc : Chg S w2 w3) (hl : IxL w5 X mv av s (Up S w3 w5)) (hc5 : Chg S w3 w5) : IxL w5 X mv av s (Up S w w5) ∧ Chg S w w5 := by
  have h3 : Chg S w w3 := (Chg.of_below hb).then hc
  refine ⟨hl.mono fun k hk => ?_, h3.then hc5⟩
  have := h3.size
  rcases hk with hk | hk
  · exact .inl hk
  · exact .inr ⟨by omega, hk.2⟩

theorem ixDrew {w w5 : World} {X : Nat} {mv av : Value} {s : Ix.St} {S : Nat → Prop} (h : IxL w5 X mv av s (Up S w w5) ∧ Chg S w w5) (q : Nat) : IxL (w5.drewN q) X mv av s (Up S w (w5.drewN q)) ∧ Chg S w (w5.drewN q) :=
  ⟨h.1.same fun _ _ _ => rfl, h.2.then (Chg.of_below (below_drewN (Below.refl _ _) q))⟩

set_option maxRecDepth 100000 in
set_option maxHeartbeats 4000000 in
theorem ixGood_any (X : Nat) (mv av : Value) (s : Ix.St) (S : Nat → Prop) (o t p z : Int) (w : World) (h : IxL w X mv av s S) (hok : Ix.Ok s) (hn : s.adds.length ≤ 1000000) (hm : s.marks.length ≤ 1000000) (hg : Ix.good s o t p z) :
    Calls Tryz.prog 132 #[.pointer (some ⟨X, 0, none⟩), .int .i64 o, .int .i64 t, .int .i64 p, .int .i64 z] w fun r w' => r = .returned .nilIface ∧ IxAt w' X (Ix.put s o t p) (Up S w w') ∧ Chg S w w' := by
  obtain ⟨W, hW⟩ : ∃ W, W = w.alloc (.cells #[.int .i64 o, .int .i64 p] 218) := ⟨_, rfl⟩
  have hbl : Below w.heap.size w W := by rw [hW]; exact balloc (Below.refl _ _) _
  have b0 : W.cell? ⟨w.heap.size, 0, none⟩ = some (.int .i64 o) := by rw [hW]; simp
  have b1 : W.cell? ⟨w.heap.size, 1, none⟩ = some (.int .i64 p) := by rw [hW, World.cell?_alloc_mark]; rfl
  have hwz : w.heap.size < W.heap.size := by rw [hW]; simp
  obtain ⟨h1, h2, h3, h4, h5⟩ := hg
  have d3 : decide (z < 1) = false := by simp; omega
  have HO := hide (fun V => rightO_any o V)
  have HT := hide (fun V => rightT_any t V)
  have HP := hide (fun V => rightP_any p V)
  have HI := hide (behind_any X mv av s S o p W (h.same fun k _ hk => hbl.block k hk) hn)
  rw [decide_eq_true h1] at HO
  rw [decide_eq_true h2] at HT
  rw [decide_eq_true h4] at HP
  rw [decide_eq_true h5] at HI
  have HL := hide h
  have HW := hide hW
  have HB := hide hbl
  have HWZ := hide hwz
  have HOK := hide hok
  have HP4 := hide h4
  have HN := hide hn
  have HM := hide hm
  have HOKA : Hid (Ix.Ok ⟨s.every, s.marks, s.adds ++ [⟨o, p⟩], if s.time < t then t else s.time⟩) := hide (by
    have hk := hok.put o t p h1 h2 h4
    refine ⟨hok.every, ?_, hok.marks, hk.adds⟩
    have e : (if s.time < t then t else s.time) = max s.time t := by split <;> omega
    show Ix.okT _
    rw [e]; exact hk.time)
  obtain ⟨bd, hbd⟩ : ∃ bd, bd = decide (Ix.due s p) := ⟨_, rfl⟩
  have HBD := hide hbd
  have hX := (Array.getElem?_eq_some_iff.1 h.box).1
  have HX := hide hX
  clear h hn hm hbl hwz hW h1 h2 h3 h4 h5 hok hX hbd
  cases bd with
  | true =>
    go_enter Tryz.func132, Tryz.ntmps132
    go_upto_region 2 with fail
    rw [← HW.out]
    go_upto_region 4 with (first
      | (go_at_call 166; refine (HO.out _).mono ?_; rintro e w2 ⟨rfl, e⟩; subst e)
      | (go_at_call 167; refine (HT.out _).mono ?_; rintro e w2 ⟨rfl, e⟩; subst e)
      | (go_at_call 168; refine (HP.out _).mono ?_; rintro e w2 ⟨rfl, e⟩; subst e)
      | (go_at_call 169; refine HI.out.mono ?_; rintro e w2 ⟨rfl, hb2⟩; have HB2 := hide hb2; clear hb2)
      | fail)
    have HBW : Hid (Below w.heap.size w w2) := hide (HB.out.trans (HB2.out.mono (Nat.le_of_lt HWZ.out)))
    have HL2 : Hid (IxL w2 X mv av s S) := hide (HL.out.same fun k _ hk => HBW.out.block k hk)
    have c0 : w2.cell? ⟨w.heap.size, 0, none⟩ = some (.int .i64 o) := (HB2.out.cell (p := ⟨w.heap.size, 0, none⟩) HWZ.out).trans b0
    have c1 : w2.cell? ⟨w.heap.size, 1, none⟩ = some (.int .i64 p) := (HB2.out.cell (p := ⟨w.heap.size, 1, none⟩) HWZ.out).trans b1
    have c3 : w2.cell? ⟨X, 3, none⟩ = some (.int .i64 s.time) := box_cell HL2.out.box 3
    have f3 := box_free HL2.out.box 3
    clear b0 b1
    go_upto_region 5 with fail
    obtain ⟨tm, htm⟩ : ∃ tm, tm = if s.time < t then t else s.time := ⟨_, rfl⟩
    rw [← htm] at HOKA
    have HTM : Hid (tm = max s.time t) := hide (by rw [htm]; split <;> omega)
    obtain ⟨w3, hw3⟩ : ∃ w3, w3 = w2.setCell ⟨X, 3, none⟩ (.int .i64 tm) := ⟨_, rfl⟩
    obtain ⟨hl3, hc3⟩ := HL2.out.setTime tm
    rw [← hw3] at hl3 hc3
    rw [← htm, ← hw3]
    have HL3 := hide hl3
    have HC3 := hide hc3
    have HZ3 : Hid (w3.heap.size = w2.heap.size) := hide (by rw [hw3]; simp)
    have n0 : w.heap.size ≠ X := Nat.ne_of_gt HX.out
    have a2 : w3.cell? ⟨X, 2, none⟩ = some av := box_cell hl3.box 2
    have a0 : w3.cell? ⟨w.heap.size, 0, none⟩ = some (.int .i64 o) := by rw [hw3]; exact (Chg.setCell (S := fun k => k = X) w2 X 3 _ rfl).cell c0 n0
    have a1 : w3.cell? ⟨w.heap.size, 1, none⟩ = some (.int .i64 p) := by rw [hw3]; exact (Chg.setCell (S := fun k => k = X) w2 X 3 _ rfl).cell c1 n0
    clear c0 c1 c3 f3 htm hw3 hl3 hc3
    have HBA : Hid (Below w3.heap.size w3 (w3.drew.alloc (.cells #[.int .i64 o, .int .i64 p] 218))) := hide (balloc (Below.refl w3.heap.size w3).drew _)
    have a22 : (w3.alloc (.cells #[.int .i64 o, .int .i64 p] 218)).cell? ⟨X, 2, none⟩ = some av := ((balloc (Below.refl w3.heap.size w3) _).cell (p := ⟨X, 2, none⟩) (World.block_lt_of_cell? _ _ a2)).trans a2
    go_region_law (refine step_appR (by rfl) 166 218 2 16 _ (by kernel_rfl) ad_info (by rfl) (by omega) (.tmp 52) (.tmp 54) (by rfl) 0 av _ _ (by rfl) (ownsRow_same HL3.out.adds fun g hg => HBA.out.block g (HL3.out.adds.lt g hg).2) ⟨w3.heap.size, 0, none⟩ 1 1 (adCells ⟨o, p⟩) (by rfl) (by rfl) (news2 (w := w3.drew)) (by intro u hu; simp [adCells] at hu; rcases hu with rfl | rfl <;> rfl) (by have := HN.out; simp [maxLen]; omega) (by have := HN.out; simp; omega) (Nat.zero_le _) ?_; intro v4 w4 ho4 hg4 hv4; obtain ⟨A4, n4, k4, e4⟩ := own_slice ho4; subst e4; have hb4 := HL3.out.boxed HBA.out hg4 HL3.out.ne.2.1; have a42 : w4.cell? ⟨X, 2, none⟩ = some av := box_cell hb4 2; have f42 := box_free hb4 2; have HPA := hide (HL3.out.pushAd HBA.out ⟨o, p⟩ ho4 hg4 hv4); clear ho4 hg4 hv4 hb4)
    all_goals
      obtain ⟨hl5, hc5⟩ := HPA.out
      obtain ⟨w5, hw5⟩ : ∃ w5, w5 = w4.setCell ⟨X, 2, none⟩ (.slice A4 n4 k4) := ⟨_, rfl⟩
      rw [← hw5] at hl5 hc5 ⊢
      have HF5 := hide (ixFin HBW.out HC3.out hl5 hc5)
      have HDU := hide (due_any X mv _ _ _ p w5 hl5 HOKA.out HP4.out HM.out)
      have HW5 := hide hw5
      clear hl5 hc5 hw5 a42 f42 HPA a2 a0 a1 a22 HBA
      rw [show decide (Ix.due ⟨s.every, s.marks, s.adds ++ [⟨o, p⟩], tm⟩ p) = decide (Ix.due s p) from rfl, ← HBD.out] at HDU
    all_goals
      go_upto_region 7 with (first
        | (go_at_call 170; refine HDU.out.mono ?_; rintro e w6 ⟨rfl, q, rfl⟩)
        | fail)
      obtain ⟨w6, hw6⟩ : ∃ w6, w6 = w5.drewN q := ⟨_, rfl⟩
      have hf6 := ixDrew HF5.out q
      rw [← hw6] at hf6 ⊢
      have HF6 := hide hf6
      have m1 : w6.cell? ⟨X, 1, none⟩ = some mv := box_cell hf6.1.box 1
      have m3 : w6.cell? ⟨X, 3, none⟩ = some (.int .i64 tm) := box_cell hf6.1.box 3
      have HBM : Hid (Below w6.heap.size w6 (w6.drew.alloc (.cells #[.int .i64 o, .int .i64 tm, .int .i64 p] 187))) := hide (balloc (Below.refl w6.heap.size w6).drew _)
      have m11 : (w6.alloc (.cells #[.int .i64 o, .int .i64 tm, .int .i64 p] 187)).cell? ⟨X, 1, none⟩ = some mv := ((balloc (Below.refl w6.heap.size w6) _).cell (p := ⟨X, 1, none⟩) (World.block_lt_of_cell? _ _ m1)).trans m1
      clear hf6 hw6 HDU HF5 HW5
      all_goals
      go_region_law (refine step_appR (by rfl) 165 187 3 24 _ (by kernel_rfl) mk_info (by rfl) (by omega) (.tmp 65) (.tmp 73) (by rfl) 0 mv _ _ (by rfl) (ownsRow_same HF6.out.1.marks fun g hg => HBM.out.block g (HF6.out.1.marks.lt g hg).2) ⟨w6.heap.size, 0, none⟩ 1 1 (mkCells ⟨o, tm, p⟩) (by rfl) (by rfl) (news3 (w := w6.drew)) (by intro u hu; simp [mkCells] at hu; rcases hu with rfl | rfl | rfl <;> rfl) (by have := HM.out; simp [maxLen]; omega) (by have := HM.out; simp; omega) (Nat.zero_le _) ?_; intro v7 w7 ho7 hg7 hv7; obtain ⟨A7, n7, k7, e7⟩ := own_slice ho7; subst e7; have hb7 := HF6.out.1.boxed HBM.out hg7 HF6.out.1.ne.1; have a71 : w7.cell? ⟨X, 1, none⟩ = some mv := box_cell hb7 1; have f71 := box_free hb7 1; have HPM := hide (HF6.out.1.pushMk HBM.out ⟨o, tm, p⟩ ho7 hg7 hv7); clear ho7 hg7 hv7 hb7)
    all_goals
      go_wp2_with fail
      go_ret
      have hd : Ix.due s p := of_decide_eq_true HBD.out.symm
      obtain ⟨hl, hc⟩ := HPM.out
      have h6 := HF6.out.2
      have e : Ix.put s o t p = ⟨s.every, s.marks ++ [⟨o, tm, p⟩], s.adds ++ [⟨o, p⟩], tm⟩ := by rw [Ix.put, if_pos hd, ← HTM.out]
      rw [e]
      exact ⟨rfl, ⟨_, _, hl.mono (up_up h6.size hc.size)⟩, h6.up hc⟩
  | false =>
    go_enter Tryz.func132, Tryz.ntmps132
    go_upto_region 2 with fail
    rw [← HW.out]
    go_upto_region 4 with (first
      | (go_at_call 166; refine (HO.out _).mono ?_; rintro e w2 ⟨rfl, e⟩; subst e)
      | (go_at_call 167; refine (HT.out _).mono ?_; rintro e w2 ⟨rfl, e⟩; subst e)
      | (go_at_call 168; refine (HP.out _).mono ?_; rintro e w2 ⟨rfl, e⟩; subst e)
      | (go_at_call 169; refine HI.out.mono ?_; rintro e w2 ⟨rfl, hb2⟩; have HB2 := hide hb2; clear hb2)
      | fail)
    have HBW : Hid (Below w.heap.size w w2) := hide (HB.out.trans (HB2.out.mono (Nat.le_of_lt HWZ.out)))
    have HL2 : Hid (IxL w2 X mv av s S) := hide (HL.out.same fun k _ hk => HBW.out.block k hk)
    have c0 : w2.cell? ⟨w.heap.size, 0, none⟩ = some (.int .i64 o) := (HB2.out.cell (p := ⟨w.heap.size, 0, none⟩) HWZ.out).trans b0
    have c1 : w2.cell? ⟨w.heap.size, 1, none⟩ = some (.int .i64 p) := (HB2.out.cell (p := ⟨w.heap.size, 1, none⟩) HWZ.out).trans b1
    have c3 : w2.cell? ⟨X, 3, none⟩ = some (.int .i64 s.time) := box_cell HL2.out.box 3
    have f3 := box_free HL2.out.box 3
    clear b0 b1
    go_upto_region 5 with fail
    obtain ⟨tm, htm⟩ : ∃ tm, tm = if s.time < t then t else s.time := ⟨_, rfl⟩
    rw [← htm] at HOKA
    have HTM : Hid (tm = max s.time t) := hide (by rw [htm]; split <;> omega)
    obtain ⟨w3, hw3⟩ : ∃ w3, w3 = w2.setCell ⟨X, 3, none⟩ (.int .i64 tm) := ⟨_, rfl⟩
    obtain ⟨hl3, hc3⟩ := HL2.out.setTime tm
    rw [← hw3] at hl3 hc3
    rw [← htm, ← hw3]
    have HL3 := hide hl3
    have HC3 := hide hc3
    have HZ3 : Hid (w3.heap.size = w2.heap.size) := hide (by rw [hw3]; simp)
    have n0 : w.heap.size ≠ X := Nat.ne_of_gt HX.out
    have a2 : w3.cell? ⟨X, 2, none⟩ = some av := box_cell hl3.box 2
    have a0 : w3.cell? ⟨w.heap.size, 0, none⟩ = some (.int .i64 o) := by rw [hw3]; exact (Chg.setCell (S := fun k => k = X) w2 X 3 _ rfl).cell c0 n0
    have a1 : w3.cell? ⟨w.heap.size, 1, none⟩ = some (.int .i64 p) := by rw [hw3]; exact (Chg.setCell (S := fun k => k = X) w2 X 3 _ rfl).cell c1 n0
    clear c0 c1 c3 f3 htm hw3 hl3 hc3
    have HBA : Hid (Below w3.heap.size w3 (w3.drew.alloc (.cells #[.int .i64 o, .int .i64 p] 218))) := hide (balloc (Below.refl w3.heap.size w3).drew _)
    have a22 : (w3.alloc (.cells #[.int .i64 o, .int .i64 p] 218)).cell? ⟨X, 2, none⟩ = some av := ((balloc (Below.refl w3.heap.size w3) _).cell (p := ⟨X, 2, none⟩) (World.block_lt_of_cell? _ _ a2)).trans a2
    go_region_law (refine step_appR (by rfl) 166 218 2 16 _ (by kernel_rfl) ad_info (by rfl) (by omega) (.tmp 52) (.tmp 54) (by rfl) 0 av _ _ (by rfl) (ownsRow_same HL3.out.adds fun g hg => HBA.out.block g (HL3.out.adds.lt g hg).2) ⟨w3.heap.size, 0, none⟩ 1 1 (adCells ⟨o, p⟩) (by rfl) (by rfl) (news2 (w := w3.drew)) (by intro u hu; simp [adCells] at hu; rcases hu with rfl | rfl <;> rfl) (by have := HN.out; simp [maxLen]; omega) (by have := HN.out; simp; omega) (Nat.zero_le _) ?_; intro v4 w4 ho4 hg4 hv4; obtain ⟨A4, n4, k4, e4⟩ := own_slice ho4; subst e4; have hb4 := HL3.out.boxed HBA.out hg4 HL3.out.ne.2.1; have a42 : w4.cell? ⟨X, 2, none⟩ = some av := box_cell hb4 2; have f42 := box_free hb4 2; have HPA := hide (HL3.out.pushAd HBA.out ⟨o, p⟩ ho4 hg4 hv4); clear ho4 hg4 hv4 hb4)
    all_goals
      obtain ⟨hl5, hc5⟩ := HPA.out
      obtain ⟨w5, hw5⟩ : ∃ w5, w5 = w4.setCell ⟨X, 2, none⟩ (.slice A4 n4 k4) := ⟨_, rfl⟩
      rw [← hw5] at hl5 hc5 ⊢
      have HF5 := hide (ixFin HBW.out HC3.out hl5 hc5)
      have HDU := hide (due_any X mv _ _ _ p w5 hl5 HOKA.out HP4.out HM.out)
      have HW5 := hide hw5
      clear hl5 hc5 hw5 a42 f42 HPA a2 a0 a1 a22 HBA
      rw [show decide (Ix.due ⟨s.every, s.marks, s.adds ++ [⟨o, p⟩], tm⟩ p) = decide (Ix.due s p) from rfl, ← HBD.out] at HDU
    all_goals
      go_wp2_with (first
        | (go_at_call 170; refine HDU.out.mono ?_; rintro e w6 ⟨rfl, q, rfl⟩)
        | fail)
      go_ret
      have hd : ¬ Ix.due s p := of_decide_eq_false HBD.out.symm
      obtain ⟨hl, hc⟩ := ixDrew HF5.out q
      have e : Ix.put s o t p = ⟨s.every, s.marks, s.adds ++ [⟨o, p⟩], tm⟩ := by rw [Ix.put, if_neg hd, ← HTM.out]
      rw [e]
      exact ⟨rfl, ⟨mv, _, hl⟩, hc⟩
/-- Add. -/
theorem ixAdd_any (X : Nat) (s : Ix.St) (S : Nat → Prop) (p4 : Nat → Addr) (o t p z : Int) (w : World) (h : IxAt w X s S) (hok : Ix.Ok s) (hn : s.adds.length ≤ 1000000) (hm : s.marks.length ≤ 1000000) (hs : w.cell? ⟨3, 0, none⟩ = some (errV (p4 4))) :
    Calls Tryz.prog 132 #[.pointer (some ⟨X, 0, none⟩), .int .i64 o, .int .i64 t, .int .i64 p, .int .i64 z] w fun r w' => r = .returned (errR p4 (Ix.add s o t p z).1) ∧ IxAt w' X (Ix.add s o t p z).2 (Up S w w') ∧ Chg S w w' := by
  obtain ⟨mv, av, h⟩ := h
  by_cases hg : Ix.good s o t p z
  · rw [add_good hg]
    exact ixGood_any X mv av s S o t p z w h hok hn hm hg
  · rw [add_bad hg]
    refine (ixBad_any X mv av s S (p4 4) o t p z w h hn hs hg).mono ?_
    rintro e w' ⟨rfl, hb⟩
    exact ⟨rfl, ⟨mv, av, (h.same fun k _ hk => hb.block k hk).mono up_self⟩, Chg.of_below hb⟩
end Go.Proofs.YtcmgppacipdnaaaGreatDoor

namespace Go.Proofs.YtcmgppacipdnaaaGreatDoor
open Go.RowKit

section
variable {P : Program} {w : World} {ops : Array Oper} {rest : List Oper} {o : Oper} {a : Act} {Q : Exit → Act → World → Prop}
theorem wpList_appG (hgd : o.guard = none) (t e : TypeId) (size bytes : Nat) (z : Value) (hu : P.underlying t = some (.slice e)) (hin : (P.info? e).map (fun i => (i.zero, i.size, i.bytes)) = some (some z, size, bytes)) (hzs : z.cells.size = size) (hsz : 0 < size)
    (s x : Operand) (ho : o.op = .call { callee := .builtin .append, args := #[s, x], argTypes := #[t, t] })
    (base : Nat) (v : Value) (n : Nat) (xs : List Value) (hs : a.eval s = v) (hown : w.ownsRow base e size v n xs) (A : Addr) (m c : Nat) (news : List Value) (hx : a.eval x = .slice (some A) m c) (hl : news.length = m * size)
    (hnews : ∀ j u, news[j]? = some u → w.cell? (A.add j) = some u) (h1 : ∀ u ∈ news, u.oneCell' = true) (h63 : n + m ≤ maxLen) (hby : (n + m) * bytes ≤ 140737488355328) (hbase : base ≤ w.heap.size)
    (h : ∀ v' w', w'.ownsRow base e size v' (n + m) (xs ++ news) → w.grownBy w' v.ownBlock → (v'.ownBlock = v.ownBlock ∨ v'.ownBlock = some w.heap.size) → wpList P ops Q rest (a.put o.dst v') w') : wpList P ops Q (o :: rest) a w := by
  refine wpList_plain hgd fun K hK => ?_
  exact step_appG t e size bytes z hu hin hzs hsz s x ho base v n xs hs hown A m c news hx hl hnews h1 h63 hby hbase fun v' w' h2 h3 h4 => hK _ _ (h v' w' h2 h3 h4)
end
end Go.Proofs.YtcmgppacipdnaaaGreatDoor
