/-
  A disk under a walk, by the set of its own blocks: what others own stays; rows of lists of names.
-/
import Derived.Test.YtnjcngmmgceijaaDoorDkLi
namespace Go.Proofs.YtnjcngmmgceijaaDoor
open Go.RowKit Go.Maps Go.Sort

/-- A disk whose blocks are S's, all of them new since w0. -/
structure SessS (S : Nat → Prop) (w0 : World) (n Bd : Nat) (s : Dk.St) (w : World) : Prop where
  disk : IsDisk w Bd s S
  lo : ∀ k, S k → w0.heap.size ≤ k ∧ k < w.heap.size
  below : Below w0.heap.size w0 w
  small : Dk.Small s n
theorem SessS.safe {S : Nat → Prop} {w0 w : World} {n Bd : Nat} {s : Dk.St} (h : SessS S w0 n Bd s w) {p : Nat → Addr} (hs : SentsD w0 p) : Safe S p :=
  ⟨fun j h1 h2 h3 => by have := hs.size j ⟨h1, h2⟩; have := (h.lo _ h3).1; omega, fun j h1 h2 h3 => by have := (hs.blk j ⟨h1, h2⟩).1; have := (h.lo _ h3).1; omega⟩
theorem SessS.next {S : Nat → Prop} {w0 w w' : World} {n m Bd : Nat} {s s' : Dk.St} (h : SessS S w0 n Bd s w) (hx : Next w Bd S s' w') (hm : Dk.Small s' m) : SessS (Up S w w') w0 m Bd s' w' ∧ Chg S w w' := by
  have h1 := hx.chg.size
  have h2 := h.below.size
  exact ⟨⟨hx.disk, fun k hk => by rcases hk with hk | hk; (have := h.lo k hk; omega); omega, h.below.trans (hx.chg.below h2 fun k hk => (h.lo k hk).1), hm⟩, hx.chg⟩
theorem SessS.grow {S : Nat → Prop} {w0 w w' : World} {n Bd : Nat} {s : Dk.St} (h : SessS S w0 n Bd s w) (hb : Below w.heap.size w w') : SessS S w0 n Bd s w' :=
  ⟨h.disk.below hb, fun k hk => by have := h.lo k hk; have := hb.size; omega, h.below.trans (hb.mono h.below.size), h.small⟩
theorem SessS.mono {S : Nat → Prop} {w0 w : World} {n m Bd : Nat} {s : Dk.St} (h : SessS S w0 n Bd s w) (hm : n ≤ m) : SessS S w0 m Bd s w := ⟨h.disk, h.lo, h.below, h.small.mono hm⟩
/-- A row that is not the disk's grows. -/
theorem SessS.but {S : Nat → Prop} {w0 w w' : World} {n Bd : Nat} {s : Dk.St} {row : Option Nat} (h : SessS S w0 n Bd s w) (hg : w.grownBy w' row) (hr : ∀ k, row = some k → ¬ S k ∧ w0.heap.size ≤ k) : SessS S w0 n Bd s w' :=
  ⟨h.disk.kept fun k hk hlt => hg.block k hlt fun e => (hr k e.symm).1 hk, fun k hk => by have := h.lo k hk; have := hg.size; omega, h.below.grown hg h.below.size fun k hk => (hr k hk).2, h.small⟩

theorem new_sessS (room : Int) (w0 w : World) (hb : Below w0.heap.size w0 w) (h1 : 1 ≤ room) (h2 : room ≤ 4194304) :
    Calls Tryd.prog 9 #[.int .i64 room] w fun e w' => ∃ Bd, e = .returned (.tuple #[.pointer (some ⟨Bd, 0, none⟩), .nilIface]) ∧ SessS (fun k => w.heap.size ≤ k ∧ k < w'.heap.size) w0 0 Bd (Dk.St.new room) w' ∧ Below w.heap.size w w' := by
  refine (new_any room w h1 h2).mono ?_
  rintro e w' ⟨Bd, rfl, -, hd, hb2⟩
  exact ⟨Bd, rfl, ⟨hd, fun k hk => ⟨Nat.le_trans hb.size hk.1, hk.2⟩, hb.trans (hb2.mono hb.size), Dk.Small.new room h1 h2⟩, hb2⟩
theorem SessS.create {S : Nat → Prop} {w0 w : World} {n Bd : Nat} {s : Dk.St} (h : SessS S w0 n Bd s w) (p : Nat → Addr) (hs : SentsD w0 p) (hn : n ≤ 1000) (k : Dk.Nm) (hk : k.length ≤ 1000) (x : Nat) (hx : w.heap.size = x) :
    Calls Tryd.prog 12 #[.pointer (some ⟨Bd, 0, none⟩), encStr k] w fun e w' => e = .returned (errR p (s.create k x).1) ∧ SessS (Up S w w') w0 (n + 1) Bd (s.create k x).2 w' ∧ Chg S w w' := by
  subst hx
  exact (create_any Bd s S p k w (hs.at_ h.below) (h.safe hs) h.disk (h.small.fit hn) (by omega)).mono fun e w' ⟨he, hx⟩ => ⟨he, h.next hx (h.small.create hn k _)⟩
theorem SessS.remove {S : Nat → Prop} {w0 w : World} {n Bd : Nat} {s : Dk.St} (h : SessS S w0 n Bd s w) (p : Nat → Addr) (hs : SentsD w0 p) (hn : n ≤ 1000) (k : Dk.Nm) (hk : k.length ≤ 1000) :
    Calls Tryd.prog 13 #[.pointer (some ⟨Bd, 0, none⟩), encStr k] w fun e w' => e = .returned (errR p (s.remove k).1) ∧ SessS (Up S w w') w0 (n + 1) Bd (s.remove k).2 w' ∧ Chg S w w' :=
  (remove_any Bd s S p k w (hs.at_ h.below) (h.safe hs) h.disk (h.small.fit hn) (by omega)).mono fun e w' ⟨he, hx⟩ => ⟨he, h.next hx (h.small.remove hn k)⟩
theorem SessS.rename {S : Nat → Prop} {w0 w : World} {n Bd : Nat} {s : Dk.St} (h : SessS S w0 n Bd s w) (p : Nat → Addr) (hs : SentsD w0 p) (hn : n ≤ 1000) (k to : Dk.Nm) (hk : k.length ≤ 1000) (ht : to.length ≤ 1000) :
    Calls Tryd.prog 14 #[.pointer (some ⟨Bd, 0, none⟩), encStr k, encStr to] w fun e w' => e = .returned (errR p (s.rename k to).1) ∧ SessS (Up S w w') w0 (n + 1) Bd (s.rename k to).2 w' ∧ Chg S w w' :=
  (rename_any Bd s S p k to w (hs.at_ h.below) (h.safe hs) h.disk (h.small.fit hn) (by omega) (by omega)).mono fun e w' ⟨he, hx⟩ => ⟨he, h.next hx (h.small.rename hn k to)⟩
theorem SessS.list {S : Nat → Prop} {w0 w : World} {n Bd : Nat} {s : Dk.St} (h : SessS S w0 n Bd s w) (hn : n ≤ 1000) :
    Calls Tryd.prog 10 #[.pointer (some ⟨Bd, 0, none⟩)] w fun e w' => ∃ v l, e = .returned v ∧ Dk.Lists s.names l ∧ OwnT w' w.heap.size v l ∧ Below w.heap.size w w' :=
  list_any Bd s S w h.disk (by have := h.small.calls; omega)
theorem SessS.crash {S : Nat → Prop} {w0 w : World} {n Bd : Nat} {s : Dk.St} (h : SessS S w0 n Bd s w) (hn : n ≤ 1000) (A : Option Addr) (c m : Nat) (zs : List Int) (hz : IntsArg w A c zs) (hl : zs.length = m) (hA : ∀ x o, A = some ⟨x, o, none⟩ → zs ≠ [] → ¬ S x ∧ x < w.heap.size) :
    Calls Tryd.prog 15 #[.pointer (some ⟨Bd, 0, none⟩), .slice A m c] w fun e w' => e = .returned (.tuple #[]) ∧ ∃ ys, (Dk.Order (s.settle (Dk.pick zs 0 s.since.length)) (s.settle (Dk.pick zs 0 s.since.length)).dur ys ∧ ∀ k ∈ ys, (s.files k).synced ≤ (s.files k).bytes.length) ∧ SessS (Up S w w') w0 n Bd (s.crash zs ys) w' ∧ Chg S w w' := by
  refine (crash_any Bd s S A c m zs w h.disk (h.small.fit hn) (by have := h.small.calls; omega) hz hl hA).mono fun e w' ⟨he, ys, ⟨ho, hy⟩, hd, hc⟩ => ⟨he, ys, ⟨ho, order_ref h.disk _ ys ho⟩, ?_, hc⟩
  have h1 := hc.size
  have h2 := h.below.size
  exact ⟨hd, fun k hk => by rcases hk with hk | hk; (have := h.lo k hk; omega); omega, h.below.trans (hc.below h2 fun k hk => (h.lo k hk).1), h.small.crash zs ys hy (order_ref h.disk _ ys ho)⟩

/-- A list of texts that lies outside S. -/
structure OutT (S : Nat → Prop) (w : World) (v : Value) (l : List Dk.Nm) : Prop where
  own : OwnT w 0 v l
  out : ∀ g, v.ownBlock = some g → ¬ S g
theorem own_same {w w' : World} {v : Value} {l : List Dk.Nm} (h : OwnT w 0 v l) (hb : ∀ g, v.ownBlock = some g → w'.heap[g]? = w.heap[g]?) : OwnT w' 0 v l := ownsRow_same h hb
theorem OutT.chg {S : Nat → Prop} {w w' : World} {v : Value} {l : List Dk.Nm} (h : OutT S w v l) (hc : Chg S w w') : OutT (Up S w w') w' v l :=
  ⟨own_same h.own fun g hg => hc.block g (h.own.lt g hg).2 (h.out g hg), fun g hg hu => by rcases hu with hu | hu; exact h.out g hg hu; have := (h.own.lt g hg).2; omega⟩
theorem OutT.below {S : Nat → Prop} {w w' : World} {v : Value} {l : List Dk.Nm} (h : OutT S w v l) (hb : Below w.heap.size w w') : OutT S w' v l := ⟨h.own.below hb (Nat.le_refl _), h.out⟩
theorem OutT.new {S : Nat → Prop} {w w' : World} {v : Value} {l : List Dk.Nm} (h : OwnT w' w.heap.size v l) (hS : ∀ k, S k → k < w.heap.size) : OutT S w' v l :=
  ⟨h.mono (Nat.zero_le _), fun g hg hs => by have := (h.lt g hg).1; have := hS g hs; omega⟩

/-- A row of lists of names, outside S. -/
def StRow (B : Nat) (S : Nat → Prop) (w : World) (v : Value) (sts : List (List Dk.Nm)) : Prop :=
  ∃ svs : List Value, w.ownsRow 0 30 1 v svs.length svs ∧ (∀ g, v.ownBlock = some g → ¬ S g ∧ B ≤ g) ∧ svs.length = sts.length ∧ ∀ j, j < svs.length → OutT S w (svs.getD j undef) (sts.getD j [])
theorem StRow.nil (B : Nat) (S : Nat → Prop) (w : World) : StRow B S w (.slice none 0 0) [] := ⟨[], World.ownsRow_nil w 0 _ 1, fun g hg => (by cases hg), rfl, fun j hj => absurd hj (Nat.not_lt_zero _)⟩
theorem StRow.chg {B : Nat} {S : Nat → Prop} {w w' : World} {v : Value} {sts : List (List Dk.Nm)} (h : StRow B S w v sts) (hc : Chg S w w') : StRow B (Up S w w') w' v sts := by
  obtain ⟨svs, h1, h2, h3, h4⟩ := h
  exact ⟨svs, ownsRow_same h1 fun g hg => hc.block g (h1.lt g hg).2 (h2 g hg).1, fun g hg => ⟨fun hu => by rcases hu with hu | hu; exact (h2 g hg).1 hu; have := (h1.lt g hg).2; omega, (h2 g hg).2⟩, h3, fun j hj => (h4 j hj).chg hc⟩
theorem StRow.below {B : Nat} {S : Nat → Prop} {w w' : World} {v : Value} {sts : List (List Dk.Nm)} (h : StRow B S w v sts) (hb : Below w.heap.size w w') : StRow B S w' v sts := by
  obtain ⟨svs, h1, h2, h3, h4⟩ := h
  exact ⟨svs, ownsRow_same h1 fun g hg => hb.block g (h1.lt g hg).2, h2, h3, fun j hj => (h4 j hj).below hb⟩
/-- Its shape, and one of its lists. -/
theorem StRow.get {B : Nat} {S : Nat → Prop} {w : World} {v : Value} {sts : List (List Dk.Nm)} (h : StRow B S w v sts) (hp : 0 < sts.length) : ∃ g cap, v = .slice (some ⟨g, 0, none⟩) sts.length cap ∧ sts.length ≤ cap ∧ cap ≤ 9223372036854775807 ∧ ∀ j, j < sts.length → ∃ A c, w.cell? ⟨g, j, none⟩ = some (.slice A (sts.getD j []).length c) ∧ ReadsT w A (sts.getD j []) := by
  obtain ⟨svs, h1, h2, h3, h4⟩ := h
  rcases h1.2 with ⟨_, h0⟩ | ⟨g, cap, cur, e, _, hh, hn, hm, hs, ht⟩
  · omega
  · refine ⟨g, cap, by rw [e, h3], by omega, by simp only [maxLen] at hm; omega, fun j hj => ?_⟩
    obtain ⟨A, c, e2, hr, -⟩ := (h4 j (by omega)).own.reads
    refine ⟨A, c, ?_, hr⟩
    have hc := h1.cells (g := g) (by rw [e]; rfl) j (svs.getD j undef) (by simp [List.getD, show j < svs.length by omega])
    rw [show (⟨g, 0, none⟩ : Addr).add j = ⟨g, j, none⟩ from by rw [Addr.add_lit]; simp] at hc
    rw [hc, e2]

theorem list_info : (Tryd.prog.info? 30).map (fun i => (i.zero, i.size, i.bytes)) = some (some (.slice none 0 0), 1, 24) := by kernel_rfl
section
variable {w : World} {ops : Array Oper} {rest : List Oper} {o : Oper} {a : Act} {Q : Exit → Act → World → Prop}
/-- append(s, l), s a row of lists. -/
theorem wpList_appS (hgd : o.guard = none) (s x : Operand) (ho : o.op = .call { callee := .builtin .append, args := #[s, x], argTypes := #[29, 29] })
    (B : Nat) (S : Nat → Prop) (v : Value) (sts : List (List Dk.Nm)) (hs : a.eval s = v) (hrow : StRow B S w v sts) (lv : Value) (l : List Dk.Nm) (hl : OutT S w lv l) (A : Addr) (hx : a.eval x = .slice (some A) 1 1) (hc : w.cell? (A.add 0) = some lv)
    (hlen : sts.length ≤ 1000) (hS : ∀ k, S k → k < w.heap.size) (hB : B ≤ w.heap.size)
    (h : ∀ v' w', StRow B S w' v' (sts ++ [l]) → w.grownBy w' v.ownBlock → (∀ k, v.ownBlock = some k → ¬ S k ∧ B ≤ k) → wpList Tryd.prog ops Q rest (a.put o.dst v') w') : wpList Tryd.prog ops Q (o :: rest) a w := by
  obtain ⟨i, hi, hz, hs1, hby⟩ := info_parts list_info
  obtain ⟨svs, h1, h2, h3, h4⟩ := hrow
  obtain ⟨A2, c2, rfl, -⟩ := hl.own.reads
  refine wpList_plain hgd fun K hK => ?_
  obtain ⟨v', w', hrun, r2, r3, _, r5⟩ := run_append_own_at (P := Tryd.prog) w 0 29 o.type 30 i _ 1 24 Tryd.underlying29 hi hz hs1 hby rfl (by omega) v svs.length svs h1 A 1 1 [.slice A2 l.length c2] rfl
    (fun j u hu => by
      match j, hu with
      | 0, hu => simp at hu; subst hu; exact hc) (fun u hu => by simp at hu; subst hu; rfl) (by simp only [maxLen]; omega) (by omega) (Nat.zero_le _)
  have hkeep : ∀ (v2 : Value) (l2 : List Dk.Nm), OutT S w v2 l2 → OutT S w' v2 l2 := fun v2 l2 ho2 => ⟨own_same ho2.own fun g hg => r3.block g (ho2.own.lt g hg).2 fun e => by
    rcases h1.2 with ⟨e1, _⟩ | ⟨g1, cap1, cur1, e1, _, hh1, _⟩
    · rw [e1] at e; cases e
    · rw [e1] at e
      have e3 : g = g1 := by simpa [Value.ownBlock] using e
      rcases ho2.own.2 with ⟨e2, _⟩ | ⟨g2, cap2, cur2, e2, _, hh2, _⟩
      · rw [e2] at hg; cases hg
      · rw [e2] at hg
        have e4 : g2 = g := by simpa [Value.ownBlock] using hg
        rw [e4, e3] at hh2
        exact types_ne hh1 hh2 (by decide) rfl, ho2.out⟩
  have hfin : StRow B S w' v' (sts ++ [l]) := by
    refine ⟨svs ++ [.slice A2 l.length c2], by rw [List.length_append]; exact r2, fun g hg => ?_, by simp [h3], fun j hj => ?_⟩
    · rcases r5 with e | e
      · exact h2 g (by rw [← e]; exact hg)
      · rw [e] at hg
        injection hg with hg
        exact ⟨fun hSg => by have := hS g hSg; omega, by omega⟩
    · rw [List.length_append, List.length_singleton] at hj
      by_cases e : j < svs.length
      · rw [show (svs ++ [Value.slice A2 l.length c2]).getD j undef = svs.getD j undef from by simp [List.getD, List.getElem?_append_left e], show (sts ++ [l]).getD j [] = sts.getD j [] from by simp [List.getD, List.getElem?_append_left (show j < sts.length by omega)]]
        exact hkeep _ _ (h4 j e)
      · obtain rfl : j = svs.length := by omega
        rw [show (svs ++ [Value.slice A2 l.length c2]).getD svs.length undef = .slice A2 l.length c2 from by simp [List.getD], show (sts ++ [l]).getD svs.length [] = l from by simp [List.getD, h3]]
        exact hkeep _ _ hl
  unfold Oper.wp execOp
  simp only [ho, resolve, invoke, builtin, Sem.run_bind, Sem.run_pure, Result.andThen_ok, List.map_toArray, List.map_cons, List.map_nil, hs, hx, hrun]
  exact hK _ _ (h v' w' hfin r3 h2)
end
end Go.Proofs.YtnjcngmmgceijaaDoor
