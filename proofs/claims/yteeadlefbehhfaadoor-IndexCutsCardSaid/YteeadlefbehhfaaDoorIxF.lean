/-
  Package index: Marks (a copy of the marks), When.
-/
import Derived.Test.YteeadlefbehhfaaDoorIxE
namespace Go.Proofs.YteeadlefbehhfaaDoor
open Go.RowKit

section
variable {P : Program} {w : World} {ops : Array Oper} {rest : List Oper} {o : Oper} {a : Act} {Q : Exit → Act → World → Prop}
theorem wpList_appG (hgd : o.guard = none) (t e : TypeId) (size bytes : Nat) (z : Value) (hu : P.underlying t = some (.slice e)) (hin : (P.info? e).map (fun i => (i.zero, i.size, i.bytes)) = some (some z, size, bytes)) (hzs : z.cells.size = size) (hsz : 0 < size)
    (s x : Operand) (ho : o.op = .call { callee := .builtin .append, args := #[s, x], argTypes := #[t, t] })
    (base : Nat) (v : Value) (n : Nat) (xs : List Value) (hs : a.eval s = v) (hown : w.ownsRow base e size v n xs) (A : Addr) (m c : Nat) (news : List Value) (hx : a.eval x = .slice (some A) m c) (hl : news.length = m * size)
    (hnews : ∀ j u, news[j]? = some u → w.cell? (A.add j) = some u) (h1 : ∀ u ∈ news, u.oneCell' = true) (h63 : n + m ≤ maxLen) (hby : (n + m) * bytes ≤ 140737488355328) (hbase : base ≤ w.heap.size)
    (h : ∀ v' w', w'.ownsRow base e size v' (n + m) (xs ++ news) → w.grownBy w' v.ownBlock → (v'.ownBlock = v.ownBlock ∨ v'.ownBlock = some w.heap.size) → wpList P ops Q rest (a.put o.dst v') w') : wpList P ops Q (o :: rest) a w := by
  refine wpList_plain hgd fun K hK => ?_
  exact step_appG t e size bytes z hu hin hzs hsz s x ho base v n xs hs hown A m c news hx hl hnews h1 h63 hby hbase fun v' w' h2 h3 h4 => hK _ _ (h v' w' h2 h3 h4)
end
theorem run_eql_marks_nil (A : Option Addr) (n c : Nat) (w : World) : (binOp .eql 36 (.slice A n c) (.slice none 0 0)).run Tryd.prog w = .ok (.bool A.isNone) w := by
  have ht : Tryd.prog.underlying 36 = some (.slice 52) := by kernel_rfl
  have h : ∀ d : Nat, (Op.equalIn (d + 1) 36 (.slice A n c) (.slice none 0 0)).run Tryd.prog w = .ok A.isNone w := fun d => by cases A <;> simp [Op.equalIn, run_underlying ht]
  simp only [binOp]
  simp [Op.equal, Op.maxDepth, h 9999]
theorem mk_one (l : List Ix.Mark) : ∀ u ∈ l.flatMap mkCells, u.oneCell' = true := by
  intro u hu
  obtain ⟨m, _, hu⟩ := List.mem_flatMap.1 hu
  simp [mkCells] at hu
  rcases hu with rfl | rfl | rfl <;> rfl

set_option maxRecDepth 100000 in
theorem mclone_any (mv : Value) (l : List Ix.Mark) (w : World) (hn : l.length ≤ 1000000) (ho : w.ownsRow 0 52 3 mv l.length (l.flatMap mkCells)) :
    Calls Tryd.prog 49 #[mv] w fun e w' => ∃ v, e = .returned v ∧ w'.ownsRow w.heap.size 52 3 v l.length (l.flatMap mkCells) ∧ Below w.heap.size w w' := by
  obtain ⟨A, n, c, rfl⟩ := own_slice ho
  have ks := fun W => run_eql_marks_nil A n c W
  have hno : World.ownsRow (w.alloc (.cells #[] 52)) w.heap.size 52 3 (.slice (some ⟨w.heap.size, 0, none⟩) 0 0) 0 [] := World.ownsRow_made w #[] 0 (Nat.le_refl _) (Nat.zero_le _) rfl
  cases A with
  | none =>
    have h0 : l.length = 0 ∧ n = 0 ∧ c = 0 := by
      rcases ho.2 with ⟨e, h⟩ | ⟨g, cap, cur, e, _⟩
      · injection e with _ e1 e2; exact ⟨h, e1, e2⟩
      · cases e
    obtain ⟨h0, rfl, rfl⟩ := h0
    obtain rfl := List.eq_nil_of_length_eq_zero h0
    clear ho hn hno
    go_enter Tryd.func49, Tryd.ntmps49
    go_wp2_with fail
    go_ret
    exact ⟨_, rfl, World.ownsRow_nil _ _ _ _, Below.refl _ _⟩
  | some a =>
    obtain ⟨g, rfl, rfl⟩ : ∃ g, a = ⟨g, 0, none⟩ ∧ n = l.length := by
      rcases ho.2 with ⟨e, h⟩ | ⟨g, cap, cur, e, _⟩
      · cases e
      · injection e with e1 e2 e3; injection e1 with e1; exact ⟨g, e1, e2⟩
    have HC := hide (fun j u h => ((balloc (Below.refl w.heap.size w) (.cells #[] 52)).cell (p := (⟨g, 0, none⟩ : Addr).add j) (World.block_lt_of_cell? w _ (ho.cells (g := g) rfl j u h))).trans (ho.cells (g := g) rfl j u h))
    have HO := hide hno
    have HN := hide hn
    clear ho hn hno
    go_enter Tryd.func49, Tryd.ntmps49
    go_wp2_with (at_builtin; refine wpList_appG (w := w.alloc _) rfl 36 52 3 24 _ (by kernel_rfl) mk_info rfl (by omega) (.tmp 5) (.tmp 6) rfl w.heap.size _ 0 [] rfl HO.out ⟨g, 0, none⟩ l.length c (l.flatMap mkCells) rfl (mk_len l) HC.out (mk_one l) (by have := HN.out; simp [maxLen]; omega) (by have := HN.out; omega) (by simp) ?_; intro v w3 hown3 hg3 hv3)
    have hb : Below w.heap.size w w3 := (balloc (Below.refl _ _) _).grown hg3 (by simp) (fun g hg => (HO.out.lt g hg).1)
    rw [List.nil_append, Nat.zero_add] at hown3
    go_ret
    exact ⟨v, rfl, hown3, hb⟩

set_option maxRecDepth 100000 in
theorem marks_any (X : Nat) (s : Ix.St) (S : Nat → Prop) (w : World) (hn : s.marks.length ≤ 1000000) (h : IxAt w X s S) :
    Calls Tryd.prog 14 #[.pointer (some ⟨X, 0, none⟩)] w fun e w' => ∃ v, e = .returned v ∧ w'.ownsRow w.heap.size 52 3 v s.marks.length (s.marks.flatMap mkCells) ∧ Below w.heap.size w w' := by
  obtain ⟨mv, av, h⟩ := h
  have c1 : w.cell? ⟨X, 1, none⟩ = some mv := box_cell h.box 1
  have HM := hide (mclone_any mv s.marks w hn h.marks)
  clear h hn
  go_enter Tryd.func14, Tryd.ntmps14
  go_wp2_with (first
    | (go_at_call 49; refine HM.out.mono ?_; rintro e w2 ⟨v, rfl, ho2, hb2⟩; have HO2 := hide ho2; have HB2 := hide hb2; clear ho2 hb2)
    | fail)
  go_ret
  exact ⟨v, rfl, HO2.out, HB2.out⟩
end Go.Proofs.YteeadlefbehhfaaDoor
