/-
  Bytes in memory of the call's own: made, copied into, appended to, written; and read again. Words and laws for the walks, over the kit's laws on rows.
-/
import Derived.Test.YtoaioijgmbhhnaaDoorRows
import Derived.Test.YtoaioijgmbhhnaaDoorWords
import Derived.Maps.AppendAt
import Derived.Laws.CopyOwn
import Derived.OwnWalk
import Derived.RegionTactic
namespace Go.Proofs.YtoaioijgmbhhnaaDoor
open Go.RowKit

def byteV (x : UInt8) : Value := .int .u8 (B x)
def cells (l : List UInt8) : List Value := l.map byteV
theorem cells_len (l : List UInt8) : (cells l).length = l.length := by simp [cells]
theorem cells_one (l : List UInt8) : ∀ u ∈ cells l, u.oneCell' = true := by
  intro u hu
  obtain ⟨x, _, rfl⟩ := List.mem_map.1 hu
  rfl
theorem cells_inj {l m : List UInt8} (h : cells l = cells m) : l = m := by
  refine (List.map_inj_right (f := byteV) ?_).1 h
  intro x y e
  unfold byteV at e
  injection e with _ e
  exact B_inj e
theorem byte_info : (Tryd.prog.info? 5).map (fun i => (i.zero, i.size, i.bytes)) = some (some (.int .u8 0), 1, 1) := by kernel_rfl
theorem byte_size : (Tryd.prog.info? 5).map (·.size) = some 1 := by kernel_rfl

/-- A slice value that the call owns: its bytes. -/
def Own (w : World) (base : Nat) (v : Value) (l : List UInt8) : Prop := w.ownsRow base 5 1 v l.length (cells l)

theorem Own.nil (w : World) (base : Nat) : Own w base (.slice none 0 0) [] := World.ownsRow_nil w base _ 1
theorem Own.alloc {w : World} {base : Nat} {v : Value} {l : List UInt8} (h : Own w base v l) (o : Obj) : Own (w.alloc o) base v l := World.ownsRow.alloc h o
theorem Own.drewN {w : World} {base : Nat} {v : Value} {l : List UInt8} (h : Own w base v l) (n : Nat) : Own (w.drewN n) base v l := h
theorem Own.lt {w : World} {base : Nat} {v : Value} {l : List UInt8} (h : Own w base v l) : ∀ k, v.ownBlock = some k → base ≤ k ∧ k < w.heap.size := World.ownsRow.lt h
/-- It stays where all below a block beyond it stays. -/
theorem Own.below {w w' : World} {base C : Nat} {v : Value} {l : List UInt8} (h : Own w base v l) (hb : Below C w w') (hC : w.heap.size ≤ C) : Own w' base v l := by
  obtain ⟨h1, h2⟩ := h
  refine ⟨h1, ?_⟩
  rcases h2 with h2 | ⟨g, cap, cur, hv, hg, hh, r⟩
  · exact .inl h2
  · have hlt : g < w.heap.size := by
      rcases Nat.lt_or_ge g w.heap.size with h | h
      · exact h
      · rw [Array.getElem?_eq_none h] at hh; cases hh
    exact .inr ⟨g, cap, cur, hv, hg, (hb.block g (by omega)).trans hh, r⟩
theorem Own.mono {w : World} {base base' : Nat} {v : Value} {l : List UInt8} (h : Own w base v l) (hb : base' ≤ base) : Own w base' v l := by
  obtain ⟨h1, h2⟩ := h
  refine ⟨h1, ?_⟩
  rcases h2 with h2 | ⟨g, cap, cur, hv, hg, r⟩
  · exact .inl h2
  · exact .inr ⟨g, cap, cur, hv, by omega, r⟩
/-- What is owned is a slice that reads as its bytes. -/
theorem Own.reads {w : World} {base : Nat} {v : Value} {l : List UInt8} (h : Own w base v l) : ∃ A c, v = .slice A l.length c ∧ Reads w A l ∧ (A = none → l = [] ∧ c = 0) := by
  obtain ⟨_, h2⟩ := h
  rcases h2 with ⟨rfl, h0⟩ | ⟨g, cap, cur, rfl, hg, hh, hn, hm, hs, ht⟩
  · obtain rfl := List.eq_nil_of_length_eq_zero h0
    exact ⟨none, 0, rfl, .inl rfl, fun _ => ⟨rfl, rfl⟩⟩
  · refine ⟨_, _, rfl, .inr ⟨g, 0, rfl, ?_, fun k hk => ?_⟩, fun e => by cases e⟩
    · rcases Nat.lt_or_ge g w.heap.size with h | h
      · exact h
      · rw [Array.getElem?_eq_none h] at hh; cases hh
    · have e : cur.toList[k]? = some (byteV l[k]) := by
        have e2 : (cur.toList.take (l.length * 1))[k]? = some (byteV l[k]) := by rw [ht]; simp [cells, hk]
        rw [List.getElem?_take] at e2
        rwa [if_pos (by omega)] at e2
      have e3 : cur[k]? = some (byteV l[k]) := by simpa using e
      simp only [World.cell?, hh, Nat.zero_add]
      rw [e3]
      simp [byteV, List.getD, hk]

theorem Reads.below {w w' : World} {C : Nat} {A : Option Addr} {l : List UInt8} (h : Reads w A l) (hb : Below C w w') (hC : w.heap.size ≤ C) : Reads w' A l := by
  rcases h with h | ⟨b, off, e, hlt, hc⟩
  · exact .inl h
  · exact .inr ⟨b, off, e, by have := hb.size; omega, fun k hk => (hb.cell (p := ⟨b, off + k, none⟩) (by show b < C; omega)).trans (hc k hk)⟩
/-- The new cells of a slice that reads as bytes. -/
theorem Reads.news {w : World} {ad : Addr} {l : List UInt8} (h : Reads w (some ad) l) : ∀ j u, (cells l)[j]? = some u → w.cell? (ad.add j) = some u := by
  intro j u hu
  rcases h with rfl | ⟨b, off, e, hb, hc⟩
  · simp [cells] at hu
  · obtain rfl := Option.some.inj e
    have hj : j < l.length := by
      have := (List.getElem?_eq_some_iff.1 hu).1
      rwa [cells_len] at this
    rw [show (⟨b, off, none⟩ : Addr).add j = ⟨b, off + j, none⟩ from by rw [Addr.add_lit]]
    rw [hc j hj]
    simpa [cells, hj, byteV, List.getD] using hu

/-- A new block whose cells are bytes reads as them. -/
theorem Reads.made (w : World) (l : List UInt8) (cs : Array Value) (e : TypeId) (fr : Nat × Nat) (g : Nat) (hg : g = w.heap.size) (hc : (cells l).toArray = cs) : Reads (w.alloc (.cells cs e fr)) (some ⟨g, 0, none⟩) l := by
  subst hg hc
  exact Reads.new w l e fr
section
variable {w : World} {ops : Array Oper} {rest : List Oper} {o : Oper} {a : Act} {Q : Exit → Act → World → Prop}

/-- append(s, x...), s the call's own, x whatever reads as bytes. -/
theorem wpList_app (hgd : o.guard = none) (s x : Operand) (ho : o.op = .call { callee := .builtin .append, args := #[s, x], argTypes := #[30, 30] })
    (base : Nat) (v : Value) (l m : List UInt8) (hs : a.eval s = v) (hown : Own w base v l) (A : Option Addr) (n c : Nat) (hx : a.eval x = .slice A n c) (hn : m.length = n) (hr : Reads w A m)
    (hlen : l.length + n ≤ 1073741824) (hbase : base ≤ w.heap.size)
    (h : ∀ v' w', Own w' base v' (l ++ m) → w.grownBy w' v.ownBlock → (v'.ownBlock = v.ownBlock ∨ v'.ownBlock = some w.heap.size) → wpList Tryd.prog ops Q rest (a.put o.dst v') w') : wpList Tryd.prog ops Q (o :: rest) a w := by
  subst hn
  obtain ⟨i, hi, hz, hs1, hby⟩ := info_parts byte_info
  refine wpList_plain hgd fun K hK => ?_
  have key : ∃ v' w', (Builtin.append_ #[30, 30] o.type #[v, .slice A m.length c]).run Tryd.prog w = .ok v' w' ∧ Own w' base v' (l ++ m) ∧ w.grownBy w' v.ownBlock ∧ (v'.ownBlock = v.ownBlock ∨ v'.ownBlock = some w.heap.size) := by
    cases A with
    | none =>
      have h0 : m = [] := by
        rcases hr with h | ⟨_, _, h, _⟩
        · exact h
        · cases h
      subst h0
      refine ⟨v, w, ?_, by simpa using hown, World.grownBy.refl w _, .inl rfl⟩
      have u := Tryd.underlying30
      rcases hown.2 with ⟨rfl, _⟩ | ⟨g, cap, cur, rfl, _, _, hnc, _⟩
      · simp [Builtin.append_, run_underlying u, sizeOf, typeInfo, hi, Builtin.lenOf, Builtin.firstCells]
      · simp [Builtin.append_, run_underlying u, sizeOf, typeInfo, hi, Builtin.lenOf, Builtin.firstCells, hnc, storeCells]
    | some ad =>
      obtain ⟨v', w', hrun, h2, h3, _, h5⟩ := run_append_own_at (P := Tryd.prog) w base 30 o.type 5 i _ 1 1 Tryd.underlying30 hi hz hs1 hby rfl (by omega) v l.length (cells l) hown ad m.length c (cells m) (by rw [cells_len]; omega) hr.news (cells_one m)
        (by simp only [maxLen]; omega) (by omega) hbase
      refine ⟨v', w', hrun, ?_, h3, h5⟩
      unfold Own
      rw [List.length_append, show cells (l ++ m) = cells l ++ cells m from by simp [cells]]
      exact h2
  obtain ⟨v', w', hrun, h2, h3, h4⟩ := key
  unfold Oper.wp execOp
  simp only [ho, resolve, invoke, builtin, Sem.run_bind, Sem.run_pure, Result.andThen_ok, List.map_toArray, List.map_cons, List.map_nil, hs, hx, hrun]
  exact hK _ _ (h v' w' h2 h3 h4)

/-- make([]byte, n, c). -/
theorem wpList_mk (hgd : o.guard = none) (s x : Operand) (ho : o.op = Op.makeSlice 30 s x) (n c : Nat) (N C : Int) (hs : a.eval s = .int .i64 N) (hx : a.eval x = .int .i64 C) (hN : N = n) (hC : C = c) (hnc : n ≤ c) (hc : c ≤ 1073741824)
    (h : ∀ w', Own w' w.heap.size (.slice (some ⟨w.heap.size, 0, none⟩) n c) (List.replicate n 0) → Below w.heap.size w w' → w'.heap.size = w.heap.size + 1 → wpList Tryd.prog ops Q rest (a.put o.dst (.slice (some ⟨w.heap.size, 0, none⟩) n c)) w') : wpList Tryd.prog ops Q (o :: rest) a w := by
  obtain ⟨i, hi, hz, hs1, hby⟩ := info_parts byte_info
  refine wpList_plain hgd fun K hK => ?_
  have hrun := run_make (P := Tryd.prog) w 30 5 i _ Tryd.underlying30 hi hz .i64 .i64 n c (by omega) (by omega) (by rw [hby]; omega) (by omega)
  unfold Oper.wp execOp
  subst hN hC
  simp only [ho, Sem.run_bind, Sem.run_pure, Result.andThen_ok, hs, hx, hrun, Int.toNat_natCast]
  refine hK _ _ (h _ ?_ ((Below.refl _ _).alloc (Nat.le_refl _) _) (by simp))
  refine ⟨by simp [cells_len], .inr ⟨w.heap.size, c, _, by simp, Nat.le_refl _, heap_alloc_new _ _, by simpa using hnc, by simp only [maxLen]; omega, by simp [size_madeCells, hs1], ?_⟩⟩
  apply List.ext_getElem
  · simp [madeCells, cells, hs1]; omega
  · intro j h1 h2
    simp [madeCells, cells, hs1, Value.cells, byteV, B, Nat.mod_one]

/-- copy(d, s), d the call's own, s whatever reads as bytes. -/
theorem wpList_cp (hgd : o.guard = none) (d s : Operand) (ho : o.op = .call { callee := .builtin .copy, args := #[d, s], argTypes := #[30, 30] })
    (base : Nat) (l m : List UInt8) (D : Option Addr) (dn dc : Nat) (hd : a.eval d = .slice D dn dc) (hown : Own w base (.slice D dn dc) l) (A : Option Addr) (n c : Nat) (hx : a.eval s = .slice A n c) (hn : m.length = n) (hr : Reads w A m)
    (h : ∀ w', Own w' base (.slice D dn dc) (m.take l.length ++ l.drop m.length) → w.grownBy w' (Value.slice D dn dc).ownBlock → w'.heap.size = w.heap.size → wpList Tryd.prog ops Q rest (a.put o.dst (goInt (Nat.min m.length l.length))) w') : wpList Tryd.prog ops Q (o :: rest) a w := by
  subst hn
  have hdn : dn = l.length := by
    rcases hown.2 with ⟨e, h0⟩ | ⟨_, _, _, e, _⟩
    · injection e with _ e _; omega
    · injection e
  subst hdn
  by_cases h0 : Nat.min m.length l.length = 0
  · refine wpList_copy_nothing hgd d s _ _ ho _ Tryd.underlying30 byte_size D A _ dc _ c hd hx h0 ?_
    have e : m.take l.length ++ l.drop m.length = l := by
      rcases Nat.min_eq_zero_iff.1 h0 with e | e
      · obtain rfl := List.eq_nil_of_length_eq_zero e; simp
      · obtain rfl := List.eq_nil_of_length_eq_zero e; simp
    rw [h0] at h
    exact h w (by rw [e]; exact hown) (World.grownBy.refl _ _) rfl
  · have hpos : 0 < m.length ∧ 0 < l.length := by
      have := Nat.min_eq_zero_iff (m := m.length) (n := l.length)
      have h1 : ¬ (m.length = 0 ∨ l.length = 0) := fun h => h0 (this.2 h)
      omega
    rcases hown.2 with ⟨_, e⟩ | ⟨g, cap, cur, hv, hg, hh, hn, hm, hs, ht⟩
    · omega
    injection hv with hD _ hcap
    subst hD hcap
    cases A with
    | none =>
      rcases hr with h | ⟨_, _, h, _⟩
      · subst h; simp at hpos
      · cases h
    | some ad =>
    have hmin : (cells (m.take l.length)).length = Nat.min m.length l.length := by rw [cells_len, List.length_take, Nat.min_comm]
    have hle : Nat.min m.length l.length ≤ l.length := Nat.min_le_right _ _
    have hnews := hr.news
    have hmm : Nat.min m.length l.length = min m.length l.length := rfl
    refine wpList_copy_own hgd d s _ _ ho _ Tryd.underlying30 byte_size g 0 l.length dc ad m.length c hd hx cur _ hh (cells (m.take l.length)) hmin ?_ (by rw [hmin, Nat.zero_add]; omega) (cells_one _) ?_
    · intro j u hu
      have hj : j < (cells (m.take l.length)).length := (List.getElem?_eq_some_iff.1 hu).1
      apply hnews j u
      rw [← hu]
      simp only [cells, List.map_take]
      rw [List.getElem?_take, if_pos (by rw [hmin] at hj; omega)]
    · rw [hmin]
      refine h _ ?_ ⟨rfl, rfl, rfl, by simp [World.setRow], fun k hk hne => setRow_other w g k _ (by rintro rfl; exact hne rfl)⟩ (by simp [World.setRow])
      have hlen : (m.take l.length ++ l.drop m.length).length = l.length := by simp; omega
      refine ⟨by rw [cells_len]; omega, .inr ⟨g, dc, _, by rw [hlen], hg, setRow_heap w g _ _ _ _ hh, by rw [hlen]; exact hn, hm, ?_, ?_⟩⟩
      · have hsz : cur.toList.length = dc := by simpa using hs
        simp [cells]; simp at hsz; omega
      · have hcl : cur.toList.take l.length = cells l := by simpa using ht
        have hl2 : l.length ≤ cur.toList.length := by simp; omega
        rw [hlen]
        apply List.ext_getElem?
        intro j
        rw [Nat.mul_one, List.getElem?_take]
        by_cases hj : j < l.length
        · rw [if_pos hj]
          simp only [Nat.zero_add, List.take_zero, List.nil_append]
          by_cases hj2 : j < Nat.min m.length l.length
          · rw [List.getElem?_append_left (by rw [hmin]; exact hj2)]
            simp only [cells, List.map_append]
            rw [List.getElem?_append_left (by simp; have : Nat.min m.length l.length = min m.length l.length := rfl; omega)]
          · have e1 : Nat.min m.length l.length = m.length := by
              rcases Nat.le_total m.length l.length with h | h
              · exact Nat.min_eq_left h
              · have : Nat.min m.length l.length = l.length := Nat.min_eq_right h
                omega
            rw [e1] at hj2
            rw [List.getElem?_append_right (by rw [hmin, e1]; omega), hmin, e1]
            simp only [cells, List.map_append]
            rw [List.getElem?_append_right (by simp; omega)]
            simp only [List.length_map, List.length_take, List.map_drop]
            rw [List.getElem?_drop, List.getElem?_drop]
            have e2 : cur.toList[m.length + (j - m.length)]? = (cells l)[m.length + (j - m.length)]? := by
              rw [← hcl, List.getElem?_take, if_pos (by omega)]
            rw [e2]
            have e3 : min l.length m.length = m.length := by rw [Nat.min_comm]; exact e1
            rw [e3]
            rfl
        · rw [if_neg hj, List.getElem?_eq_none]
          rw [cells_len]; omega
end
end Go.Proofs.YtoaioijgmbhhnaaDoor
