/-
  Rows of texts: of the call's own, made and appended to; and read.
-/
import Derived.Test.YtnjcngmmgceijaaDoorOwnB
import Derived.Sort.EncStr
import Derived.WalkKit
import Derived.ProofKit
import Derived.Below
import Derived.BigQuiet
import Derived.Deep.QuietTactic
import Derived.Outline
import Derived.LoopTactic
import Derived.Deep.LoopGhost
namespace Go.Proofs.YtnjcngmmgceijaaDoor
open Go.RowKit Go.Sort

def txs (l : List (List UInt8)) : List Value := l.map encStr
theorem txs_len (l : List (List UInt8)) : (txs l).length = l.length := by simp [txs]
theorem txs_one (l : List (List UInt8)) : ∀ u ∈ txs l, u.oneCell' = true := by
  intro u hu
  obtain ⟨x, _, rfl⟩ := List.mem_map.1 hu
  rfl
theorem text_info : (Tryd.prog.info? 9).map (fun i => (i.zero, i.size, i.bytes)) = some (some (.string ⟨#[]⟩), 1, 16) := by kernel_rfl

/-- A slice that reads as texts: nil, empty or not. -/
def ReadsT (w : World) (A : Option Addr) (l : List (List UInt8)) : Prop :=
  l = [] ∨ ∃ b off, A = some ⟨b, off, none⟩ ∧ b < w.heap.size ∧ ∀ k, k < l.length → w.cell? ⟨b, off + k, none⟩ = some (encStr (l.getD k []))
theorem ReadsT.drewN {w : World} {A : Option Addr} {l : List (List UInt8)} (h : ReadsT w A l) (n : Nat) : ReadsT (w.drewN n) A l := h
theorem ReadsT.below {w w' : World} {C : Nat} {A : Option Addr} {l : List (List UInt8)} (h : ReadsT w A l) (hb : Below C w w') (hC : w.heap.size ≤ C) : ReadsT w' A l := by
  rcases h with h | ⟨b, off, e, hlt, hc⟩
  · exact .inl h
  · exact .inr ⟨b, off, e, by have := hb.size; omega, fun k hk => (hb.cell (p := ⟨b, off + k, none⟩) (by show b < C; omega)).trans (hc k hk)⟩
/-- Of a slice that reads as texts, a part. -/
theorem ReadsT.get {w : World} {A : Option Addr} {l : List (List UInt8)} (h : ReadsT w A l) (k : Nat) (hk : k < l.length) : ∃ b off, A = some ⟨b, off, none⟩ ∧ w.cell? ⟨b, off + k, none⟩ = some (encStr (l.getD k [])) := by
  rcases h with rfl | ⟨b, off, e, _, hc⟩
  · simp at hk
  · exact ⟨b, off, e, hc k hk⟩
theorem ReadsT.take {w : World} {A : Option Addr} {l : List (List UInt8)} (h : ReadsT w A l) (k : Nat) : ReadsT w A (l.take k) := by
  rcases h with rfl | ⟨b, off, e, hlt, hc⟩
  · exact .inl (by simp)
  · refine .inr ⟨b, off, e, hlt, fun j hj => ?_⟩
    rw [List.length_take] at hj
    rw [hc j (by omega)]
    simp [List.getD, List.getElem?_take, show j < k by omega]
theorem ReadsT.drop {w : World} {b off k : Nat} {l : List (List UInt8)} (h : ReadsT w (some ⟨b, off, none⟩) l) : ReadsT w (some ⟨b, off + k, none⟩) (l.drop k) := by
  rcases h with rfl | ⟨b', off', e, hlt, hc⟩
  · exact .inl (by simp)
  · injection e with e; injection e with e1 e2 _; subst e1 e2
    refine .inr ⟨b, off + k, rfl, hlt, fun j hj => ?_⟩
    rw [List.length_drop] at hj
    rw [show off + k + j = off + (k + j) by omega, hc (k + j) (by omega)]
    simp [List.getD, List.getElem?_drop]
theorem ReadsT.news {w : World} {ad : Addr} {l : List (List UInt8)} (h : ReadsT w (some ad) l) : ∀ j u, (txs l)[j]? = some u → w.cell? (ad.add j) = some u := by
  intro j u hu
  rcases h with rfl | ⟨b, off, e, hb, hc⟩
  · simp [txs] at hu
  · obtain rfl := Option.some.inj e
    have hj : j < l.length := by
      have := (List.getElem?_eq_some_iff.1 hu).1
      rwa [txs_len] at this
    rw [show (⟨b, off, none⟩ : Addr).add j = ⟨b, off + j, none⟩ from by rw [Addr.add_lit]]
    rw [hc j hj]
    simpa [txs, hj, List.getD] using hu
/-- A new block whose cells are texts reads as them. -/
theorem ReadsT.made (w : World) (l : List (List UInt8)) (cs : Array Value) (e : TypeId) (fr : Nat × Nat) (g : Nat) (hg : g = w.heap.size) (hc : (txs l).toArray = cs) : ReadsT (w.alloc (.cells cs e fr)) (some ⟨g, 0, none⟩) l := by
  subst hg hc
  refine .inr ⟨_, _, rfl, by simp, fun k hk => ?_⟩
  rw [World.cell?_alloc_mark]
  simp [txs, hk, List.getD]

/-- A slice value that the call owns: its texts. -/
def OwnT (w : World) (base : Nat) (v : Value) (l : List (List UInt8)) : Prop := w.ownsRow base 9 1 v l.length (txs l)
theorem OwnT.nil (w : World) (base : Nat) : OwnT w base (.slice none 0 0) [] := World.ownsRow_nil w base _ 1
theorem OwnT.alloc {w : World} {base : Nat} {v : Value} {l : List (List UInt8)} (h : OwnT w base v l) (o : Obj) : OwnT (w.alloc o) base v l := World.ownsRow.alloc h o
theorem OwnT.drewN {w : World} {base : Nat} {v : Value} {l : List (List UInt8)} (h : OwnT w base v l) (n : Nat) : OwnT (w.drewN n) base v l := h
theorem OwnT.lt {w : World} {base : Nat} {v : Value} {l : List (List UInt8)} (h : OwnT w base v l) : ∀ k, v.ownBlock = some k → base ≤ k ∧ k < w.heap.size := World.ownsRow.lt h
theorem OwnT.below {w w' : World} {base C : Nat} {v : Value} {l : List (List UInt8)} (h : OwnT w base v l) (hb : Below C w w') (hC : w.heap.size ≤ C) : OwnT w' base v l := by
  obtain ⟨h1, h2⟩ := h
  refine ⟨h1, ?_⟩
  rcases h2 with h2 | ⟨g, cap, cur, hv, hg, hh, r⟩
  · exact .inl h2
  · have hlt : g < w.heap.size := by
      rcases Nat.lt_or_ge g w.heap.size with h | h
      · exact h
      · rw [Array.getElem?_eq_none h] at hh; cases hh
    exact .inr ⟨g, cap, cur, hv, hg, (hb.block g (by omega)).trans hh, r⟩
theorem OwnT.mono {w : World} {base base' : Nat} {v : Value} {l : List (List UInt8)} (h : OwnT w base v l) (hb : base' ≤ base) : OwnT w base' v l := by
  obtain ⟨h1, h2⟩ := h
  refine ⟨h1, ?_⟩
  rcases h2 with h2 | ⟨g, cap, cur, hv, hg, r⟩
  · exact .inl h2
  · exact .inr ⟨g, cap, cur, hv, by omega, r⟩
/-- What is owned is a slice that reads as its texts. -/
theorem OwnT.reads {w : World} {base : Nat} {v : Value} {l : List (List UInt8)} (h : OwnT w base v l) : ∃ A c, v = .slice A l.length c ∧ ReadsT w A l ∧ (A = none → l = [] ∧ c = 0) ∧ l.length ≤ c ∧ c ≤ 9223372036854775807 := by
  obtain ⟨_, h2⟩ := h
  rcases h2 with ⟨rfl, h0⟩ | ⟨g, cap, cur, rfl, hg, hh, hn, hm, hs, ht⟩
  · obtain rfl := List.eq_nil_of_length_eq_zero h0
    exact ⟨none, 0, rfl, .inl rfl, fun _ => ⟨rfl, rfl⟩, by simp, by omega⟩
  · refine ⟨_, _, rfl, .inr ⟨g, 0, rfl, ?_, fun k hk => ?_⟩, (fun e => by cases e), hn, by simp only [maxLen] at hm; omega⟩
    · rcases Nat.lt_or_ge g w.heap.size with h | h
      · exact h
      · rw [Array.getElem?_eq_none h] at hh; cases hh
    · have e : cur.toList[k]? = some (encStr l[k]) := by
        have e2 : (cur.toList.take (l.length * 1))[k]? = some (encStr l[k]) := by rw [ht]; simp [txs, hk]
        rw [List.getElem?_take] at e2
        rwa [if_pos (by omega)] at e2
      have e3 : cur[k]? = some (encStr l[k]) := by simpa using e
      simp only [World.cell?, hh, Nat.zero_add]
      rw [e3]
      simp [List.getD, hk]
section
variable {w : World} {ops : Array Oper} {rest : List Oper} {o : Oper} {a : Act} {Q : Exit → Act → World → Prop}
/-- append(s, x...), s the call's own texts, x whatever reads as texts. -/
theorem wpList_appT (hgd : o.guard = none) (s x : Operand) (ho : o.op = .call { callee := .builtin .append, args := #[s, x], argTypes := #[30, 30] })
    (base : Nat) (v : Value) (l m : List (List UInt8)) (hs : a.eval s = v) (hown : OwnT w base v l) (A : Option Addr) (n c : Nat) (hx : a.eval x = .slice A n c) (hn : m.length = n) (hr : ReadsT w A m)
    (hlen : l.length + n ≤ 1073741824) (hbase : base ≤ w.heap.size)
    (h : ∀ v' w', OwnT w' base v' (l ++ m) → w.grownBy w' v.ownBlock → (v'.ownBlock = v.ownBlock ∨ v'.ownBlock = some w.heap.size) → wpList Tryd.prog ops Q rest (a.put o.dst v') w') : wpList Tryd.prog ops Q (o :: rest) a w := by
  subst hn
  obtain ⟨i, hi, hz, hs1, hby⟩ := info_parts text_info
  refine wpList_plain hgd fun K hK => ?_
  have key : ∃ v' w', (Builtin.append_ #[30, 30] o.type #[v, .slice A m.length c]).run Tryd.prog w = .ok v' w' ∧ OwnT w' base v' (l ++ m) ∧ w.grownBy w' v.ownBlock ∧ (v'.ownBlock = v.ownBlock ∨ v'.ownBlock = some w.heap.size) := by
    cases A with
    | none =>
      have h0 : m = [] := by
        rcases hr with h | ⟨_, _, h, _⟩
        · exact h
        · cases h
      subst h0
      refine ⟨v, w, ?_, by simpa using hown, World.grownBy.refl w _, .inl rfl⟩
      have u := Tryd.underlying30
      rcases hown.2 with ⟨rfl, _⟩ | ⟨g, cap, cur, rfl, _, _, hnc, _⟩
      · simp [Builtin.append_, run_underlying u, sizeOf, typeInfo, hi, Builtin.lenOf, Builtin.firstCells]
      · simp [Builtin.append_, run_underlying u, sizeOf, typeInfo, hi, Builtin.lenOf, Builtin.firstCells, hnc, storeCells]
    | some ad =>
      obtain ⟨v', w', hrun, h2, h3, _, h5⟩ := run_append_own_at (P := Tryd.prog) w base 30 o.type 9 i _ 1 16 Tryd.underlying30 hi hz hs1 hby rfl (by omega) v l.length (txs l) hown ad m.length c (txs m) (by rw [txs_len]; omega) hr.news (txs_one m)
        (by simp only [maxLen]; omega) (by omega) hbase
      refine ⟨v', w', hrun, ?_, h3, h5⟩
      unfold OwnT
      rw [List.length_append, show txs (l ++ m) = txs l ++ txs m from by simp [txs]]
      exact h2
  obtain ⟨v', w', hrun, h2, h3, h4⟩ := key
  unfold Oper.wp execOp
  simp only [ho, resolve, invoke, builtin, Sem.run_bind, Sem.run_pure, Result.andThen_ok, List.map_toArray, List.map_cons, List.map_nil, hs, hx, hrun]
  exact hK _ _ (h v' w' h2 h3 h4)

/-- make([]string, 0, c). -/
theorem wpList_mkT (hgd : o.guard = none) (s x : Operand) (ho : o.op = Op.makeSlice 30 s x) (c : Nat) (N C : Int) (hs : a.eval s = .int .i64 N) (hx : a.eval x = .int .i64 C) (hN : N = 0) (hC : C = c) (hc : c ≤ 1073741824)
    (h : ∀ w', OwnT w' w.heap.size (.slice (some ⟨w.heap.size, 0, none⟩) 0 c) [] → Below w.heap.size w w' → w'.heap.size = w.heap.size + 1 → wpList Tryd.prog ops Q rest (a.put o.dst (.slice (some ⟨w.heap.size, 0, none⟩) 0 c)) w') : wpList Tryd.prog ops Q (o :: rest) a w := by
  obtain ⟨i, hi, hz, hs1, hby⟩ := info_parts text_info
  refine wpList_plain hgd fun K hK => ?_
  have hrun := run_make (P := Tryd.prog) w 30 9 i _ Tryd.underlying30 hi hz .i64 .i64 0 c (by omega) (by omega) (by rw [hby]; omega) (by omega)
  unfold Oper.wp execOp
  subst hN hC
  simp only [ho, Sem.run_bind, Sem.run_pure, Result.andThen_ok, hs, hx, hrun, Int.toNat_natCast]
  refine hK _ _ (h _ ?_ ((Below.refl _ _).alloc (Nat.le_refl _) _) (by simp))
  refine ⟨by simp [txs], .inr ⟨w.heap.size, c, _, by simp, Nat.le_refl _, heap_alloc_new _ _, by simp, by simp only [maxLen]; omega, by simp [size_madeCells, hs1], by simp [txs]⟩⟩
end

/-- Where it owns them, a new row grows. -/
theorem OwnT.kept {w w' : World} {base : Nat} {v : Value} {l : List (List UInt8)} {row : Option Nat} (h : OwnT w base v l) (hg : w.grownBy w' row) (hne : v.ownBlock = none ∨ v.ownBlock ≠ row) : OwnT w' base v l := World.ownsRow.kept h hg hne

set_option maxRecDepth 100000 in
theorem sameTexts_any (A A' : Option Addr) (cap cap' n n' : Nat) (l m : List (List UInt8)) (w : World) (hn : l.length = n) (hn' : m.length = n') (hl : n ≤ 9223372036854775807) (hl' : n' ≤ 9223372036854775807) (hr : ReadsT w A l) (hr' : ReadsT w A' m) :
    Calls Tryd.prog 16 #[.slice A n cap, .slice A' n' cap'] w fun e w' => e = .returned (.bool (decide (l = m))) ∧ ∃ k, w' = w.drewN k := by
  by_cases hlen : n = n'
  · subst hlen
    have HR := hide hr
    have HR' := hide hr'
    have HN := hide hn
    have HN' := hide hn'
    clear hr hr' hn hn'
    go_enter Tryd.func16, Tryd.ntmps16
    go_wp2
    go_loopw [5] (fun i wr => ∃ k : Nat, k ≤ n ∧ i = .int .i64 k ∧ l.take k = m.take k ∧ ∃ q, wr = w.drewN q) (fun i _ => n - (intOf i).toNat)
    case atStart => exact ⟨0, Nat.zero_le _, rfl, by simp, 0, rfl⟩
    case round =>
      obtain ⟨k, hk, rfl, htk, q, rfl⟩ := hrel
      have HTK := hide htk
      clear htk
      by_cases hlt : k < n
      · have hkl : k < l.length := by rw [HN.out]; exact hlt
        have hkm : k < m.length := by rw [HN'.out]; exact hlt
        obtain ⟨b, off, rfl, hcell⟩ := HR.out.get k hkl
        obtain ⟨b', off', rfl, hcell'⟩ := HR'.out.get k hkm
        have HL : Hid (l.take (k + 1) = l.take k ++ [l.getD k []]) := by
          show _ = _; rw [List.take_succ_eq_append_getElem hkl]; simp [List.getD, hkl]
        have HM : Hid (m.take (k + 1) = m.take k ++ [m.getD k []]) := by
          show _ = _; rw [List.take_succ_eq_append_getElem hkm]; simp [List.getD, hkm]
        clear hkl hkm
        generalize l.getD k [] = x at *
        generalize m.getD k [] = y at *
        by_cases hxy : x = y
        · subst hxy
          have hb1 : (x == x) = true := beq_self_eq_true x
          go_wp2
          go_quiet (fail)
          go_wp2
          go_roundw
          case rel => exact ⟨k + 1, by omega, by go_num, by rw [HL.out, HM.out, HTK.out], _, rfl⟩
          case measure => simp [intOf]; omega
        · have hb1 : (x == y) = false := beq_eq_false_iff_ne.2 hxy
          have HD : Hid (decide (l = m) = false) := by
            show _ = _
            rw [decide_eq_false_iff_not]
            intro e
            have h2 := HM.out
            rw [← e, HL.out, e] at h2
            have h3 := List.append_cancel_left h2
            simp at h3
            exact hxy h3
          clear hxy
          go_wp2
          go_quiet (fail)
          go_wp2
          go_ret
          exact ⟨by rw [HD.out]; rfl, _, rfl⟩
      · have HE : Hid (decide (l = m) = true) := by
          show _ = _
          rw [decide_eq_true_iff]
          have h1 := HTK.out
          have hkn : k = n := by omega
          rw [hkn, ← HN.out, List.take_length, HN.out, ← HN'.out, List.take_length] at h1
          exact h1
        go_wp2
        go_ret
        exact ⟨by rw [HE.out]; rfl, q, rfl⟩
  · have HD : Hid (decide (l = m) = false) := by
      show _ = _
      rw [decide_eq_false_iff_not]
      intro e; apply hlen; rw [← hn, ← hn', e]
    have hne : ((n : Int) == (n' : Int)) = false := by rw [beq_eq_false_iff_ne]; omega
    have hne2 : ((n : Int) != (n' : Int)) = true := by rw [bne_iff_ne]; omega
    clear hr hr' hn hn' hlen
    go_enter Tryd.func16, Tryd.ntmps16
    go_wp2
    go_ret
    exact ⟨by rw [HD.out]; rfl, 0, rfl⟩
end Go.Proofs.YtnjcngmmgceijaaDoor
