/-
  The records of a row of batches, gathered in one slice.
  The closure of rec's Each as an iterator that a range goes over; the offsets and the records of a row of batches.
-/
import Derived.Test.YtomnkgppldgpkaaDoorRcG
import Derived.Test.YtomnkgppldgpkaaDoorRRow
import Derived.Test.YtomnkgppldgpkaaDoorRcH
namespace Go.Proofs.YtomnkgppldgpkaaDoor
open Go.RowKit

/-- Records that can be read are written out: where each lies, and its cells. -/
theorem recs_list {w : World} {bb off : Nat} {rs : List Rc.Rec} (h : ∀ k, k < rs.length → RecAt w bb (off + k * 3) (rs.getD k default)) :
    ∃ qs : List PRec, qs.map (·.r) = rs ∧ (∀ j u, (qs.flatMap PRec.cells)[j]? = some u → w.cell? ((⟨bb, off, none⟩ : Addr).add j) = some u) ∧ ∀ q ∈ qs, Arg w q.Ak q.ck q.r.k ∧ Arg w q.Av q.cv q.r.v := by
  have key : ∀ n, n ≤ rs.length → ∃ qs : List PRec, qs.length = n ∧ qs.map (·.r) = rs.take n ∧ (∀ j u, (qs.flatMap PRec.cells)[j]? = some u → w.cell? ((⟨bb, off, none⟩ : Addr).add j) = some u) ∧ ∀ q ∈ qs, Arg w q.Ak q.ck q.r.k ∧ Arg w q.Av q.cv q.r.v := by
    intro n
    induction n with
    | zero => intro _; exact ⟨[], rfl, rfl, fun j u hu => by simp at hu, fun q hq => by simp at hq⟩
    | succ n ih =>
      intro hn
      obtain ⟨qs, hl, hm, hc, ht⟩ := ih (by omega)
      obtain ⟨Ak, ck, Av, cv, h0, h1, h2, ha, hv⟩ := (h n (by omega)).ex
      have e : rs.getD n default = rs[n] := by simp [List.getD, show n < rs.length by omega]
      refine ⟨qs ++ [⟨rs[n], Ak, ck, Av, cv⟩], by simp [hl], ?_, fun j u hu => ?_, fun q hq => ?_⟩
      · rw [List.map_append, hm, List.take_succ_eq_append_getElem (by omega)]; rfl
      · rw [List.flatMap_append] at hu
        have hlen : (qs.flatMap PRec.cells).length = n * 3 := by rw [pcells_len, hl]
        by_cases hj : j < n * 3
        · rw [List.getElem?_append_left (by omega)] at hu
          exact hc j u hu
        · rw [List.getElem?_append_right (by omega), hlen] at hu
          rw [show (⟨bb, off, none⟩ : Addr).add j = ⟨bb, off + j, none⟩ from by rw [Addr.add_lit]]
          rw [e] at h0 h1 h2
          have hj3 : j - n * 3 < 3 := by
            rcases Nat.lt_or_ge (j - n * 3) 3 with h | h
            · exact h
            · rw [List.getElem?_eq_none (by simpa [PRec.cells] using h)] at hu; cases hu
          have hx : j - n * 3 = 0 ∨ j - n * 3 = 1 ∨ j - n * 3 = 2 := by omega
          rcases hx with hx | hx | hx
          · rw [hx] at hu
            rw [show off + j = off + n * 3 by omega, h0]; simpa [PRec.cells] using hu
          · rw [hx] at hu
            rw [show off + j = off + n * 3 + 1 by omega, h1]; simpa [PRec.cells] using hu
          · rw [hx] at hu
            rw [show off + j = off + n * 3 + 2 by omega, h2]; simpa [PRec.cells] using hu
      · rcases List.mem_append.1 hq with hq | hq
        · exact ht q hq
        · obtain rfl := List.mem_singleton.1 hq
          rw [e] at ha hv
          exact ⟨ha, hv⟩
  obtain ⟨qs, _, h1, h2, h3⟩ := key rs.length (Nat.le_refl _)
  exact ⟨qs, by rw [h1, List.take_length], h2, h3⟩

/-- The records that were gathered: their cells are the row's own; their bytes lie where they lay in w0. -/
structure Got (w0 w : World) (lo : Nat) (v : Value) (qs : List PRec) : Prop where
  own : w.ownsRow lo 48 3 v qs.length (qs.flatMap PRec.cells)
  txt : ∀ q ∈ qs, Arg w0 q.Ak q.ck q.r.k ∧ Arg w0 q.Av q.cv q.r.v
theorem Got.recs {w0 w : World} {lo : Nat} {v : Value} {qs : List PRec} (h : Got w0 w lo v qs) (hlo : w0.heap.size ≤ lo) (hb : Below w0.heap.size w0 w) : ∃ A c, v = .slice A qs.length c ∧ qs.length ≤ c ∧ c ≤ 9223372036854775807 ∧ Recs w A (qs.map (·.r)) := by
  have key : ∀ A c (l : List UInt8), Arg w0 A c l → Txt w 0 v A c l := fun A c l ha => ⟨ha.below hb (Nat.le_refl _), fun hl b off e => ⟨Nat.zero_le _, fun e2 => by
    have h1 := (h.own.lt b e2).1
    rcases ha.reads with e3 | ⟨b', off', e3, hlt, _⟩
    · exact hl e3
    · rw [e] at e3
      injection e3 with e3
      injection e3 with e3
      omega⟩⟩
  exact Row.val (lo := 0) ⟨⟨h.own.1, h.own.2.imp id (fun ⟨g, cap, cur, h1, _, h3⟩ => ⟨g, cap, cur, h1, Nat.zero_le _, h3⟩)⟩, fun q hq => ⟨key _ _ _ (h.txt q hq).1, key _ _ _ (h.txt q hq).2⟩⟩
theorem Got.slice {w0 w : World} {lo : Nat} {v : Value} {qs : List PRec} (h : Got w0 w lo v qs) : ∃ A c, v = .slice A qs.length c := by
  rcases h.own.2 with ⟨rfl, h0⟩ | ⟨g, cap, cur, rfl, _⟩
  · rw [h0]; exact ⟨none, 0, rfl⟩
  · exact ⟨_, _, rfl⟩

section
variable {w : World} {o : Oper} {a : Act} {Q : Exit → Act → World → Prop}
theorem step_recs {K : Act → World → Prop} (s x : Operand) (ho : o.op = .call { callee := .builtin .append, args := #[s, x], argTypes := #[24, 24] })
    (w0 : World) (base : Nat) (v : Value) (qs : List PRec) (hs : a.eval s = v) (hown : Got w0 w base v qs) (A : Option Addr) (rs : List Rc.Rec) (n c : Nat) (hx : a.eval x = .slice A n c) (hn : rs.length = n) (hpos : 0 < n)
    (hr : Recs w0 A rs) (hbw : Below w0.heap.size w0 w) (hlen : qs.length + n ≤ 1000000) (hbase : base ≤ w.heap.size)
    (h : ∀ v' w' qs', Got w0 w' base v' (qs ++ qs') → qs'.map (·.r) = rs → w.grownBy w' v.ownBlock → K (a.put o.dst v') w') : o.wp Tryd.prog a w K Q := by
  subst hn
  have hri : (Tryd.prog.info? 48).map (fun i => (i.zero, i.size, i.bytes)) = some (some (.agg #[.int .i64 0, .slice none 0 0, .slice none 0 0]), 3, 56) := record_info
  obtain ⟨i, hi, hz, hs1, hby⟩ := info_parts hri
  have key : ∃ v' w' qs', (Builtin.append_ #[24, 24] o.type #[v, .slice A rs.length c]).run Tryd.prog w = .ok v' w' ∧ Got w0 w' base v' (qs ++ qs') ∧ qs'.map (·.r) = rs ∧ w.grownBy w' v.ownBlock := by
    rcases hr with h0 | ⟨bb, off, rfl, hbb, hc⟩
    · rw [h0] at hpos; simp at hpos
    · obtain ⟨qs', hm, hcl, ht⟩ := recs_list hc
      have hl : qs'.length = rs.length := by rw [← hm, List.length_map]
      obtain ⟨v', w', hrun, h2, h3, _, _⟩ := run_append_own_at (P := Tryd.prog) w base 24 o.type 48 i _ 3 56 Tryd.underlying24 hi hz hs1 hby rfl (by omega) v qs.length (qs.flatMap PRec.cells) hown.own ⟨bb, off, none⟩ rs.length c (qs'.flatMap PRec.cells) (by rw [pcells_len, hl])
        (fun j u hu => by
          have h1 := hcl j u hu
          rw [Addr.add_lit] at h1 ⊢
          exact (hbw.cell (p := ⟨bb, off + j, none⟩) hbb).trans h1)
        (fun u hu => by obtain ⟨q, _, hq⟩ := List.mem_flatMap.1 hu; exact q.cells_one u hq) (by simp only [maxLen]; omega) (by omega) hbase
      refine ⟨v', w', qs', hrun, ⟨?_, fun q hq => ?_⟩, hm, h3⟩
      · rw [List.length_append, List.flatMap_append, hl]; exact h2
      · rcases List.mem_append.1 hq with hq | hq
        · exact hown.txt q hq
        · exact ht q hq
  obtain ⟨v', w', qs', hrun, h2, h3, h4⟩ := key
  unfold Oper.wp execOp
  simp only [ho, resolve, invoke, builtin, Sem.run_bind, Sem.run_pure, Result.andThen_ok, List.map_toArray, List.map_cons, List.map_nil, hs, hx, hrun]
  exact h v' w' qs' h2 h3 h4
end
end Go.Proofs.YtomnkgppldgpkaaDoor

namespace Go.Proofs.YtomnkgppldgpkaaDoor
open Go.RowKit

theorem Kpt.grown {Bi B : Nat} {W W' : World} {row : Option Nat} (h : W.grownBy W' row) (hr : ∀ r, row = some r → ∃ o : Obj, W.heap[r]? = some o ∧ o.isCells = false) : Kpt Bi B W W' :=
  ⟨h.size, fun b off v hv _ _ => by
    have hne : some b ≠ row := by
      intro e
      obtain ⟨o, h1, h2⟩ := hr b e.symm
      obtain ⟨o2, h3, h4⟩ := cells_of_cell hv
      rw [h1] at h3
      injection h3 with h3
      rw [h3, h4] at h2
      cases h2
    exact h.cell hv hne⟩

theorem each_seq (bs : List Rc.Bat) (n g Bn Bi lo nb : Nat) (hn : 1 ≤ n) (hnb : bs.length = nb) (hl : nb ≤ 1000) (hsm : ∀ b ∈ bs, (0 ≤ b.base ∧ b.base ≤ 1000000000000000) ∧ b.recs.length ≤ 1000 ∧ ∀ r ∈ b.recs, r.k.length ≤ 1000000 ∧ r.v.length ≤ 1000000)
    (hlo : Bi < lo) (hBn : Bn ≠ Bi) (w0 : World) (hf : FarBats w0 lo g bs) (hc : w0.cell? ⟨Bn, 0, none⟩ = some (.slice (some ⟨g, 0, none⟩) nb nb)) :
    SeqWith Fence.wide n Tryd.prog 32 #[.pointer (some ⟨Bn, 0, none⟩)] (Yl.vals (Rc.flat bs)) (fun pre x W => Yl.At (Rc.flat bs) w0.heap.size pre x W) (Kpt Bi w0.heap.size)
      (fun xs => Came xs ∧ xs.length = (Rc.flat bs).length) (fun pre => Came pre ∧ pre.length ≤ (Rc.flat bs).length) (Rc.flat bs).length w0 :=
  fun l J Jx W hb hJ _ hY h0 =>
    each_in bs n l g Bn Bi lo w0.heap.size nb hn hnb hl hsm hlo hBn w0 W rfl hf hc (Kpt.of_below hb (Nat.le_refl _)) J Jx
      (fun s A A' hs hb2 => hJ s A A' none hs ⟨hb2.os, hb2.tape, hb2.output, hb2.size, fun k hk _ => hb2.block k hk⟩ (fun r e => by cases e)) hY h0

namespace Rw
theorem flat_go (zs : List Int) : ∀ (a : Int) (i ev : Nat), (Rc.flat (go a i ev zs)).map (·.1) = (List.range (Rc.flat (go a i ev zs)).length).map fun k : Nat => a + (k : Int) := by
  induction zs with
  | nil => intro a i ev; simp [go, Rc.flat]
  | cons z zs ih =>
    intro a i ev
    have e : Rc.flat (go a i ev (z :: zs)) = Rc.flat1 (bt a i ev z) ++ Rc.flat (go (a + many z) (i + 1) ev zs) := by simp [go, Rc.flat]
    have hm : (bt a i ev z).recs.length = many z := by simp [bt]
    rw [e, List.map_append, ih, List.length_append, Rc.flat1_len, hm, List.range_add, List.map_append]
    congr 1
    · unfold Rc.flat1
      rw [hm, List.map_map]
      rfl
    · rw [List.map_map]
      refine List.map_congr_left fun k _ => ?_
      simp
      omega
theorem flat_off (zs : List Int) (a : Int) (i ev k : Nat) (hk : k < (Rc.flat (go a i ev zs)).length) : ((Rc.flat (go a i ev zs)).getD k default).1 = a + (k : Int) := by
  have h := congrArg (fun l => l.getD k 0) (flat_go zs a i ev)
  simpa [List.getD, hk] using h
end Rw
namespace Rc
theorem flat_snd (bs : List Bat) : (flat bs).map (·.2) = bs.flatMap (·.recs) := by
  induction bs with
  | nil => rfl
  | cons b bs ih =>
    have e : flat (b :: bs) = flat1 b ++ flat bs := by simp [flat]
    rw [e, List.map_append, ih, List.flatMap_cons]
    congr 1
    unfold flat1
    rw [List.map_map]
    refine List.ext_getElem (by simp) fun k h1 h2 => ?_
    simp [List.getD, h2]
theorem flat_len (bs : List Bat) : (bs.flatMap (·.recs)).length = (flat bs).length := by rw [← flat_snd]; simp
theorem flat_rec (bs : List Bat) (k : Nat) (hk : k < (flat bs).length) : ((flat bs).getD k default).2 = (bs.flatMap (·.recs)).getD k default := by
  rw [← flat_snd]
  simp [List.getD, hk]
end Rc
theorem flat_succ' (bs : List Rc.Bat) (k : Nat) (hk : k < bs.length) : (bs.take (k + 1)).flatMap (·.recs) = (bs.take k).flatMap (·.recs) ++ (bs.getD k default).recs := by
  rw [List.take_succ_eq_append_getElem hk, List.flatMap_append]
  simp [List.getD, hk]
end Go.Proofs.YtomnkgppldgpkaaDoor
