/-
  A log of segments: the segment that begins at a base; Raw, Time.
  Row of any base and of any step of epochs, with the row's own blocks.
-/
import Derived.Test.YtcmgppacipdnaaaGreatDoorQHtS
import Derived.Test.YtcmgppacipdnaaaGreatDoorQNsC
import Derived.Test.YtcmgppacipdnaaaGreatDoorQIxBy
import Derived.Test.YtcmgppacipdnaaaGreatDoorQRMake
import Derived.Test.YtcmgppacipdnaaaGreatDoorQSgN
namespace Go.Proofs.YtcmgppacipdnaaaGreatDoor
open Go.RowKit Go.Maps

set_option maxRecDepth 100000 in
set_option maxHeartbeats 1000000 in
/-- find: the segment that begins there, if one does. -/
theorem htFindAt_any {w0 w : World} {S : Nat → Prop} {n Bd H : Nat} {sz ev room used : Int} {d : Dk.St} {C : Nat → Prop} {vs vb : Value} {qs : List HQ} {bats : List (Int × Int)} {names : Dk.Dir} (h2 : HtL w0 S n Bd d H C sz ev vs vb qs bats w) (g : Ht.G d room used ev names qs) (p : Nat → Addr) (hs : SentsG w0 p) (hl : qs.length ≤ 10000) (o : Int) :
    Calls Tryz.prog 86 #[.pointer (some ⟨H, 0, none⟩), .int .i64 o] w fun e w' => ((∃ (j : Nat) (hj : j < qs.length), qs[j].base = o ∧ e = .returned (.tuple #[.pointer (some ⟨qs[j].X, 0, none⟩), .nilIface])) ∨ (∀ q ∈ qs, q.base ≠ o) ∧ e = .returned (.tuple #[.pointer none, errV (p 6)])) ∧ Below w.heap.size w w' := by
  obtain ⟨A, c, A', c', rfl, rfl, hq, -, -, -, -, c3, -⟩ := h2.cells
  have HQ := hide hq
  have HB := hide (fun (k : Nat) (hk : k < qs.length) (W : World) (hw : Below w.heap.size w W) => by
    obtain ⟨k1, k2, -, -⟩ := h2.each qs[k] (List.getElem_mem hk)
    have hm := g.mz qs[k] (List.getElem_mem hk)
    have a1 := sgBase_any qs[k].X Bd qs[k].s qs[k].T W (k1.below hw) k2
    rw [show (Sg.ed qs[k].s.edges 0).off = qs[k].base from by rw [hm.edges, Sg.adds_ed _ _ 0 (by simp [Sg.begin])]; rfl] at a1
    exact a1)
  have g6 : w.cell? ⟨1, 0, none⟩ = some (errV (p 6)) := (hs.below h2.below).cell 6 (by omega)
  unfold errV at g6
  obtain ⟨N, hN⟩ : ∃ N, N = qs.length := ⟨_, rfl⟩
  rw [← hN] at c3 hl
  have HN := hide hN.symm
  have hne : ∀ q ∈ qs, ∃ j : Nat, j < N ∧ qs.getD j default = q := fun q hq => by
    obtain ⟨j, hj, e⟩ := List.getElem_of_mem hq
    exact ⟨j, by omega, by rw [← e]; simp [List.getD, hj]⟩
  have HNE := hide hne
  clear h2 g hs hq hN hne
  go_enter Tryz.func86, Tryz.ntmps86
  go_wp2_with fail
  go_loopw [13] (fun i wr => ∃ k : Nat, k ≤ N ∧ i = .int .i64 k ∧ (∀ j, j < k → (qs.getD j default).base ≠ o) ∧ Below w.heap.size w wr) (fun i _ => N - (intOf i).toNat)
  case atStart => exact ⟨0, Nat.zero_le _, rfl, fun j hj => absurd hj (by omega), Below.refl _ _⟩
  case round =>
    obtain ⟨k, hk, rfl, hbe, hb⟩ := hrel
    have HBE := hide hbe
    have HBW := hide hb
    clear hbe hb
    by_cases hlt : k < N
    · have hkl : k < qs.length := by rw [HN.out]; exact hlt
      obtain ⟨g0, hA, hg0, hcell⟩ := HQ.out.at_ k hkl
      subst hA
      have hcell := (HBW.out.cell (p := ⟨g0, k, none⟩) hg0).trans hcell
      have hgd : qs.getD k default = qs[k] := by simp [List.getD, hkl]
      have HC : Hid (∀ (W : World), Below wr.heap.size wr W → Calls Tryz.prog 49 #[.pointer (some ⟨(qs.getD k default).X, 0, none⟩)] W fun e w' => e = .returned (.int .i64 (qs.getD k default).base) ∧ Below W.heap.size W w') := hide (fun (W : World) (hw : Below wr.heap.size wr W) => by rw [hgd]; exact HB.out k hkl W (HBW.out.trans (hw.mono HBW.out.size)))
      have hcx : k < c := by have := HQ.out.le; rw [HN.out] at this; omega
      have hcm := HQ.out.mx
      unfold hqV at hcell
      generalize hqk : qs.getD k default = qk at *
      have HEQ : Hid ((∃ h : k < qs.length, qk = qs[k]'h) ∧ qs.getD k default = qk) := hide ⟨⟨hkl, hgd⟩, hqk⟩
      clear hgd hqk hkl HB
      obtain ⟨Xk, Tk, sk, bk, xk, bsk⟩ := qk
      simp only at hcell HC
      by_cases he : bk = o
      · have u1 : (bk == o) = true := by simp [he]
        go_wp2_with (first
          | (go_at_call 49; refine (HC.out wr (Below.refl _ _)).mono ?_; rintro e w1 ⟨rfl, hb1⟩; have HB1 := hide hb1; clear hb1)
          | fail)
        go_ret2
        obtain ⟨⟨h1, h2⟩, -⟩ := HEQ.out
        exact ⟨.inl ⟨k, h1, h2 ▸ he, h2 ▸ rfl⟩, HBW.out.trans (HB1.out.mono HBW.out.size)⟩
      · have u1 : (bk == o) = false := by simp [he]
        go_wp2_with (first
          | (go_at_call 49; refine (HC.out wr (Below.refl _ _)).mono ?_; rintro e w1 ⟨rfl, hb1⟩; have HB1 := hide hb1; clear hb1)
          | fail)
        refine ⟨⟨k + 1, by omega, by simp, fun j hj => ?_, HBW.out.trans (HB1.out.mono HBW.out.size)⟩, by simp [intOf]; omega⟩
        rcases Nat.lt_or_ge j k with h1 | h1
        · exact HBE.out j h1
        · obtain rfl : j = k := by omega
          rw [HEQ.out.2]
          exact he
    · obtain rfl : k = N := by omega
      have g6r := (HBW.out.cell (World.block_lt_of_cell? _ _ g6)).trans g6
      go_wp2_with fail
      go_quiet (fail)
      go_wp2_with fail
      go_ret2
      refine ⟨.inr ⟨fun q hq => ?_, rfl⟩, below_drewN HBW.out _⟩
      obtain ⟨j, hj, e⟩ := HNE.out q hq
      rw [← e]
      exact HBE.out j hj
section
variable {w0 w : World} {U : Nat → Prop} {n Bd H : Nat} {sz ev room : Int} {gs : List Ht.Gr}
set_option maxRecDepth 100000 in
/-- Raw of a segment that is there: its batches' bytes. -/
theorem htRaw_hit (h : HtA w0 U n Bd H sz ev room gs w) (p : Nat → Addr) (hs : SentsG w0 p) (hn : n ≤ 1000) (hl : gs.length ≤ 10000) (i : Nat) (hi : i < gs.length) (hinj : ∀ j (hj : j < gs.length), gs[j].1 = gs[i].1 → j = i) :
    Calls Tryz.prog 41 #[.pointer (some ⟨H, 0, none⟩), .int .i64 gs[i].1] w fun e w' => ∃ v, e = .returned (.tuple #[v, .nilIface]) ∧ Own w' w.heap.size v (gs[i].2.flatMap Rc.bytes) ∧ Below w.heap.size w w' := by
  obtain ⟨d, S, C, vs, vb, qs, names, h2, g, h3, -⟩ := h
  subst h3
  have hiq : i < qs.length := by rw [List.length_map] at hi; exact hi
  have hgi : ∀ j (hj : j < qs.length), (qs.map fun q => (q.base, q.bs))[j]'(by rw [List.length_map]; exact hj) = (qs[j].base, qs[j].bs) := fun j hj => by simp
  rw [List.length_map] at hl
  have hin2 : ∀ j (hj : j < qs.length), qs[j].base = qs[i].base → j = i := fun j hj e => hinj j (by rw [List.length_map]; exact hj) (by rw [hgi j hj, hgi i hiq]; exact e)
  rw [hgi i hiq]
  have HFN : Hid (Calls Tryz.prog 86 #[.pointer (some ⟨H, 0, none⟩), .int .i64 qs[i].base] w fun e w' => e = .returned (.tuple #[.pointer (some ⟨qs[i].X, 0, none⟩), .nilIface]) ∧ Below w.heap.size w w') := hide ((htFindAt_any h2 g p hs hl qs[i].base).mono fun e w' ⟨hor, hb⟩ => by
    rcases hor with ⟨j, hj, h1, h4⟩ | ⟨h1, -⟩
    · have := hin2 j hj h1
      subst this
      exact ⟨h4, hb⟩
    · exact absurd rfl (h1 _ (List.getElem_mem hiq)))
  have hm := g.mz qs[i] (List.getElem_mem hiq)
  have HRW := hide (fun (W : World) (hW : Below w.heap.size w W) => by
    have := sgRawAll_any w0 W S qs[i].T n Bd qs[i].X d qs[i].s p ((h2.grow hW).seg _ (List.getElem_mem hiq)) hs hn
    rw [hm.rawR] at this
    exact this)
  clear h2 g hs hl hinj hin2 hgi hm hi
  generalize qs[i].X = Xi at *
  generalize qs[i].base = o at *
  simp only
  go_enter Tryz.func41, Tryz.ntmps41
  go_wp2_with (first
    | (go_at_call 86; refine HFN.out.mono ?_; rintro e w1 ⟨rfl, hb⟩; have HB1 := hide hb; clear hb)
    | (go_at_call 87; refine (HRW.out w1 HB1.out).mono ?_; rintro e w2 ⟨v, rfl, ho, hb⟩; have HO := hide ho; have HB2 := hide (HB1.out.trans (hb.mono HB1.out.size)); clear ho hb)
    | fail)
  go_ret2
  exact ⟨_, rfl, HO.out.mono HB1.out.size, HB2.out⟩
set_option maxRecDepth 100000 in
/-- Time of a segment that is there. -/
theorem htTime_hit (h : HtA w0 U n Bd H sz ev room gs w) (p : Nat → Addr) (hs : SentsG w0 p) (hl : gs.length ≤ 10000) (i : Nat) (hi : i < gs.length) (hinj : ∀ j (hj : j < gs.length), gs[j].1 = gs[i].1 → j = i) :
    Calls Tryz.prog 42 #[.pointer (some ⟨H, 0, none⟩), .int .i64 gs[i].1] w fun e w' => e = .returned (.tuple #[.int .i64 (Sg.last (Sg.adds (Sg.begin (Nm.seg gs[i].1) gs[i].1 ev) gs[i].2).edges).time, .nilIface]) ∧ Below w.heap.size w w' := by
  obtain ⟨d, S, C, vs, vb, qs, names, h2, g, h3, -⟩ := h
  subst h3
  have hiq : i < qs.length := by rw [List.length_map] at hi; exact hi
  have hgi : ∀ j (hj : j < qs.length), (qs.map fun q => (q.base, q.bs))[j]'(by rw [List.length_map]; exact hj) = (qs[j].base, qs[j].bs) := fun j hj => by simp
  rw [List.length_map] at hl
  have hin2 : ∀ j (hj : j < qs.length), qs[j].base = qs[i].base → j = i := fun j hj e => hinj j (by rw [List.length_map]; exact hj) (by rw [hgi j hj, hgi i hiq]; exact e)
  rw [hgi i hiq]
  have HFN : Hid (Calls Tryz.prog 86 #[.pointer (some ⟨H, 0, none⟩), .int .i64 qs[i].base] w fun e w' => e = .returned (.tuple #[.pointer (some ⟨qs[i].X, 0, none⟩), .nilIface]) ∧ Below w.heap.size w w') := hide ((htFindAt_any h2 g p hs hl qs[i].base).mono fun e w' ⟨hor, hb⟩ => by
    rcases hor with ⟨j, hj, h1, h4⟩ | ⟨h1, -⟩
    · have := hin2 j hj h1
      subst this
      exact ⟨h4, hb⟩
    · exact absurd rfl (h1 _ (List.getElem_mem hiq)))
  have hm := g.mz qs[i] (List.getElem_mem hiq)
  have HRW := hide (fun (W : World) (hW : Below w.heap.size w W) => by
    obtain ⟨k1, k2, -, -⟩ := h2.each qs[i] (List.getElem_mem hiq)
    have := sgTime_any qs[i].X Bd qs[i].s qs[i].T W (k1.below hW) k2
    rw [hm.edges] at this
    exact this)
  clear h2 g hs hl hinj hin2 hgi hm hi
  generalize qs[i].X = Xi at *
  simp only
  generalize (Sg.last (Sg.adds (Sg.begin (Nm.seg qs[i].base) qs[i].base ev) qs[i].bs).edges).time = tm at *
  generalize qs[i].base = o at *
  go_enter Tryz.func42, Tryz.ntmps42
  go_wp2_with (first
    | (go_at_call 86; refine HFN.out.mono ?_; rintro e w1 ⟨rfl, hb⟩; have HB1 := hide hb; clear hb)
    | (go_at_call 88; refine (HRW.out w1 HB1.out).mono ?_; rintro e w2 ⟨rfl, hb⟩; have HB2 := hide (HB1.out.trans (hb.mono HB1.out.size)); clear hb)
    | fail)
  go_ret2
  exact ⟨rfl, HB2.out⟩
set_option maxRecDepth 100000 in
/-- Raw of a segment that is not there. -/
theorem htRaw_none (h : HtA w0 U n Bd H sz ev room gs w) (p : Nat → Addr) (hs : SentsG w0 p) (hl : gs.length ≤ 10000) (o : Int) (hno : ∀ g ∈ gs, g.1 ≠ o) :
    Calls Tryz.prog 41 #[.pointer (some ⟨H, 0, none⟩), .int .i64 o] w fun e w' => e = .returned (.tuple #[.slice none 0 0, errV (p 6)]) ∧ Below w.heap.size w w' := by
  obtain ⟨d, S, C, vs, vb, qs, names, h2, g, h3, -⟩ := h
  subst h3
  rw [List.length_map] at hl
  have HFN : Hid (Calls Tryz.prog 86 #[.pointer (some ⟨H, 0, none⟩), .int .i64 o] w fun e w' => e = .returned (.tuple #[.pointer none, errV (p 6)]) ∧ Below w.heap.size w w') := hide ((htFindAt_any h2 g p hs hl o).mono fun e w' ⟨hor, hb⟩ => by
    rcases hor with ⟨j, hj, h1, h4⟩ | ⟨h1, h4⟩
    · exact absurd h1 (hno (qs[j].base, qs[j].bs) (List.mem_map.2 ⟨_, List.getElem_mem hj, rfl⟩))
    · exact ⟨h4, hb⟩)
  clear h2 g hs hl hno
  have hnn : ∀ W, (binOp .neq 46 (errV (p 6)) .nilIface).run Tryz.prog W = .ok (.bool true) W := fun W => neq_nilD _ W
  unfold errV at *
  go_enter Tryz.func41, Tryz.ntmps41
  go_wp2_with (first
    | (go_at_call 86; refine HFN.out.mono ?_; rintro e w1 ⟨rfl, hb⟩; have HB1 := hide hb; clear hb)
    | fail)
  go_ret2
  exact ⟨rfl, HB1.out⟩
set_option maxRecDepth 100000 in
/-- Time of a segment that is not there. -/
theorem htTime_none (h : HtA w0 U n Bd H sz ev room gs w) (p : Nat → Addr) (hs : SentsG w0 p) (hl : gs.length ≤ 10000) (o : Int) (hno : ∀ g ∈ gs, g.1 ≠ o) :
    Calls Tryz.prog 42 #[.pointer (some ⟨H, 0, none⟩), .int .i64 o] w fun e w' => e = .returned (.tuple #[.int .i64 0, errV (p 6)]) ∧ Below w.heap.size w w' := by
  obtain ⟨d, S, C, vs, vb, qs, names, h2, g, h3, -⟩ := h
  subst h3
  rw [List.length_map] at hl
  have HFN : Hid (Calls Tryz.prog 86 #[.pointer (some ⟨H, 0, none⟩), .int .i64 o] w fun e w' => e = .returned (.tuple #[.pointer none, errV (p 6)]) ∧ Below w.heap.size w w') := hide ((htFindAt_any h2 g p hs hl o).mono fun e w' ⟨hor, hb⟩ => by
    rcases hor with ⟨j, hj, h1, h4⟩ | ⟨h1, h4⟩
    · exact absurd h1 (hno (qs[j].base, qs[j].bs) (List.mem_map.2 ⟨_, List.getElem_mem hj, rfl⟩))
    · exact ⟨h4, hb⟩)
  clear h2 g hs hl hno
  have hnn : ∀ W, (binOp .neq 46 (errV (p 6)) .nilIface).run Tryz.prog W = .ok (.bool true) W := fun W => neq_nilD _ W
  unfold errV at *
  go_enter Tryz.func42, Tryz.ntmps42
  go_wp2_with (first
    | (go_at_call 86; refine HFN.out.mono ?_; rintro e w1 ⟨rfl, hb⟩; have HB1 := hide hb; clear hb)
    | fail)
  go_ret2
  exact ⟨rfl, HB1.out⟩
theorem ixBytes_six (s : Ix.St) : 6 ≤ (Ix.bytes s).length := by
  have h1 : ∀ n, 1 ≤ (Vi.put n).length := fun n => List.length_pos_iff.2 (Vi.put_ne n)
  have := h1 s.every.toNat
  have := h1 s.marks.length
  rw [Ix.bytes_len]
  simp only [Ix.body, List.length_append]
  omega
set_option maxRecDepth 100000 in
/-- Marks of a segment that is there: six bytes at least. -/
theorem htMarks_hit (h : HtA w0 U n Bd H sz ev room gs w) (p : Nat → Addr) (hs : SentsG w0 p) (ht : Tabs w0) (h4 : 4 ≤ w0.heap.size) (hT : ∀ g ∈ gs, ∀ b ∈ g.2, 0 ≤ Rc.maxT b.recs) (hbl : ∀ g ∈ gs, g.2.length ≤ 1000 ∧ (g.2.flatMap Rc.bytes).length ≤ 1000000) (hev : 1 ≤ ev ∧ ev ≤ 1048576) (hl : gs.length ≤ 10000) (i : Nat) (hi : i < gs.length) (hinj : ∀ j (hj : j < gs.length), gs[j].1 = gs[i].1 → j = i) :
    Calls Tryz.prog 43 #[.pointer (some ⟨H, 0, none⟩), .int .i64 gs[i].1] w fun e w' => ∃ v, e = .returned (.tuple #[v, .nilIface]) ∧ (∃ l, Own w' w.heap.size v l ∧ 6 ≤ l.length) ∧ Below w.heap.size w w' := by
  obtain ⟨d, S, C, vs, vb, qs, names, h2, g, h3, -⟩ := h
  subst h3
  have hiq : i < qs.length := by rw [List.length_map] at hi; exact hi
  have hgi : ∀ j (hj : j < qs.length), (qs.map fun q => (q.base, q.bs))[j]'(by rw [List.length_map]; exact hj) = (qs[j].base, qs[j].bs) := fun j hj => by simp
  rw [List.length_map] at hl
  have hin2 : ∀ j (hj : j < qs.length), qs[j].base = qs[i].base → j = i := fun j hj e => hinj j (by rw [List.length_map]; exact hj) (by rw [hgi j hj, hgi i hiq]; exact e)
  rw [hgi i hiq]
  have HFN : Hid (Calls Tryz.prog 86 #[.pointer (some ⟨H, 0, none⟩), .int .i64 qs[i].base] w fun e w' => e = .returned (.tuple #[.pointer (some ⟨qs[i].X, 0, none⟩), .nilIface]) ∧ Below w.heap.size w w') := hide ((htFindAt_any h2 g p hs hl qs[i].base).mono fun e w' ⟨hor, hb⟩ => by
    rcases hor with ⟨j, hj, h1, h4⟩ | ⟨h1, -⟩
    · have := hin2 j hj h1
      subst this
      exact ⟨h4, hb⟩
    · exact absurd rfl (h1 _ (List.getElem_mem hiq)))
  have hm := g.mz qs[i] (List.getElem_mem hiq)
  obtain ⟨hb1, hb2⟩ := hbl (qs[i].base, qs[i].bs) (List.mem_map.2 ⟨_, List.getElem_mem hiq, rfl⟩)
  have hT2 := hT (qs[i].base, qs[i].bs) (List.mem_map.2 ⟨_, List.getElem_mem hiq, rfl⟩)
  simp only at hb1 hb2 hT2
  obtain ⟨k1, k2, -, -⟩ := h2.each qs[i] (List.getElem_mem hiq)
  have hinv := hm.ixInv k2 hT2 hb2 hev qs[i].bs.length (Nat.le_refl _)
  have hml := (ixs_adds ev (Sg.begin (Nm.seg qs[i].base) qs[i].base ev) qs[i].bs qs[i].bs.length).2.1
  have hwb := h2.below
  have HIX := hide (fun (W : World) (hW : Below w.heap.size w W) => sgIndex_any W qs[i].X Bd qs[i].T d qs[i].s p (k1.below hW) k2 (hs.below (hwb.trans (hW.mono hwb.size))) hm hb1 (by rw [hm.pos]; omega))
  have HBY := hide (fun (W : World) (hW : Below w.heap.size w W) (I : Nat) (S' : Nat → Prop) (hi : IxAt W I (ixs ev (Sg.begin (Nm.seg qs[i].base) qs[i].base ev) qs[i].bs qs[i].bs.length) S') => ixBytes_any I _ S' W hi (by have := hinv.ok.every; omega) (by omega) hinv.steps (ht.below (hwb.trans (hW.mono hwb.size)) (Nat.le_refl _)) (by have := h4; have := hwb.size; have := hW.size; omega))
  clear h2 g hs hl hinj hin2 hgi hm hi ht h4 hT hbl hT2 hb1 hb2 hinv hml hwb k1 k2
  simp only
  generalize ixs ev (Sg.begin (Nm.seg qs[i].base) qs[i].base ev) qs[i].bs qs[i].bs.length = ix at *
  generalize qs[i].X = Xi at *
  generalize qs[i].base = o at *
  go_enter Tryz.func43, Tryz.ntmps43
  go_wp2_with (first
    | (go_at_call 86; refine HFN.out.mono ?_; rintro e w1 ⟨rfl, hb⟩; have HB1 := hide hb; clear hb)
    | (go_at_call 89; refine (HIX.out w1 HB1.out).mono ?_; rintro e w2 ⟨I, S', rfl, hi, -, hb⟩; have HI := hide hi; have HB2 := hide (HB1.out.trans (hb.mono HB1.out.size)); clear hi hb)
    | (go_at_call 90; refine (HBY.out w2 HB2.out I S' HI.out).mono ?_; rintro e w3 ⟨v, rfl, ho, hb⟩; have HO := hide ho; have HB3 := hide (HB2.out.trans (hb.mono HB2.out.size)); clear ho hb)
    | fail)
  go_ret2
  exact ⟨_, rfl, ⟨_, HO.out.mono HB2.out.size, ixBytes_six ix⟩, HB3.out⟩
end
end Go.Proofs.YtcmgppacipdnaaaGreatDoor

namespace Go.Proofs.YtcmgppacipdnaaaGreatDoor
open Go.RowKit
set_option maxRecDepth 100000 in
set_option maxHeartbeats 4000000 in
theorem rowV_any (base : Nat) (A : Option Addr) (cap n ev : Nat) (zs : List Int) (w : World) (hn : zs.length = n) (hn2 : n ≤ 20) (hb : base ≤ 1073741824) (hev : 0 < ev) (hev2 : ev ≤ 100) (hA : Ints w A zs) (hz : ∀ k, k < zs.length → -9223372036854775808 ≤ zs.getD k 0 ∧ zs.getD k 0 ≤ 9223372036854775807) :
    Calls Tryz.prog 15 #[.int .i64 base, .slice A n cap, .int .i64 ev] w fun e w' => (∃ A c, e = .returned (.slice A n c) ∧ n ≤ c ∧ c ≤ 9223372036854775807 ∧ Bats w' A (Rw.go base 0 ev zs) ∧ ∃ qs, BRow w' w.heap.size (.slice A n c) qs ∧ qs.map (·.b) = Rw.go base 0 ev zs) ∧ Below w.heap.size w w' := by
  subst hn
  have HA := hide hA
  have HZ := hide hz
  clear hA hz
  go_enter Tryz.func15, Tryz.ntmps15
  go_wp2_with fail
  go_loopw [7, 8, 9] (fun v at_ i wr => ∃ (k : Nat) (a : Nat) (qs : List PBat), k ≤ zs.length ∧ i = .int .i64 k ∧ at_ = .int .i64 a ∧ a ≤ base + 5 * k ∧ BRow wr w.heap.size v qs ∧ qs.length = k ∧ Below w.heap.size w wr ∧ qs.map (·.b) ++ Rw.go a k ev (zs.drop k) = Rw.go base 0 ev zs) (fun _ _ i _ => zs.length - (intOf i).toNat)
  case atStart => exact ⟨0, base, [], Nat.zero_le _, rfl, rfl, by omega, BRow.nil _ _, rfl, Below.refl _ _, by simp⟩
  case round =>
    obtain ⟨k, a, qs, hk, rfl, rfl, ha, hrow, hql, hb, hgo⟩ := hrel
    have HRW := hide hrow
    have HBK := hide hb
    have HGO := hide hgo
    have HQL := hide hql
    clear hrow hb hgo hql
    obtain ⟨Av, cv, rfl, -, -, -⟩ := HRW.out.val
    by_cases hlt : k < zs.length
    · rcases HA.out with e0 | ⟨b, off, rfl, hb0, hcl⟩
      · rw [e0] at hlt; simp at hlt
      have hcell : wr.cell? ⟨b, off + k, none⟩ = some (.int .i64 (zs.getD k 0)) := (HBK.out.cell (p := ⟨b, off + k, none⟩) hb0).trans (hcl k hlt)
      obtain ⟨bd1, bd2⟩ := HZ.out k hlt
      have HDR : Hid (zs.drop k = zs.getD k 0 :: zs.drop (k + 1)) := by
        show _ = _
        rw [List.drop_eq_getElem_cons hlt]; simp [List.getD, hlt]
      have HCEL := hide (hcl k hlt)
      have HB0L := hide hb0
      clear hcl
      generalize zs.getD k 0 = z at *
      have hbl : b < wr.heap.size := Nat.lt_of_lt_of_le hb0 HBK.out.size
      go_upto_region 7 with fail
      have hbld := Bld.new (Below.refl wr.heap.size wr) (a : Int) 1 36
      have HBD := hide hbld
      obtain ⟨BB, hBB⟩ : ∃ BB, BB = wr.heap.size := ⟨_, rfl⟩
      rw [← hBB] at HBD ⊢
      have HBB := hide hBB
      have y0 := HBD.out.c1
      have y1 := HBD.out.f 1
      have HW4 : Hid (Below wr.heap.size wr (wr.alloc (.cells #[.int .i64 (a : Int), .int .i64 1, .slice none 0 0] 36))) := hide (balloc (Below.refl _ _) _)
      clear hbld hBB
      generalize wr.alloc (.cells #[.int .i64 (a : Int), .int .i64 1, .slice none 0 0] 36) = w4 at *
      have hdk : k / ev ≤ k := Nat.div_le_self _ _
      have hdv : (k : Int).tdiv (ev : Int) = ((k / ev : Nat) : Int) := by rw [Int.tdiv_eq_ediv_of_nonneg (by omega)]; rfl
      have HDK := hide hdk
      go_upto_region 9 with fail
      have hep : wrap64 (1 + wrap64 ((k : Int) / (ev : Int))) = 1 + ((k / ev : Nat) : Int) := by
        rw [show (k : Int) / (ev : Int) = ((k / ev : Nat) : Int) from rfl]
        generalize k / ev = q at *
        have hq : -9223372036854775808 ≤ (q : Int) ∧ (q : Int) ≤ 9223372036854775807 := by omega
        rw [IntWalk.wrap64_in (q : Int) hq, IntWalk.wrap64_in (1 + (q : Int)) (by omega)]
      rw [hep]
      have HB5 := hide (HBD.out.num1 (1 + ((k / ev : Nat) : Int)))
      have HW5 := hide (HW4.out.trans ((Below.refl _ _).setCell (p := ⟨BB, 1, none⟩) (by show _ ≤ BB; rw [HBB.out]; exact Nat.le_refl _) (.int .i64 (1 + ((k / ev : Nat) : Int)))))
      clear hep hdv hdk y0 y1 HBD HW4
      generalize hepo : 1 + ((k / ev : Nat) : Int) = ep at *
      have HEP := hide hepo
      clear hepo
      generalize w4.setCell ⟨BB, 1, none⟩ (.int .i64 ep) = w5 at *
      have hc5 := (HW5.out.cell (p := ⟨b, off + k, none⟩) hbl).trans hcell
      have HNM := hide (fun W => num_at z 5 5 W rfl (by omega) (by omega) bd1 bd2)
      have hm5 := num_lt z 5 (by omega)
      go_wp2_with fail
      refine (HNM.out _).mono ?_
      rintro e w6 ⟨rfl, rfl⟩
      have HMN : Hid (Rw.many z = num z 5 + 1) := hide rfl
      generalize num z 5 = nz at *
      clear HNM hcell
      go_upto_block 2 with fail
      go_cut [12] (fun _ wx => ∃ v ps, Bld wr wx BB (BB + 1) a ep v ps ∧ ps.map (·.r) = (List.range (nz + 1)).map (Rw.rc k z))
      case first =>
        go_wp2_with fail
        go_loopw [12] (fun i wi => ∃ (j : Nat) (v : Value) (ps : List PRec), j ≤ nz + 1 ∧ i = .int .i64 j ∧ Bld wr wi BB (BB + 1) a ep v ps ∧ ps.map (·.r) = (List.range j).map (Rw.rc k z)) (fun i _ => nz + 1 - (intOf i).toNat)
        case atStart => exact ⟨0, _, [], Nat.zero_le _, rfl, HB5.out, by simp⟩
        case round =>
          obtain ⟨j, v, ps, hj, rfl, hbld, hps⟩ := hrel
          have HBL := hide hbld
          have HPS := hide hps
          have hpl : ps.length = j := by
            have := congrArg List.length hps
            rwa [List.length_map, List.length_map, List.length_range] at this
          have HPL := hide hpl
          clear hps hpl
          by_cases hlj : j < nz + 1
          · have hci := (hbld.below.cell (p := ⟨b, off + k, none⟩) hbl).trans ((HBK.out.cell (p := ⟨b, off + k, none⟩) HB0L.out).trans HCEL.out)
            have HNV := hide (fun W => num_at (IntKind.i64.wrap (z + j)) 9 9 W rfl (by omega) (by omega) (by rw [IntKind.wrap_i64]; omega) (by rw [IntKind.wrap_i64]; omega))
            have hkv : num (IntKind.i64.wrap (z + j)) 9 = Rw.kv z j := rfl
            rw [hkv, IntWalk.i64_left] at HNV
            have hkl := Rw.kv_lt z j
            have HRC : Hid (Rw.rc k z j = ⟨100 * (k : Int) + j, [UInt8.ofNat (97 + Rw.kv z j)], List.replicate (Rw.kv z j) 0⟩) := hide rfl
            generalize Rw.kv z j = N at *
            obtain ⟨CS, hcs, hmk⟩ := make_bytes N (by omega)
            obtain ⟨Ab, cb, rfl, -, -, -⟩ := hbld.row.val
            have z0 := hbld.c2
            have z1 := hbld.f 2
            have hos := hbld.os
            clear hbld hkv
            go_wp2_with fail
            refine (HNV.out _).mono ?_
            rintro e w9 ⟨rfl, rfl⟩
            clear HNV
            go_upto_region 15 with fail
            obtain ⟨W3, hW3⟩ : ∃ W3, W3 = ((wr.alloc (.cells #[.int .u8 (97 + (N : Int))] 5)).alloc (.cells CS 5)).alloc (.cells #[.int .i64 (100 * (k : Int) + (j : Int)), .slice (some ⟨wr.heap.size, 0, none⟩) 1 1, .slice (some ⟨wr.heap.size + 1, 0, none⟩) N N] 80) := ⟨_, rfl⟩
            obtain ⟨hb3, hz3, ⟨x0, x1, x2⟩, ht1, ht2⟩ := row_new wr N hkl CS hcs (100 * (k : Int) + (j : Int)) (BB + 1) (.slice Ab ps.length cb) hos (fun q hq => (HBL.out.row.own.lt q hq).2) W3 hW3
            rw [← hW3]
            have HB3 := hide (HBL.out.quiet hb3)
            have z0 := HB3.out.c2
            have z1 := HB3.out.f 2
            have HT1 := hide ht1
            have HT2 := hide ht2
            have hos3 := HB3.out.os
            obtain ⟨i0, hi, hz, hs1, hby⟩ := info_parts record_info
            clear hW3 hb3 hz3 ht1 ht2 hcs hmk hos
            have HBAL : Hid (Below W3.heap.size W3 (W3.alloc (.cells #[.int .i64 (100 * (k : Int) + (j : Int)), .slice (some ⟨wr.heap.size, 0, none⟩) 1 1, .slice (some ⟨wr.heap.size + 1, 0, none⟩) N N] 80))) := hide (balloc (Below.refl _ _) _)
            have hlr : (List.replicate N (0 : UInt8)).length = N := List.length_replicate
            have HLR := hide hlr
            have HPC : Hid (PRec.cells ⟨⟨100 * (k : Int) + (j : Int), [UInt8.ofNat (97 + N)], List.replicate N 0⟩, some ⟨wr.heap.size, 0, none⟩, 1, some ⟨wr.heap.size + 1, 0, none⟩, N⟩ = [.int .i64 (100 * (k : Int) + (j : Int)), .slice (some ⟨wr.heap.size, 0, none⟩) 1 1, .slice (some ⟨wr.heap.size + 1, 0, none⟩) N N]) := by
              show _ = _
              unfold PRec.cells
              rw [HLR.out]; rfl
            clear hlr
            go_wp2_with (at_builtin; refine wpList_append_own_at (w := W3.alloc _) rfl (.tmp 61) (.tmp 63) 34 rfl (BB + 1) 80 i0 _ 3 56 Tryz.underlying34 hi hz hs1 hby rfl (by omega) (.slice Ab ps.length cb) ps.length (ps.flatMap PRec.cells) rfl (HB3.out.row.own.alloc _) ⟨W3.heap.size, 0, none⟩ 1 1 (PRec.cells ⟨⟨100 * (k : Int) + (j : Int), [UInt8.ofNat (97 + N)], List.replicate N 0⟩, some ⟨wr.heap.size, 0, none⟩, 1, some ⟨wr.heap.size + 1, 0, none⟩, N⟩) rfl rfl (by rw [HPC.out]; exact cells_three _ _ _ _ _) (PRec.cells_one _) (by have := HPL.out; simp only [maxLen]; omega) (by have := HPL.out; omega) (by simp; omega) ?_; intro v5 wd hown5 hg5 hnil5 hat5; obtain ⟨g5, c5, rfl⟩ := row_succ' hown5; have ymid := HB3.out.mid HBAL.out hg5; have y2 := ymid.1; have y3 := ymid.2; have HPUSH := hide (HB3.out.push (q := ⟨⟨100 * (k : Int) + (j : Int), [UInt8.ofNat (97 + N)], List.replicate N 0⟩, some ⟨wr.heap.size, 0, none⟩, 1, some ⟨wr.heap.size + 1, 0, none⟩, N⟩) HT1.out HT2.out HBAL.out hg5 hat5 hown5); clear hown5 hg5 hnil5 hat5 ymid)
            refine ⟨⟨j + 1, _, _, by omega, by go_num, HPUSH.out, ?_⟩, by simp [intOf]; omega⟩
            rw [List.map_append, HPS.out, List.range_succ, List.map_append, List.map_singleton, List.map_singleton, HRC.out]
          · obtain rfl : j = nz + 1 := by omega
            go_wp2_with fail
            go_meet
            exact ⟨_, ps, HBL.out, HPS.out⟩
      case rest =>
        obtain ⟨v, ps, hbld, hps⟩ := hcut
        have HBL := hide hbld
        have HPS := hide hps
        obtain ⟨Ab, cb, rfl, hpc, hpm, -⟩ := hbld.row.val
        have c0 := hbld.c0
        have c1 := hbld.c1
        have c2 := hbld.c2
        have hbw := hbld.below
        have HBW := hide hbw
        have HR6 := hide (HRW.out.below hbw)
        have hd6 : k / ev ≤ k := Nat.div_le_self _ _
        have hep1 : 0 ≤ ep ∧ ep ≤ 1000 := by
          rw [← HEP.out]
          generalize k / ev = q at *
          omega
        have HNEW := hide (hbld.row.newBat (a : Int) ep (by omega) (by omega))
        have hpl : (ps.map (·.r)).length = ps.length := List.length_map _
        have HPL := hide hpl
        have HBAL : Hid (Below wc.heap.size wc (wc.alloc (.cells #[.int .i64 (a : Int), .int .i64 ep, .slice Ab ps.length cb] 36))) := hide (balloc (Below.refl _ _) _)
        have HZW : Hid (w.heap.size ≤ wc.heap.size) := hide (Nat.le_trans HBK.out.size hbw.size)
        have HPC : Hid (PBat.cells ⟨⟨(a : Int), ep, ps.map (·.r)⟩, Ab, cb⟩ = [.int .i64 (a : Int), .int .i64 ep, .slice Ab ps.length cb]) := by
          show _ = _
          unfold PBat.cells
          rw [HPL.out]
        obtain ⟨i0, hi, hz, hs1, hby⟩ := info_parts batch_info
        clear hbld hps hbw hpl hd6
        go_wp2_with (at_builtin; refine wpList_append_own_at (w := wc.alloc _) rfl (.tmp 69) (.tmp 71) 26 rfl w.heap.size 36 i0 _ 3 40 Tryz.underlying26 hi hz hs1 hby rfl (by omega) (.slice Av qs.length cv) qs.length (qs.flatMap PBat.cells) rfl (HR6.out.own.alloc _) ⟨wc.heap.size, 0, none⟩ 1 1 (PBat.cells ⟨⟨(a : Int), ep, ps.map (·.r)⟩, Ab, cb⟩) rfl rfl (by rw [HPC.out]; exact cells_three _ _ _ _ _) (PBat.cells_one _) (by have := HQL.out; simp only [maxLen]; omega) (by have := HQL.out; omega) (by have := HZW.out; simp; omega) ?_; intro v5 wd hown5 hg5 hnil5 hat5; have HROW5 := hide (HR6.out.app (q := ⟨⟨(a : Int), ep, ps.map (·.r)⟩, Ab, cb⟩) (by have := HBK.out.size; have := HBB.out; omega) HNEW.out (Above.refl _ _) (fun q hq => by have := (HRW.out.own.lt q hq).2; have := HBB.out; omega) HBAL.out hg5 hat5 hown5); have HB5 := hide ((HBK.out.trans (HBW.out.mono HBK.out.size)).trans ((HBAL.out.mono HZW.out).trans ((Below.refl w.heap.size _).grown hg5 (by have := HZW.out; simp; omega) (fun q hq => (HRW.out.own.lt q hq).1)))); clear hown5 hg5 hnil5 hat5)
        refine ⟨⟨k + 1, a + (nz + 1), _, by omega, by go_num, by go_num, by omega, HROW5.out, by rw [List.length_append, HQL.out]; rfl, HB5.out, ?_⟩, by simp [intOf]; omega⟩
        rw [← HGO.out, HDR.out, List.map_append, List.append_assoc, Rw.go]
        have e1 : Rw.bt (a : Int) k ev z = ⟨(a : Int), ep, ps.map (·.r)⟩ := by
          unfold Rw.bt
          rw [HPS.out, HMN.out, ← HEP.out]
        have e2 : ((a : Int) + (Rw.many z : Int)) = ((a + (nz + 1) : Nat) : Int) := by
          rw [HMN.out]; omega
        rw [e1, e2]
        rfl
    · obtain rfl : k = zs.length := by omega
      obtain ⟨Ax, cx, hv, hc1, hc2, hbx⟩ := HRW.out.val
      injection hv with hv1 hv2 hv3
      subst hv1 hv3
      have HBX := hide hbx
      clear hbx
      have HEN : Hid (qs.map (·.b) = Rw.go base 0 ev zs) := by
        show _ = _
        rw [← HGO.out, List.drop_length]
        simp [Rw.go]
      go_wp2_with fail
      go_ret
      refine ⟨⟨Av, cv, by rw [HQL.out]; rfl, by rw [← HQL.out]; exact hc1, hc2, by rw [← HEN.out]; exact HBX.out, qs, by rw [← HQL.out]; exact HRW.out, HEN.out⟩, HBK.out⟩
theorem rowE_any (base : Nat) (A : Option Addr) (cap n ev : Nat) (zs : List Int) (w : World) (hn : zs.length = n) (hn2 : n ≤ 20) (hb : base ≤ 1073741824) (hev : ev ≤ 100) (hA : Ints w A zs) (hz : ∀ k, k < zs.length → -9223372036854775808 ≤ zs.getD k 0 ∧ zs.getD k 0 ≤ 9223372036854775807) :
    Calls Tryz.prog 15 #[.int .i64 base, .slice A n cap, .int .i64 ev] w fun e w' => (∃ A c, e = .returned (.slice A n c) ∧ n ≤ c ∧ c ≤ 9223372036854775807 ∧ Bats w' A (Rw.go base 0 ev zs) ∧ ∃ qs, BRow w' w.heap.size (.slice A n c) qs ∧ qs.map (·.b) = Rw.go base 0 ev zs) ∧ Below w.heap.size w w' := by
  by_cases h : ev = 0
  · subst h; exact rowZ_any base A cap n zs w hn hn2 hb hA hz
  · exact rowV_any base A cap n ev zs w hn hn2 hb (by omega) hev hA hz
end Go.Proofs.YtcmgppacipdnaaaGreatDoor
