/-
  The calls of a disk that change a file: Sync, Cut, Append.
-/
import Derived.Test.YtnjcngmmgceijaaDoorDkK
import Derived.Deep.Cut
namespace Go.Proofs.YtnjcngmmgceijaaDoor
open Go.RowKit Go.Maps

/-- None of S's blocks is an error's. -/
structure Safe (S : Nat → Prop) (p : Nat → Addr) : Prop where
  g : ∀ j, 4 ≤ j → j ≤ 9 → ¬ S (gs.getD j 0)
  b : ∀ j, 4 ≤ j → j ≤ 9 → ¬ S (p j).block
theorem SentsOn.chg {S : Nat → Prop} {w w' : World} {p : Nat → Addr} (h : SentsD w p) (hS : Safe S p) (hc : Chg S w w') : SentsD w' p :=
  ⟨fun j hj => hc.cell (h.cell j hj) (hS.g j hj.1 hj.2), fun j hj => by
    obtain ⟨h1, c, t, h2⟩ := h.blk j hj
    exact ⟨Nat.lt_of_lt_of_le h1 hc.size, c, t, (hc.block _ h1 (hS.b j hj.1 hj.2)).trans h2⟩, h.ne⟩
/-- What a call leaves. -/
structure Next (w : World) (Bd : Nat) (S : Nat → Prop) (s' : Dk.St) (w' : World) : Prop where
  disk : IsDisk w' Bd s' (Up S w w')
  chg : Chg S w w'
/-- Numbers that stay within 64 bits. -/
structure Dk.Fit (s : Dk.St) : Prop where
  armed : -9223372036854775808 ≤ s.armed ∧ s.armed ≤ 9223372036854775807
  calls : 0 ≤ s.calls ∧ s.calls ≤ 1099511627776
  used : -1125899906842624 ≤ s.used ∧ s.used ≤ 1125899906842624
  room : 0 ≤ s.room ∧ s.room ≤ 1125899906842624
  file : ∀ i, (s.files i).bytes.length ≤ 1000000000
theorem Dk.Fit.begin {s : Dk.St} (h : Dk.Fit s) : Dk.Fit s.begin := by
  unfold Dk.St.begin
  split
  · exact ⟨by have := h.armed; show _ ≤ s.armed - 1 ∧ s.armed - 1 ≤ _; omega, h.calls, h.used, h.room, h.file⟩
  · exact h
theorem find_cases (t : Dk.St) (k : Dk.Nm) : (∃ j, t.find k = (some j, none)) ∨ ∃ i, t.find k = (none, some i) ∧ t.names k = some i := by
  unfold Dk.St.find
  split
  · exact .inl ⟨9, rfl⟩
  · cases h : t.names k with
    | none => exact .inl ⟨6, rfl⟩
    | some i => exact .inr ⟨i, rfl, rfl⟩

set_option maxRecDepth 100000 in
theorem sync_any (Bd : Nat) (s : Dk.St) (S : Nat → Prop) (p : Nat → Addr) (k : Dk.Nm) (w : World) (hs : SentsD w p) (hS : Safe S p) (h : IsDisk w Bd s S) (hft : Dk.Fit s) (hk : k.length ≤ 9223372036854775807) :
    Calls Tryd.prog 26 #[.pointer (some ⟨Bd, 0, none⟩), encStr k] w fun e w' => e = .returned (errR p (s.sync k).1) ∧ Next w Bd S (s.sync k).2 w' := by
  obtain ⟨nb, db, sv, ids, row, h⟩ := h
  have hBS : ∀ b, b = Bd → S b := fun b e => e ▸ h.mBd
  have HCH := hide (change_any Bd nb db sv ids row s S p k w hs h hft.armed hk (fun w' hc => hs.chg hS (hc.mono hBS)) (fun e => hS.g 9 (by omega) (by omega) (show S 4 from e ▸ h.mBd)))
  have hft' := hft.begin
  obtain ⟨r, hr⟩ : ∃ r, r = s.sync k := ⟨_, rfl⟩
  rw [← hr]
  unfold Dk.St.sync at hr
  have HBS := hide hBS
  clear hs h hft hBS
  generalize s.begin = t at *
  rcases find_cases t k with ⟨j, hf⟩ | ⟨i, hf, hnm⟩
  · rw [hf] at hr HCH
    simp only at hr HCH
    subst hr
    have hne := fun w' => neq_nilD (p j) w'
    unfold errV at hne
    have HFT := hide hft'
    clear hft'
    go_enter Tryd.func26, Tryd.ntmps26
    go_wp2_with (first
      | (go_at_call 34; refine HCH.out.mono ?_; rintro e w1 ⟨rfl, hd1, hc1, hz1⟩; have HD1 := hide hd1; have HC1 := hide hc1; clear hd1 hc1; simp only [errR, errV, fileV])
      | fail)
    go_ret
    exact ⟨rfl, ⟨_, _, _, _, _, HD1.out.mono up_self⟩, HC1.out.mono HBS.out⟩
  · rw [hf] at hr HCH
    simp only at hr HCH
    subst hr
    have HFT := hide hft'
    have HNM := hide hnm
    clear hft' hnm hf
    go_enter Tryd.func26, Tryd.ntmps26
    go_wp2_with (first
      | (go_at_call 34; refine HCH.out.mono ?_; rintro e w1 ⟨rfl, hd1, hc1, hz1⟩; have HD1 := hide hd1; have HC1 := hide hc1; obtain ⟨hi, -, -⟩ := hd1.nref k i HNM.out; have hfi := hd1.file i hi; have HFI := hide hfi; obtain ⟨A, c, hrv, -⟩ := hfi.row.arg; have hc1' : w1.cell? ⟨i, 1, none⟩ = some (row i) := box_cell hfi.box 1; rw [hrv] at hc1'; have HKP := hide (keep_any i (row i) (t.files i) (t.files i).bytes.length w1 hfi (Nat.le_refl _)); have HI := hide hi; clear hd1 hc1 hfi hrv hi; simp only [errR, fileV])
      | (go_at_call 39; refine HKP.out.mono ?_; rintro e w2 ⟨rfl, v', hf2, hv2, hc2, hz2⟩; have HD2 := hide (HD1.out.file_ i HI.out v' _ hf2 (fun b hb hbi _ => hc2.block b hb hbi) (fun g hg => .inl (hv2 g hg)) (by omega)); have c5 : w2.cell? ⟨Bd, 5, none⟩ = some (.int .i64 t.calls) := box_cell HD2.out.box 5; have f5 := box_free HD2.out.box 5; have HC2 := hide hc2; have HZ := hide hz2; have hw5 : IntKind.i64.wrap (t.calls + 1) = t.calls + 1 := IntWalk.i64_in _ (by have := HFT.out.calls; omega); clear hf2 hv2 hc2 hz2)
      | fail)
    go_ret
    refine ⟨rfl, ⟨_, _, _, _, _, (HD2.out.set 5 (.int .i64 (t.calls + 1)) { t.setFile i ((t.files i).keep (t.files i).bytes.length) with calls := t.calls + 1 } rfl rfl rfl rfl rfl (by show t.calls ≤ t.calls + 1; omega)).mono fun b hb => .inl (up_same HZ.out b hb)⟩, ?_⟩
    exact ((HC1.out.mono HBS.out).then (HC2.out.mono fun b e => e ▸ HD1.out.mid i HI.out)).then (Chg.setCell _ _ _ _ HD1.out.mBd)

def LenIs (b : List UInt8) (n : Nat) : Prop := b.length = n
theorem LenIs.out {b : List UInt8} {n : Nat} (h : LenIs b n) : b.length = n := h
theorem Arg.chg {S : Nat → Prop} {w w' : World} {A : Option Addr} {c : Nat} {l : List UInt8} (h : Arg w A c l) (hc : Chg S w w') (hA : ∀ b o, A = some ⟨b, o, none⟩ → l ≠ [] → ¬ S b) : Arg w' A c l := by
  refine ⟨h.le, h.max, h.nil, ?_⟩
  rcases h.reads with e | ⟨b, off, e, hb, hr⟩
  · exact .inl e
  · by_cases hl : l = []
    · exact .inl hl
    · exact .inr ⟨b, off, e, Nat.lt_of_lt_of_le hb hc.size, fun k hk => hc.cell (hr k hk) (hA b off e hl)⟩

set_option maxRecDepth 100000 in
set_option maxHeartbeats 1000000 in
theorem append_any (Bd : Nat) (s : Dk.St) (S : Nat → Prop) (p : Nat → Addr) (k : Dk.Nm) (A : Option Addr) (cb nb_ : Nat) (b : List UInt8) (w : World) (hs : SentsD w p) (hS : Safe S p) (h : IsDisk w Bd s S) (hft : Dk.Fit s) (hk : k.length ≤ 9223372036854775807)
    (hb : Arg w A cb b) (hn : b.length = nb_) (hbl : nb_ ≤ 1000000) (hbS : ∀ x o, A = some ⟨x, o, none⟩ → b ≠ [] → ¬ S x) :
    Calls Tryd.prog 19 #[.pointer (some ⟨Bd, 0, none⟩), encStr k, .slice A nb_ cb] w fun e w' => e = .returned (errR p (s.append k b).1) ∧ Next w Bd S (s.append k b).2 w' := by
  obtain ⟨nb, db, sv, ids, row, h⟩ := h
  have hBS : ∀ b, b = Bd → S b := fun b e => e ▸ h.mBd
  have HCH := hide (change_any Bd nb db sv ids row s S p k w hs h hft.armed hk (fun w' hc => hs.chg hS (hc.mono hBS)) (fun e => hS.g 9 (by omega) (by omega) (show S 4 from e ▸ h.mBd)))
  have hft' := hft.begin
  obtain ⟨r, hr⟩ : ∃ r, r = s.append k b := ⟨_, rfl⟩
  rw [← hr]
  unfold Dk.St.append at hr
  have HBS := hide hBS
  have HSE := hide hs
  have HB := hide hb
  have HN := hide hn
  have HNL : LenIs b nb_ := hn
  have HBX := hide hbS
  clear hs h hft hBS hb hn hbS
  generalize s.begin = t at *
  rcases find_cases t k with ⟨j, hf⟩ | ⟨i, hf, hnm⟩
  · rw [hf] at hr HCH
    simp only at hr HCH
    subst hr
    have hne := fun w' => neq_nilD (p j) w'
    unfold errV at hne
    have HFT := hide hft'
    clear hft'
    go_enter Tryd.func19, Tryd.ntmps19
    go_wp2_with (first
      | (go_at_call 34; refine HCH.out.mono ?_; rintro e w1 ⟨rfl, hd1, hc1, hz1⟩; have HD1 := hide hd1; have HC1 := hide hc1; clear hd1 hc1; simp only [errR, errV, fileV])
      | fail)
    go_ret
    exact ⟨rfl, ⟨_, _, _, _, _, HD1.out.mono up_self⟩, HC1.out.mono HBS.out⟩
  · rw [hf] at hr HCH
    simp only at hr HCH
    have HFT := hide hft'
    have HNM := hide hnm
    have hu := hft'.used
    have hro := hft'.room
    have hw1 : IntKind.i64.wrap (t.room - t.used) = t.room - t.used := IntWalk.i64_in _ (by omega)
    have hw2 : IntKind.i64.wrap (t.calls + 1) = t.calls + 1 := IntWalk.i64_in _ (by have := HFT.out.calls; omega)
    have hw3 : IntKind.i64.wrap (t.used + (nb_ : Int)) = t.used + (nb_ : Int) := IntWalk.i64_in _ (by omega)
    clear hft' hnm hf
    by_cases hfull : t.room - t.used < (nb_ : Int)
    · rw [if_pos (by rw [HN.out]; exact hfull)] at hr
      subst hr
      have d1 : decide (t.room - t.used < (nb_ : Int)) = true := by simp [hfull]
      go_enter Tryd.func19, Tryd.ntmps19
      go_wp2_with (first
        | (go_at_call 34; refine HCH.out.mono ?_; rintro e w1 ⟨rfl, hd1, hc1, hz1⟩; have HD1 := hide hd1; have HC1 := hide hc1; have e0 : w1.cell? ⟨Bd, 0, none⟩ = some (.int .i64 t.room) := box_cell hd1.box 0; have e4 : w1.cell? ⟨Bd, 4, none⟩ = some (.int .i64 t.used) := box_cell hd1.box 4; have g8 := (HSE.out.chg hS (hc1.mono HBS.out)).c8; clear hd1 hc1; simp only [errR, fileV])
        | fail)
      go_quiet (fail)
      go_wp2_with fail
      go_ret
      exact ⟨rfl, ⟨_, _, _, _, _, (HD1.out.drewN nq).mono up_self⟩, HC1.out.mono HBS.out |>.then ⟨rfl, rfl, rfl, Nat.le_refl _, fun _ _ _ => rfl⟩⟩
    · rw [if_neg (by rw [HN.out]; exact hfull)] at hr
      subst hr
      have d1 : decide (t.room - t.used < (nb_ : Int)) = false := by simp; omega
      go_enter Tryd.func19, Tryd.ntmps19
      go_wp2_with (first
        | (go_at_call 34; refine HCH.out.mono ?_; rintro e w1 ⟨rfl, hd1, hc1, hz1⟩; have HD1 := hide hd1; have HC1 := hide hc1; have e0 : w1.cell? ⟨Bd, 0, none⟩ = some (.int .i64 t.room) := box_cell hd1.box 0; have e4 : w1.cell? ⟨Bd, 4, none⟩ = some (.int .i64 t.used) := box_cell hd1.box 4; clear hd1 hc1; simp only [errR, fileV])
        | fail)
      go_quiet (fail)
      obtain ⟨hi, -, -⟩ := HD1.out.nref k i HNM.out
      have hfi := HD1.out.file i hi
      have HFI := hide hfi
      have HI := hide hi
      obtain ⟨A1, c1, hrv, -⟩ := hfi.row.arg
      have hc1' : w1.cell? ⟨i, 1, none⟩ = some (row i) := box_cell hfi.box 1
      rw [hrv] at hc1'
      have HRV := hide hrv
      have HBA := hide (HB.out.chg (HC1.out.mono HBS.out) HBX.out)
      have hcq : (w1.drewN nq).cell? ⟨i, 1, none⟩ = some (.slice A1 (t.files i).bytes.length c1) := hc1'
      have hrow := hfi.row
      rw [hrv] at hrow
      have HRO : Hid (Own (w1.drewN nq) 0 (.slice A1 (t.files i).bytes.length c1) (t.files i).bytes) := hide hrow
      have HRD : Hid (Reads (w1.drewN nq) A b) := hide HBA.out.reads
      have HDQ := hide (HD1.out.drewN nq)
      have HFQ : Hid (FileAt (w1.drewN nq) i (row i) (t.files i)) := hide (hfi.same rfl fun _ _ => rfl)
      have HCQ : Hid (Chg (fun b => b = Bd) w (w1.drewN nq)) := hide ⟨HC1.out.os, HC1.out.tape, HC1.out.output, HC1.out.size, HC1.out.block⟩
      have HZQ : Hid ((w1.drewN nq).heap.size = w.heap.size) := hide hz1
      clear hfi hi hrv hc1' hrow e0 e4 HD1 HC1 hz1 HFI HBA
      generalize w1.drewN nq = wq at *
      have hci : wq.cell? ⟨i, 1, none⟩ = some (.slice A1 (t.files i).bytes.length c1) := hcq
      have hnb : some i ≠ (Value.slice A1 (t.files i).bytes.length c1).ownBlock := fun e => by
        obtain ⟨cur, h2⟩ := ownBlock_lt HRO.out e.symm
        exact types_ne HFQ.out.box h2 (by decide) rfl
      have HNB := hide hnb
      have hfi := box_free HFQ.out.box 1
      have hnd : some Bd ≠ (Value.slice A1 (t.files i).bytes.length c1).ownBlock := fun e => by
        obtain ⟨cur, h2⟩ := ownBlock_lt HRO.out e.symm
        exact types_ne HDQ.out.box h2 (by decide) rfl
      have HND := hide hnd
      have y4 : wq.cell? ⟨Bd, 4, none⟩ = some (.int .i64 t.used) := box_cell HDQ.out.box 4
      have y5 : wq.cell? ⟨Bd, 5, none⟩ = some (.int .i64 t.calls) := box_cell HDQ.out.box 5
      have z4 := box_free HDQ.out.box 4
      have z5 := box_free HDQ.out.box 5
      have hlb : Bd < wq.heap.size := World.block_lt_of_cell? wq _ y4
      have hli : i < wq.heap.size := World.block_lt_of_cell? wq _ hci
      clear hcq hnb hnd
      go_wp2_with (first
        | (at_builtin; refine wpList_app rfl (.tmp 35) (.tmp 36) rfl 0 (.slice A1 (t.files i).bytes.length c1) (t.files i).bytes b rfl HRO.out A nb_ cb rfl HN.out HRD.out (by have := HFT.out.file i; omega) (Nat.zero_le _) ?_; intro v' w2 hown2 hg2 hv2; have HOW := hide hown2; have HG2 := hide hg2; have HV2 := hide hv2; obtain ⟨A', c', rfl, -⟩ := hown2.arg; rw [List.length_append, HN.out] at *; have hci2 := hg2.cell hci HNB.out; have hfi2 : w2.frozen? ⟨i, 1, none⟩ = false := (World.frozen?_of_block (hg2.block i hli HNB.out)).trans hfi; have e4 := hg2.cell y4 HND.out; have e5 := hg2.cell y5 HND.out; have x4 : w2.frozen? ⟨Bd, 4, none⟩ = false := (World.frozen?_of_block (hg2.block Bd hlb HND.out)).trans z4; have x5 : w2.frozen? ⟨Bd, 5, none⟩ = false := (World.frozen?_of_block (hg2.block Bd hlb HND.out)).trans z5; clear hown2 hg2 hv2 hci hfi y4 y5 z4 z5)
        | fail)
      go_ret
      have hbx2 : w2.heap[i]? = some (.cells #[.int .i64 (t.files i).born, row i, .int .i64 ((t.files i).synced : Int)] 67 (0, 0)) := (HG2.out.block i hli HNB.out).trans HFQ.out.box
      have hbx3 := heap_setCell_same w2 i 1 _ _ (.slice A' ((t.files i).bytes.length + nb_) c') hbx2
      have hw3 : FileAt (w2.setCell ⟨i, 1, none⟩ (.slice A' ((t.files i).bytes.length + nb_) c')) i (.slice A' ((t.files i).bytes.length + nb_) c') { t.files i with bytes := (t.files i).bytes ++ b } := by
        refine ⟨hbx3, ownsRow_same HOW.out fun g hg => ?_, by have := HFQ.out.sync; simp; omega⟩
        obtain ⟨cur, h2⟩ := ownBlock_lt HOW.out hg
        exact Below.heap_setCell _ _ _ _ (types_ne h2 hbx2 (by decide))
      have hd3 := HDQ.out.file_ i HI.out _ _ hw3 (fun x hx hxi hxr => by
        rw [Below.heap_setCell _ _ _ _ (by exact hxi)]
        exact HG2.out.block x hx (by rw [HRV.out] at hxr; exact hxr)) (fun g hg => by
        rcases HV2.out with e | e
        · rw [e] at hg; exact .inl (by rw [HRV.out]; exact hg)
        · rw [e] at hg; injection hg with hg; exact .inr (by omega)) (by rw [World.size_setCell]; exact HG2.out.size)
      have hc3 : Chg S wq (w2.setCell ⟨i, 1, none⟩ (.slice A' ((t.files i).bytes.length + nb_) c')) := (Chg.of_grown HG2.out fun g hg => HDQ.out.mrow i HI.out g (by rw [HRV.out]; exact hg)).then (Chg.setCell _ _ _ _ (HDQ.out.mid i HI.out))
      generalize w2.setCell ⟨i, 1, none⟩ (.slice A' ((t.files i).bytes.length + nb_) c') = w3 at *
      have hd4 := (hd3.set 4 (.int .i64 (t.used + nb_)) { t.setFile i { t.files i with bytes := (t.files i).bytes ++ b } with used := t.used + nb_ } rfl rfl rfl rfl rfl (Int.le_refl _)).set 5 (.int .i64 (t.calls + 1)) { t.setFile i { t.files i with bytes := (t.files i).bytes ++ b } with used := t.used + nb_, calls := t.calls + 1 } rfl rfl rfl rfl rfl (by show t.calls ≤ t.calls + 1; omega)
      have hup : ∀ x, Up S wq w3 x → Up S w ((w3.setCell ⟨Bd, 4, none⟩ (.int .i64 (t.used + nb_))).setCell ⟨Bd, 5, none⟩ (.int .i64 (t.calls + 1))) x := fun x hx => by
        rcases hx with hx | hx
        · exact .inl hx
        · refine .inr ?_
          have := HZQ.out
          simp only [World.size_setCell]
          omega
      rw [HNL.out]
      exact ⟨rfl, ⟨_, _, _, _, _, hd4.mono hup⟩, ((((HCQ.out.mono HBS.out).then hc3).then (Chg.setCell _ _ _ _ HDQ.out.mBd)).then (Chg.setCell _ _ _ _ HDQ.out.mBd))⟩
end Go.Proofs.YtnjcngmmgceijaaDoor
