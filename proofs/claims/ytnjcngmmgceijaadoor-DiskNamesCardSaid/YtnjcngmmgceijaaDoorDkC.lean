/-
  The calls of a disk that change names: Create, Remove, Rename.
-/
import Derived.Test.YtnjcngmmgceijaaDoorDkD
namespace Go.Proofs.YtnjcngmmgceijaaDoor
open Go.RowKit Go.Maps

/-- A new file, without a name yet. -/
theorem DiskL.add {w : World} {Bd nb db : Nat} {sv : Value} {ids : List Nat} {row : Nat → Value} {s : Dk.St} {S : Nat → Prop} (h : DiskL w Bd nb db sv ids row s S) (b : Int) (W : World) (hW : W = w.alloc (.cells #[.int .i64 b, .slice none 0 0, .int .i64 0] 67)) :
    DiskL W Bd nb db sv (w.heap.size :: ids) (fun j => if j = w.heap.size then .slice none 0 0 else row j) (s.setFile w.heap.size ⟨b, [], 0⟩) (Up S w W) := by
  have hz : W.heap.size = w.heap.size + 1 := by rw [hW]; simp
  have hb : Below w.heap.size w W := by rw [hW]; exact balloc (Below.refl _ _) _
  have h1 := h.kept (w' := W) fun k _ hk => hb.block k hk
  have lt : ∀ i ∈ ids, i < w.heap.size := fun i hi => (Array.getElem?_eq_some_iff.1 (h.file i hi).box).1
  have hne : ∀ i ∈ ids, i ≠ w.heap.size := fun i hi => by have := lt i hi; omega
  refine { box := h1.box, names := h1.names, dur := h1.dur, ne := h.ne, since := h1.since, nodup := List.nodup_cons.2 ⟨fun hi => hne _ hi rfl, h.nodup⟩, file := fun i hi => ?_, apart := fun i hi j hj hij g hg => ?_, nref := fun k i hk => ?_, dref := fun k i hk => ?_, sref := fun m hm => ?_, calls := h.calls, mBd := .inl h.mBd, mnb := .inl h.mnb, mdb := .inl h.mdb, msv := fun g hg => .inl (h.msv g hg), mid := fun i hi => ?_, mrow := fun i hi g hg => ?_ }
  · by_cases e : i = w.heap.size
    · subst e
      simp only [if_true, Dk.setFile_same]
      exact ⟨by rw [hW]; exact heap_alloc_new _ _, Own.nil _ _, Nat.le_refl _⟩
    · simp only [if_neg e, Dk.setFile_other _ _ _ _ e]
      exact h1.file i ((List.mem_cons.1 hi).resolve_left e)
  · by_cases ei : i = w.heap.size
    · subst ei; simp [Value.ownBlock] at hg
    · simp only [if_neg ei] at hg
      by_cases ej : j = w.heap.size
      · subst ej; simp [Value.ownBlock]
      · simp only [if_neg ej]
        exact h.apart i ((List.mem_cons.1 hi).resolve_left ei) j ((List.mem_cons.1 hj).resolve_left ej) hij g hg
  · obtain ⟨a, b⟩ := h.nref k i hk; exact ⟨List.mem_cons_of_mem _ a, b⟩
  · obtain ⟨a, b⟩ := h.dref k i hk; exact ⟨List.mem_cons_of_mem _ a, b⟩
  · obtain ⟨a, b⟩ := h.sref m hm; exact ⟨fun i e => List.mem_cons_of_mem _ (a i e), b⟩
  · rcases List.mem_cons.1 hi with e | hi
    · subst e; exact .inr (by omega)
    · exact .inl (h.mid i hi)
  · by_cases e : i = w.heap.size
    · subst e; simp [Value.ownBlock] at hg
    · simp only [if_neg e] at hg
      exact .inl (h.mrow i ((List.mem_cons.1 hi).resolve_left e) g hg)

theorem valid_len {k : Dk.Nm} (h : Dk.valid k = true) : k ≠ [] ∧ k.length ≤ 64 := by
  unfold Dk.valid at h
  simp at h
  exact ⟨fun e => by subst e; simp at h, h.1.2⟩

set_option maxRecDepth 100000 in
set_option maxHeartbeats 1000000 in
theorem create_any (Bd : Nat) (s : Dk.St) (S : Nat → Prop) (p : Nat → Addr) (k : Dk.Nm) (w : World) (hs : SentsD w p) (hS : Safe S p) (h : IsDisk w Bd s S) (hft : Dk.Fit s) (hk : k.length ≤ 9223372036854775807) :
    Calls Tryd.prog 12 #[.pointer (some ⟨Bd, 0, none⟩), encStr k] w fun e w' => e = .returned (errR p (s.create k w.heap.size).1) ∧ Next w Bd S (s.create k w.heap.size).2 w' := by
  obtain ⟨nb, db, sv, ids, row, h⟩ := h
  have hBS : ∀ b, b = Bd → S b := fun b e => e ▸ h.mBd
  have HCH := hide (begin_any Bd nb db sv ids row s S p w hs h hft.armed (fun e => hS.g 9 (by omega) (by omega) (show S 4 from e ▸ h.mBd)))
  have hft' := hft.begin
  obtain ⟨r, hr⟩ : ∃ r, r = s.create k w.heap.size := ⟨_, rfl⟩
  rw [← hr]
  unfold Dk.St.create at hr
  have HBS := hide hBS
  have HSE := hide hs
  clear hs h hft hBS
  generalize s.begin = t at *
  cases hd : t.down with
  | true =>
    rw [hd] at hr HCH
    simp only [if_true] at hr HCH
    subst hr
    have hne := fun w' => neq_nilD (p 9) w'
    unfold errV at hne
    clear hft'
    go_enter Tryd.func12, Tryd.ntmps12
    go_wp2_with (first
      | (go_at_call 31; refine HCH.out.mono ?_; rintro e w1 ⟨rfl, hd1, hc1, hz1⟩; have HD1 := hide hd1; have HC1 := hide hc1; clear hd1 hc1; simp only [errR, errV])
      | fail)
    go_ret
    exact ⟨rfl, ⟨_, _, _, _, _, HD1.out.mono up_self⟩, HC1.out.mono HBS.out⟩
  | false =>
    rw [hd] at hr HCH
    simp only [Bool.false_eq_true, if_false] at hr HCH
    have HV := hide (fun W => valid_any k hk W)
    cases hv : Dk.valid k with
    | false =>
      rw [hv] at hr HV
      simp only [if_true] at hr
      subst hr
      clear hft'
      go_enter Tryd.func12, Tryd.ntmps12
      go_wp2_with (first
        | (go_at_call 31; refine HCH.out.mono ?_; rintro e w1 ⟨rfl, hd1, hc1, hz1⟩; have HD1 := hide hd1; have HC1 := hide hc1; have g5 := (HSE.out.chg hS (hc1.mono HBS.out)).c5; clear hd1 hc1; simp only [errR])
        | (go_at_call 32; refine (HV.out _).mono ?_; rintro e w2 ⟨rfl, rfl⟩)
        | fail)
      go_ret
      exact ⟨rfl, ⟨_, _, _, _, _, HD1.out.mono up_self⟩, HC1.out.mono HBS.out⟩
    | true =>
      rw [hv] at hr HV
      simp only [Bool.true_eq_false, if_false] at hr
      obtain ⟨v1, v2⟩ := valid_len hv
      cases hn : t.names k with
      | some i =>
        rw [hn] at hr
        simp only [ne_eq, reduceCtorEq, not_false_eq_true, if_true] at hr
        subst hr
        clear hft'
        go_enter Tryd.func12, Tryd.ntmps12
        go_wp2_with (first
          | (go_at_call 31; refine HCH.out.mono ?_; rintro e w1 ⟨rfl, hd1, hc1, hz1⟩; have HD1 := hide hd1; have HC1 := hide hc1; have g7 := (HSE.out.chg hS (hc1.mono HBS.out)).c7; have c1 : w1.cell? ⟨Bd, 1, none⟩ = some (.map (some nb)) := box_cell hd1.box 1; have hl := hd1.names.look k hk; rw [hn] at hl; clear hd1 hc1; simp only [errR, fileV] at *)
          | (go_at_call 32; refine (HV.out _).mono ?_; rintro e w2 ⟨rfl, rfl⟩)
          | fail)
        go_ret
        exact ⟨rfl, ⟨_, _, _, _, _, HD1.out.mono up_self⟩, HC1.out.mono HBS.out⟩
      | none =>
        rw [hn] at hr
        simp only [ne_eq, not_true_eq_false, if_false] at hr
        subst hr
        have hcb := hft'.calls
        have HCB := hide hcb
        clear hft' hcb
        go_enter Tryd.func12, Tryd.ntmps12
        go_wp2_with (first
          | (go_at_call 31; refine HCH.out.mono ?_; rintro e w1 ⟨rfl, hd1, hc1, hz1⟩; have HD1 := hide hd1; have HC1 := hide hc1; have c1 : w1.cell? ⟨Bd, 1, none⟩ = some (.map (some nb)) := box_cell hd1.box 1; have c5 : w1.cell? ⟨Bd, 5, none⟩ = some (.int .i64 t.calls) := box_cell hd1.box 5; have hl := hd1.names.look k hk; rw [hn] at hl; have HZ1 := hide hz1; have HDO := hide (do_any Bd nb db sv (w1.heap.size :: ids) _ _ _ ⟨[], k, some w1.heap.size⟩ _ (hd1.add t.calls _ rfl) HCB.out.2 (by simp) v2 (fun _ => by simp) (fun i e => by injection e with e; subst e; exact List.mem_cons_self)); clear hd1 hc1 hz1; simp only [errR, fileV] at *)
          | (go_at_call 32; refine (HV.out _).mono ?_; rintro e w2 ⟨rfl, rfl⟩)
          | (go_at_call 33; refine HDO.out.mono ?_; rintro e w3 ⟨rfl, ⟨sv', hd3⟩, hc3⟩)
          | fail)
        go_ret
        have hz := HZ1.out
        have hle : w2.heap.size ≤ (w2.alloc (.cells #[.int .i64 t.calls, .slice none 0 0, .int .i64 0] 67)).heap.size := by simp
        have hle3 := hc3.size
        have hcc : Chg S w2 w3 := Chg.up (Chg.of_below (balloc (Below.refl _ _) _)) hc3
        have hd4 := hd3.mono fun x hx => (show Up S w w3 x from by
          rcases up_up hle hle3 x hx with h | h
          · exact .inl h
          · exact .inr (by omega))
        rw [hz] at hd4
        exact ⟨rfl, ⟨_, _, _, _, _, hd4⟩, (HC1.out.mono HBS.out).then hcc⟩

set_option maxRecDepth 100000 in
set_option maxHeartbeats 1000000 in
theorem remove_any (Bd : Nat) (s : Dk.St) (S : Nat → Prop) (p : Nat → Addr) (k : Dk.Nm) (w : World) (hs : SentsD w p) (hS : Safe S p) (h : IsDisk w Bd s S) (hft : Dk.Fit s) (hk : k.length ≤ 9223372036854775807) :
    Calls Tryd.prog 13 #[.pointer (some ⟨Bd, 0, none⟩), encStr k] w fun e w' => e = .returned (errR p (s.remove k).1) ∧ Next w Bd S (s.remove k).2 w' := by
  obtain ⟨nb, db, sv, ids, row, h⟩ := h
  have hBS : ∀ b, b = Bd → S b := fun b e => e ▸ h.mBd
  have HCH := hide (change_any Bd nb db sv ids row s S p k w hs h hft.armed hk (fun w' hc => hs.chg hS (hc.mono hBS)) (fun e => hS.g 9 (by omega) (by omega) (show S 4 from e ▸ h.mBd)))
  have hft' := hft.begin
  obtain ⟨r, hr⟩ : ∃ r, r = s.remove k := ⟨_, rfl⟩
  rw [← hr]
  unfold Dk.St.remove at hr
  have HBS := hide hBS
  clear hs h hft hBS
  generalize s.begin = t at *
  rcases find_cases t k with ⟨j, hf⟩ | ⟨i, hf, hnm⟩
  · rw [hf] at hr HCH
    simp only at hr HCH
    subst hr
    have hne := fun w' => neq_nilD (p j) w'
    unfold errV at hne
    clear hft'
    go_enter Tryd.func13, Tryd.ntmps13
    go_wp2_with (first
      | (go_at_call 34; refine HCH.out.mono ?_; rintro e w1 ⟨rfl, hd1, hc1, hz1⟩; have HD1 := hide hd1; have HC1 := hide hc1; clear hd1 hc1; simp only [errR, errV, fileV])
      | fail)
    go_ret
    exact ⟨rfl, ⟨_, _, _, _, _, HD1.out.mono up_self⟩, HC1.out.mono HBS.out⟩
  · rw [hf] at hr HCH
    simp only at hr HCH
    subst hr
    have HFT := hide hft'
    have HNM := hide hnm
    have hwu : IntKind.i64.wrap (t.used - ((t.files i).bytes.length : Int)) = t.used - ((t.files i).bytes.length : Int) := IntWalk.i64_in _ (by have := hft'.used; have := hft'.file i; omega)
    clear hft' hnm hf
    go_enter Tryd.func13, Tryd.ntmps13
    go_wp2_with (first
      | (go_at_call 34; refine HCH.out.mono ?_; rintro e w1 ⟨rfl, hd1, hc1, hz1⟩; have HD1 := hide hd1; have HC1 := hide hc1; have HZ1 := hide hz1; obtain ⟨hi, hkn, hkl⟩ := hd1.nref k i HNM.out; have hfi := hd1.file i hi; obtain ⟨A, c, hrv, -⟩ := hfi.row.arg; have hc1' : w1.cell? ⟨i, 1, none⟩ = some (row i) := box_cell hfi.box 1; rw [hrv] at hc1'; have c4 : w1.cell? ⟨Bd, 4, none⟩ = some (.int .i64 t.used) := box_cell hd1.box 4; have f4 := box_free hd1.box 4; have HKL := hide hkl; clear hd1 hc1 hz1 hfi hrv hi hkn hkl; simp only [errR, fileV])
      | fail)
    go_still_tail 10, (by kernel_rfl)
    change wpList _ _ _ _ _ w1.drew
    have HDQ : Hid (DiskL w1.drew Bd nb db sv ids row t S) := hide (HD1.out.kept fun _ _ _ => rfl)
    have HCQ : Hid (Chg (fun b => b = Bd) w w1.drew) := hide ⟨HC1.out.os, HC1.out.tape, HC1.out.output, HC1.out.size, HC1.out.block⟩
    have HZQ : Hid (w1.drew.heap.size = w.heap.size) := hide HZ1.out
    have x4 : w1.drew.frozen? ⟨Bd, 4, none⟩ = false := f4
    clear c4 f4 hc1'
    generalize w1.drew = wq at *
    have hd2 := HDQ.out.set 4 (.int .i64 (t.used - ((t.files i).bytes.length : Int))) { t with used := t.used - ((t.files i).bytes.length : Int) } rfl rfl rfl rfl rfl (Int.le_refl _)
    have HDO := hide (do_any Bd nb db sv ids row _ _ ⟨k, [], none⟩ _ hd2 (by have := HFT.out.calls; show t.calls ≤ _; omega) HKL.out (by simp) (fun h => absurd rfl h) (fun i e => by cases e))
    have hc4 : wq.cell? ⟨Bd, 4, none⟩ = some (.int .i64 t.used) := box_cell HDQ.out.box 4
    clear hd2
    go_wp2_with (first
      | (go_at_call 33; refine HDO.out.mono ?_; rintro e w3 ⟨rfl, ⟨sv', hd3⟩, hc3⟩)
      | fail)
    go_ret
    have hd4 := hd3.mono fun x hx => (show Up S w w3 x from by
      rcases hx with h | h
      · exact .inl h
      · refine .inr ?_
        have := HZQ.out
        simp only [World.size_setCell] at h
        omega)
    exact ⟨rfl, ⟨_, _, _, _, _, hd4⟩, ((HCQ.out.mono HBS.out).then (Chg.setCell _ _ _ _ HDQ.out.mBd)).then hc3⟩
end Go.Proofs.YtnjcngmmgceijaaDoor
