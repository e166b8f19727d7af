/-
  The calls of a disk that change names: Create, Remove, Rename.
  The call of a disk that gives a file another name: Rename.
  The call of a disk that cuts a file: Cut.
  The moves since the names were synced are made durable: settle.
  What a row's reading says of an argument of ints.
  A slice of numbers that came in, as a walk is told of it.
-/
import Derived.Test.YtcmgppacipdnaaaGreatDoorQDkR
import Derived.Test.YtcmgppacipdnaaaGreatDoorQTable
import Derived.Below
import Derived.OpenShut
namespace Go.Proofs.YtcmgppacipdnaaaGreatDoor
open Go.RowKit Go.Maps

/-- A new file, without a name yet. -/
theorem DiskL.add {w : World} {Bd nb db : Nat} {sv : Value} {ids : List Nat} {row : Nat → Value} {s : Dk.St} {S : Nat → Prop} (h : DiskL w Bd nb db sv ids row s S) (b : Int) (W : World) (hW : W = w.alloc (.cells #[.int .i64 b, .slice none 0 0, .int .i64 0] 110)) :
    DiskL W Bd nb db sv (w.heap.size :: ids) (fun j => if j = w.heap.size then .slice none 0 0 else row j) (s.setFile w.heap.size ⟨b, [], 0⟩) (Up S w W) := by
  have hz : W.heap.size = w.heap.size + 1 := by rw [hW]; simp
  have hb : Below w.heap.size w W := by rw [hW]; exact balloc (Below.refl _ _) _
  have h1 := h.kept (w' := W) fun k _ hk => hb.block k hk
  have lt : ∀ i ∈ ids, i < w.heap.size := fun i hi => (Array.getElem?_eq_some_iff.1 (h.file i hi).box).1
  have hne : ∀ i ∈ ids, i ≠ w.heap.size := fun i hi => by have := lt i hi; omega
  refine { box := h1.box, names := h1.names, dur := h1.dur, ne := h.ne, since := h1.since, nodup := List.nodup_cons.2 ⟨fun hi => hne _ hi rfl, h.nodup⟩, file := fun i hi => ?_, apart := fun i hi j hj hij g hg => ?_, nref := fun k i hk => ?_, dref := fun k i hk => ?_, sref := fun m hm => ?_, calls := h.calls, mBd := .inl h.mBd, mnb := .inl h.mnb, mdb := .inl h.mdb, msv := fun g hg => .inl (h.msv g hg), mid := fun i hi => ?_, mrow := fun i hi g hg => ?_ }
  · by_cases e : i = w.heap.size
    · subst e
      simp only [if_true, Dk.setFile_same]
      exact ⟨by rw [hW]; exact heap_alloc_new _ _, Own.nil _ _, Nat.le_refl _⟩
    · simp only [if_neg e, Dk.setFile_other _ _ _ _ e]
      exact h1.file i ((List.mem_cons.1 hi).resolve_left e)
  · by_cases ei : i = w.heap.size
    · subst ei; simp [Value.ownBlock] at hg
    · simp only [if_neg ei] at hg
      by_cases ej : j = w.heap.size
      · subst ej; simp [Value.ownBlock]
      · simp only [if_neg ej]
        exact h.apart i ((List.mem_cons.1 hi).resolve_left ei) j ((List.mem_cons.1 hj).resolve_left ej) hij g hg
  · obtain ⟨a, b⟩ := h.nref k i hk; exact ⟨List.mem_cons_of_mem _ a, b⟩
  · obtain ⟨a, b⟩ := h.dref k i hk; exact ⟨List.mem_cons_of_mem _ a, b⟩
  · obtain ⟨a, b⟩ := h.sref m hm; exact ⟨fun i e => List.mem_cons_of_mem _ (a i e), b⟩
  · rcases List.mem_cons.1 hi with e | hi
    · subst e; exact .inr (by omega)
    · exact .inl (h.mid i hi)
  · by_cases e : i = w.heap.size
    · subst e; simp [Value.ownBlock] at hg
    · simp only [if_neg e] at hg
      exact .inl (h.mrow i ((List.mem_cons.1 hi).resolve_left e) g hg)

theorem valid_len {k : Dk.Nm} (h : Dk.valid k = true) : k ≠ [] ∧ k.length ≤ 64 := by
  unfold Dk.valid at h
  simp at h
  exact ⟨fun e => by subst e; simp at h, h.1.2⟩

set_option maxRecDepth 100000 in
set_option maxHeartbeats 1000000 in
theorem create_any (Bd : Nat) (s : Dk.St) (S : Nat → Prop) (p : Nat → Addr) (k : Dk.Nm) (w : World) (hs : SentsD w p) (hS : Safe S p) (h : IsDisk w Bd s S) (hft : Dk.Fit s) (hk : k.length ≤ 9223372036854775807) :
    Calls Tryz.prog 165 #[.pointer (some ⟨Bd, 0, none⟩), encStr k] w fun e w' => e = .returned (errR p (s.create k w.heap.size).1) ∧ Next w Bd S (s.create k w.heap.size).2 w' := by
  obtain ⟨nb, db, sv, ids, row, h⟩ := h
  have hBS : ∀ b, b = Bd → S b := fun b e => e ▸ h.mBd
  have HCH := hide (begin_any Bd nb db sv ids row s S p w hs h hft.armed (fun e => hS.g 9 (by omega) (by omega) (show S 7 from e ▸ h.mBd)))
  have hft' := hft.begin
  obtain ⟨r, hr⟩ : ∃ r, r = s.create k w.heap.size := ⟨_, rfl⟩
  rw [← hr]
  unfold Dk.St.create at hr
  have HBS := hide hBS
  have HSE := hide hs
  clear hs h hft hBS
  generalize s.begin = t at *
  cases hd : t.down with
  | true =>
    rw [hd] at hr HCH
    simp only [if_true] at hr HCH
    subst hr
    have hne := fun w' => neq_nilD (p 9) w'
    unfold errV at hne
    clear hft'
    go_enter Tryz.func165, Tryz.ntmps165
    go_wp2_with (first
      | (go_at_call 164; refine HCH.out.mono ?_; rintro e w1 ⟨rfl, hd1, hc1, hz1⟩; have HD1 := hide hd1; have HC1 := hide hc1; clear hd1 hc1; simp only [errR, errV])
      | fail)
    go_ret
    exact ⟨rfl, ⟨_, _, _, _, _, HD1.out.mono up_self⟩, HC1.out.mono HBS.out⟩
  | false =>
    rw [hd] at hr HCH
    simp only [Bool.false_eq_true, if_false] at hr HCH
    have HV := hide (fun W => dValid_any k hk W)
    cases hv : Dk.valid k with
    | false =>
      rw [hv] at hr HV
      simp only [if_true] at hr
      subst hr
      clear hft'
      go_enter Tryz.func165, Tryz.ntmps165
      go_wp2_with (first
        | (go_at_call 164; refine HCH.out.mono ?_; rintro e w1 ⟨rfl, hd1, hc1, hz1⟩; have HD1 := hide hd1; have HC1 := hide hc1; have g5 := (HSE.out.chg hS (hc1.mono HBS.out)).c5; clear hd1 hc1; simp only [errR])
        | (go_at_call 192; refine (HV.out _).mono ?_; rintro e w2 ⟨rfl, rfl⟩)
        | fail)
      go_ret
      exact ⟨rfl, ⟨_, _, _, _, _, HD1.out.mono up_self⟩, HC1.out.mono HBS.out⟩
    | true =>
      rw [hv] at hr HV
      simp only [Bool.true_eq_false, if_false] at hr
      obtain ⟨v1, v2⟩ := valid_len hv
      cases hn : t.names k with
      | some i =>
        rw [hn] at hr
        simp only [ne_eq, reduceCtorEq, not_false_eq_true, if_true] at hr
        subst hr
        clear hft'
        go_enter Tryz.func165, Tryz.ntmps165
        go_wp2_with (first
          | (go_at_call 164; refine HCH.out.mono ?_; rintro e w1 ⟨rfl, hd1, hc1, hz1⟩; have HD1 := hide hd1; have HC1 := hide hc1; have g7 := (HSE.out.chg hS (hc1.mono HBS.out)).c7; have c1 : w1.cell? ⟨Bd, 1, none⟩ = some (.map (some nb)) := box_cell hd1.box 1; have hl := hd1.names.look k hk; rw [hn] at hl; clear hd1 hc1; simp only [errR, fileV] at *)
          | (go_at_call 192; refine (HV.out _).mono ?_; rintro e w2 ⟨rfl, rfl⟩)
          | fail)
        go_ret
        exact ⟨rfl, ⟨_, _, _, _, _, HD1.out.mono up_self⟩, HC1.out.mono HBS.out⟩
      | none =>
        rw [hn] at hr
        simp only [ne_eq, not_true_eq_false, if_false] at hr
        subst hr
        have hcb := hft'.calls
        have HCB := hide hcb
        clear hft' hcb
        go_enter Tryz.func165, Tryz.ntmps165
        go_wp2_with (first
          | (go_at_call 164; refine HCH.out.mono ?_; rintro e w1 ⟨rfl, hd1, hc1, hz1⟩; have HD1 := hide hd1; have HC1 := hide hc1; have c1 : w1.cell? ⟨Bd, 1, none⟩ = some (.map (some nb)) := box_cell hd1.box 1; have c5 : w1.cell? ⟨Bd, 5, none⟩ = some (.int .i64 t.calls) := box_cell hd1.box 5; have hl := hd1.names.look k hk; rw [hn] at hl; have HZ1 := hide hz1; have HDO := hide (do_any Bd nb db sv (w1.heap.size :: ids) _ _ _ ⟨[], k, some w1.heap.size⟩ _ (hd1.add t.calls _ rfl) HCB.out.2 (by simp) v2 (fun _ => by simp) (fun i e => by injection e with e; subst e; exact List.mem_cons_self)); clear hd1 hc1 hz1; simp only [errR, fileV] at *)
          | (go_at_call 192; refine (HV.out _).mono ?_; rintro e w2 ⟨rfl, rfl⟩)
          | (go_at_call 191; refine HDO.out.mono ?_; rintro e w3 ⟨rfl, ⟨sv', hd3⟩, hc3⟩)
          | fail)
        go_ret
        have hz := HZ1.out
        have hle : w2.heap.size ≤ (w2.alloc (.cells #[.int .i64 t.calls, .slice none 0 0, .int .i64 0] 110)).heap.size := by simp
        have hle3 := hc3.size
        have hcc : Chg S w2 w3 := Chg.up (Chg.of_below (balloc (Below.refl _ _) _)) hc3
        have hd4 := hd3.mono fun x hx => (show Up S w w3 x from by
          rcases up_up hle hle3 x hx with h | h
          · exact .inl h
          · exact .inr (by omega))
        rw [hz] at hd4
        exact ⟨rfl, ⟨_, _, _, _, _, hd4⟩, (HC1.out.mono HBS.out).then hcc⟩

end Go.Proofs.YtcmgppacipdnaaaGreatDoor

namespace Go.Proofs.YtcmgppacipdnaaaGreatDoor
open Go.RowKit Go.Maps

end Go.Proofs.YtcmgppacipdnaaaGreatDoor

namespace Go.Proofs.YtcmgppacipdnaaaGreatDoor
open Go.RowKit Go.Maps

set_option maxRecDepth 100000 in
set_option maxHeartbeats 1000000 in
theorem cut_any (Bd : Nat) (s : Dk.St) (S : Nat → Prop) (p : Nat → Addr) (k : Dk.Nm) (n : Int) (w : World) (hs : SentsD w p) (hS : Safe S p) (h : IsDisk w Bd s S) (hft : Dk.Fit s) (hk : k.length ≤ 9223372036854775807) :
    Calls Tryz.prog 129 #[.pointer (some ⟨Bd, 0, none⟩), encStr k, .int .i64 n] w fun e w' => e = .returned (errR p (s.cut k n).1) ∧ Next w Bd S (s.cut k n).2 w' := by
  obtain ⟨nb, db, sv, ids, row, h⟩ := h
  have hBS : ∀ b, b = Bd → S b := fun b e => e ▸ h.mBd
  have HCH := hide (change_any Bd nb db sv ids row s S p k w hs h hft.armed hk (fun w' hc => hs.chg hS (hc.mono hBS)) (fun e => hS.g 9 (by omega) (by omega) (show S 7 from e ▸ h.mBd)))
  have hft' := hft.begin
  obtain ⟨r, hr⟩ : ∃ r, r = s.cut k n := ⟨_, rfl⟩
  rw [← hr]
  unfold Dk.St.cut at hr
  have HBS := hide hBS
  have HSE := hide hs
  clear hs h hft hBS
  generalize s.begin = t at *
  rcases find_cases t k with ⟨j, hf⟩ | ⟨i, hf, hnm⟩
  · rw [hf] at hr HCH
    simp only at hr HCH
    subst hr
    have hne := fun w' => neq_nilD (p j) w'
    unfold errV at hne
    clear hft'
    go_enter Tryz.func129, Tryz.ntmps129
    go_wp2_with (first
      | (go_at_call 145; refine HCH.out.mono ?_; rintro e w1 ⟨rfl, hd1, hc1, hz1⟩; have HD1 := hide hd1; have HC1 := hide hc1; clear hd1 hc1; simp only [errR, errV, fileV])
      | fail)
    go_ret
    exact ⟨rfl, ⟨_, _, _, _, _, HD1.out.mono up_self⟩, HC1.out.mono HBS.out⟩
  · rw [hf] at hr HCH
    simp only at hr HCH
    have HFT := hide hft'
    have HNM := hide hnm
    clear hft' hnm hf
    by_cases h0 : n < 0
    · rw [if_pos (.inl h0)] at hr
      subst hr
      have d0 : decide (n < 0) = true := by simp [h0]
      go_enter Tryz.func129, Tryz.ntmps129
      go_wp2_with (first
        | (go_at_call 145; refine HCH.out.mono ?_; rintro e w1 ⟨rfl, hd1, hc1, hz1⟩; have HD1 := hide hd1; have HC1 := hide hc1; have g4 := (HSE.out.chg hS (hc1.mono HBS.out)).c4; clear hd1 hc1; simp only [errR, fileV])
        | fail)
      go_ret
      exact ⟨rfl, ⟨_, _, _, _, _, HD1.out.mono up_self⟩, HC1.out.mono HBS.out⟩
    · have d0 : decide (n < 0) = false := by simp; omega
      by_cases h1 : ((t.files i).bytes.length : Int) < n
      · rw [if_pos (.inr h1)] at hr
        subst hr
        have d1 : decide (((t.files i).bytes.length : Int) < n) = true := by simp [h1]
        go_enter Tryz.func129, Tryz.ntmps129
        go_wp2_with (first
          | (go_at_call 145; refine HCH.out.mono ?_; rintro e w1 ⟨rfl, hd1, hc1, hz1⟩; have HD1 := hide hd1; have HC1 := hide hc1; have g4 := (HSE.out.chg hS (hc1.mono HBS.out)).c4; obtain ⟨hi, -, -⟩ := hd1.nref k i HNM.out; have hfi := hd1.file i hi; obtain ⟨A, c, hrv, -⟩ := hfi.row.arg; have hc1' : w1.cell? ⟨i, 1, none⟩ = some (row i) := box_cell hfi.box 1; rw [hrv] at hc1'; clear hd1 hc1 hfi hrv hi; simp only [errR, fileV])
          | fail)
        go_ret
        exact ⟨rfl, ⟨_, _, _, _, _, HD1.out.mono up_self⟩, HC1.out.mono HBS.out⟩
      · rw [if_neg (by omega)] at hr
        subst hr
        have d1 : decide (((t.files i).bytes.length : Int) < n) = false := by simp; omega
        obtain ⟨m, rfl⟩ : ∃ m : Nat, n = (m : Int) := ⟨n.toNat, by omega⟩
        have hml : m ≤ (t.files i).bytes.length := by omega
        have d2 : decide ((t.files i).bytes.length < m) = false := by simp; omega
        have hw0 : IntKind.i64.wrap (((t.files i).bytes.length : Int) - (m : Int)) = ((t.files i).bytes.length : Int) - (m : Int) := IntWalk.i64_in _ (by have := HFT.out.file i; omega)
        have hwu : IntKind.i64.wrap (t.used - (((t.files i).bytes.length : Int) - (m : Int))) = t.used - (((t.files i).bytes.length : Int) - (m : Int)) := IntWalk.i64_in _ (by have := HFT.out.used; have := HFT.out.file i; omega)
        have HM := hide hml
        clear h0 h1 hml
        go_enter Tryz.func129, Tryz.ntmps129
        go_wp2_with (first
          | (go_at_call 145; refine HCH.out.mono ?_; rintro e w1 ⟨rfl, hd1, hc1, hz1⟩; have HD1 := hide hd1; have HC1 := hide hc1; have HZ1 := hide hz1; obtain ⟨hi, -, -⟩ := hd1.nref k i HNM.out; have hfi := hd1.file i hi; have HFI := hide hfi; have HI := hide hi; obtain ⟨A, c, hrv, -⟩ := hfi.row.arg; have hc1' : w1.cell? ⟨i, 1, none⟩ = some (row i) := box_cell hfi.box 1; rw [hrv] at hc1'; have c4 : w1.cell? ⟨Bd, 4, none⟩ = some (.int .i64 t.used) := box_cell hd1.box 4; have f4 := box_free hd1.box 4; clear hd1 hc1 hz1 hfi hrv hi; simp only [errR, fileV])
          | fail)
        go_still_tail 12, (by kernel_rfl)
        change wpList _ _ _ _ _ w1.drew
        have HDQ : Hid (DiskL w1.drew Bd nb db sv ids row t S) := hide (HD1.out.kept fun _ _ _ => rfl)
        have HCQ : Hid (Chg (fun b => b = Bd) w w1.drew) := hide ⟨HC1.out.os, HC1.out.tape, HC1.out.output, HC1.out.size, HC1.out.block⟩
        have HZQ : Hid (w1.drew.heap.size = w.heap.size) := hide HZ1.out
        have x4 : w1.drew.frozen? ⟨Bd, 4, none⟩ = false := f4
        clear c4 f4 hc1' HFI
        generalize w1.drew = wq at *
        have hd2 := HDQ.out.set 4 (.int .i64 (t.used - (((t.files i).bytes.length : Int) - (m : Int)))) { t with used := t.used - (((t.files i).bytes.length : Int) - (m : Int)) } rfl rfl rfl rfl rfl (Int.le_refl _)
        have HD2 := hide hd2
        have HKP := hide (keep_any i (row i) (t.files i) m _ (hd2.file i HI.out) HM.out)
        have hc4 : wq.cell? ⟨Bd, 4, none⟩ = some (.int .i64 t.used) := box_cell HDQ.out.box 4
        clear hd2
        go_wp2_with (first
          | (go_at_call 70; refine HKP.out.mono ?_; rintro e w2 ⟨rfl, v', hf2, hv2, hc2, hz2⟩; have HD3 := hide (HD2.out.file_ i HI.out v' _ hf2 (fun b hb hbi _ => hc2.block b hb hbi) (fun g hg => .inl (hv2 g hg)) (by omega)); have c5 : w2.cell? ⟨Bd, 5, none⟩ = some (.int .i64 t.calls) := box_cell HD3.out.box 5; have f5 := box_free HD3.out.box 5; have HC2 := hide hc2; have HZ := hide hz2; have hw5 : IntKind.i64.wrap (t.calls + 1) = t.calls + 1 := IntWalk.i64_in _ (by have := HFT.out.calls; omega); clear hf2 hv2 hc2 hz2)
          | fail)
        go_ret
        refine ⟨rfl, ⟨_, _, _, _, _, (HD3.out.set 5 (.int .i64 (t.calls + 1)) { t.setFile i ((t.files i).keep m) with used := t.used - (((t.files i).bytes.length : Int) - (m : Int)), calls := t.calls + 1 } rfl rfl rfl rfl rfl (by show t.calls ≤ t.calls + 1; omega)).mono fun b hb => .inl (up_same HZ.out b hb)⟩, ?_⟩
        exact (((HCQ.out.mono HBS.out).then (Chg.setCell _ _ _ _ HDQ.out.mBd)).then (HC2.out.mono fun b e => e ▸ HD1.out.mid i HI.out)).then (Chg.setCell _ _ _ _ HD1.out.mBd)
end Go.Proofs.YtcmgppacipdnaaaGreatDoor

namespace Go.Proofs.YtcmgppacipdnaaaGreatDoor
open Go.RowKit Go.Maps

theorem mvCells_at : ∀ (ms : List Dk.Mv) (k j : Nat), k < ms.length → j < 3 → (ms.flatMap mvCells)[k * 3 + j]? = (mvCells (ms.getD k default))[j]? := by
  intro ms
  induction ms with
  | nil => intro k j h; simp at h
  | cons m ms ih =>
    intro k j hk hj
    rw [List.flatMap_cons]
    cases k with
    | zero =>
      rw [List.getElem?_append_left (by show 0 * 3 + j < 3; omega)]
      simp
    | succ k =>
      rw [List.getElem?_append_right (by show 3 ≤ _; omega), show (k + 1) * 3 + j - (mvCells m).length = k * 3 + j from by show (k + 1) * 3 + j - 3 = _; omega]
      rw [ih k j (by simp at hk; omega) hj]
      simp
/-- A row of moves, read. -/
structure MvRow (w : World) (A : Option Addr) (c : Nat) (ms : List Dk.Mv) : Prop where
  le : ms.length ≤ c
  max : c ≤ 9223372036854775807
  nil : A = none → c = 0
  get : ∀ k, k < ms.length → ∃ g, A = some ⟨g, 0, none⟩ ∧ w.cell? ⟨g, k * 3, none⟩ = some (encStr (ms.getD k default).frm) ∧ w.cell? ⟨g, k * 3 + 1, none⟩ = some (encStr (ms.getD k default).«to») ∧ w.cell? ⟨g, k * 3 + 2, none⟩ = some (fileV (ms.getD k default).file)
theorem row_read {w : World} {A : Option Addr} {c : Nat} {ms : List Dk.Mv} (h : w.ownsRow 0 157 3 (.slice A ms.length c) ms.length (ms.flatMap mvCells)) : MvRow w A c ms := by
  rcases h.2 with ⟨e, h0⟩ | ⟨g, cap, cur, e, hg, hh, hle, hmax, -, -⟩
  · injection e with e1 e2 e3
    exact ⟨by omega, by omega, fun _ => e3, fun k hk => by omega⟩
  · injection e with e1 e2 e3
    subst e1 e3
    refine ⟨hle, by unfold maxLen at hmax; omega, (fun e => by cases e), fun k hk => ⟨g, rfl, ?_, ?_, ?_⟩⟩
    · rw [h.cellAt (k * 3) (by omega)]; exact mvCells_at ms k 0 hk (by omega)
    · rw [h.cellAt (k * 3 + 1) (by omega)]; exact mvCells_at ms k 1 hk (by omega)
    · rw [h.cellAt (k * 3 + 2) (by omega)]; exact mvCells_at ms k 2 hk (by omega)
theorem ons_step {ms : List Dk.Mv} {k : Nat} (hk : k < ms.length) (f : Dk.Dir) : Dk.ons (ms.take (k + 1)) f = (ms.getD k default).on (Dk.ons (ms.take k) f) := by
  rw [List.take_add_one, List.getElem?_eq_getElem hk, Option.toList_some, Dk.ons_snoc]
  simp [List.getD, hk]

/-- Names lead to files of the disk. -/
def Refs (ids : List Nat) (f : Dk.Dir) : Prop := ∀ k i, f k = some i → i ∈ ids ∧ k ≠ [] ∧ k.length ≤ 64
theorem on_ref {ids : List Nat} {m : Dk.Mv} {f : Dk.Dir} (h : Refs ids f) (hm : ∀ i, m.file = some i → i ∈ ids) (h2 : m.«to».length ≤ 64) : Refs ids (m.on f) := by
  intro k i hk
  have hfr : ∀ k, (if m.frm = [] then f else Dk.upd f m.frm none) k = some i → i ∈ ids ∧ k ≠ [] ∧ k.length ≤ 64 := fun k hk => by
    split at hk
    · exact h k i hk
    · unfold Dk.upd at hk
      split at hk
      · cases hk
      · exact h k i hk
  unfold Dk.Mv.on at hk
  split at hk
  · exact hfr k hk
  · rename_i hto
    unfold Dk.upd at hk
    split at hk
    · rename_i e
      subst e
      exact ⟨hm i hk, hto, h2⟩
    · exact hfr k hk
theorem ons_ref {ids : List Nat} : ∀ (ms : List Dk.Mv) (f : Dk.Dir), Refs ids f → (∀ m ∈ ms, (∀ i, m.file = some i → i ∈ ids) ∧ m.«to».length ≤ 64) → Refs ids (Dk.ons ms f) := by
  intro ms
  induction ms with
  | nil => intro f h _; exact h
  | cons m ms ih => intro f h hm; exact ih (m.on f) (on_ref h (hm m List.mem_cons_self).1 (hm m List.mem_cons_self).2) fun x hx => hm x (List.mem_cons_of_mem _ hx)
theorem fileV_ptr (f : Option Nat) : ∃ q, fileV f = .pointer q := by cases f <;> exact ⟨_, rfl⟩

set_option maxRecDepth 100000 in
set_option maxHeartbeats 1000000 in
theorem settle_any (Bd nb db : Nat) (sv : Value) (ids : List Nat) (row : Nat → Value) (s : Dk.St) (S : Nat → Prop) (n : Nat) (w : World) (h : DiskL w Bd nb db sv ids row s S) (hc : s.calls ≤ 1099511627776) (hn : n ≤ s.since.length) :
    Calls Tryz.prog 66 #[.pointer (some ⟨Bd, 0, none⟩), .int .i64 (n : Int)] w fun e w' => e = .returned (.tuple #[]) ∧ DiskL w' Bd nb db (.slice none 0 0) ids row (s.settle n) S ∧ Chg (fun b => b = Bd ∨ b = db) w w' := by
  obtain ⟨Av, cv, rfl⟩ : ∃ Av cv, sv = .slice Av s.since.length cv := by
    rcases h.since.2 with ⟨e, h0⟩ | ⟨g, cap, cur, e, _⟩
    · exact ⟨none, 0, by rw [e, h0]⟩
    · exact ⟨_, _, e⟩
  have hrd := row_read h.since
  have b3 : w.cell? ⟨Bd, 3, none⟩ = some (.slice Av s.since.length cv) := box_cell h.box 3
  obtain ⟨mm, hdur, hmm⟩ := h.dur
  have hle := hrd.le
  have hmx := hrd.max
  have hA := hrd.nil
  have HR := hide hrd
  have HD := hide h
  have HDU := hide hdur
  have HMM := hide hmm
  have HC := hide hc
  clear h hrd hdur hmm hc
  generalize hL : s.since.length = L at *
  go_enter Tryz.func66, Tryz.ntmps66
  go_wp2_with fail
  go_loopw [13] (fun i wr => ∃ k : Nat, k ≤ n ∧ i = .int .i64 k ∧ NamesAt wr db (mm + k) (Dk.ons (s.since.take k) s.dur) ∧ Chg (fun b => b = db) w wr) (fun i _ => n - (intOf i).toNat)
  case atStart => exact ⟨0, Nat.zero_le _, rfl, HDU.out, Chg.refl _ _⟩
  case round =>
    obtain ⟨k, hk, rfl, hnm, hch⟩ := hrel
    have HNM := hide hnm
    have HCH := hide hch
    have hbx := (HCH.out.block Bd (Array.getElem?_eq_some_iff.1 HD.out.box).1 (fun e => map_ne HDU.out HD.out.box e.symm)).trans HD.out.box
    have HBX := hide hbx
    clear hnm hch hbx
    by_cases hlt : k < n
    · obtain ⟨g, rfl, r0, r1, r2⟩ := HR.out.get k (by omega)
      have hgd : g ≠ db := by
        obtain ⟨cur, h4⟩ := rowBlock_at HD.out.since rfl
        exact fun e => map_ne HDU.out h4 e.symm
      have d0 := HCH.out.cell r0 hgd
      have d1 := HCH.out.cell r1 hgd
      have d2 := HCH.out.cell r2 hgd
      have hmem : s.since.getD k default ∈ s.since := by
        rw [show s.since.getD k default = s.since[k] from by simp [List.getD, show k < s.since.length by omega]]; exact List.getElem_mem _
      obtain ⟨-, x3, x1, x2⟩ := HD.out.sref _ hmem
      have HOS := hide (ons_step (show k < s.since.length by omega) s.dur)
      clear r0 r1 r2 hgd hmem
      generalize s.since.getD k default = m at *
      obtain ⟨q, hq⟩ := fileV_ptr m.file
      rw [hq] at d2
      have HIN : Hid (∀ W, Below wr.heap.size wr W → Calls Tryz.prog 113 #[.agg #[encStr m.frm, encStr m.«to», .pointer q], .map (some db)] W fun e w' => e = .returned (.tuple #[]) ∧ NamesAt w' db (mm + k + 1) (m.on (Dk.ons (s.since.take k) s.dur)) ∧ Chg (fun k => k = db) W w') := hide (fun W hb => by
        have h9 := mvIn_any m db (mm + k) _ W (HNM.out.same (hb.block db HNM.out.lt)) (by have := HMM.out; have := HC.out; omega) x1 x2 x3
        simp only [mvV, hq] at h9
        exact h9)
      clear x1 x2 x3 hq
      obtain ⟨m0, m1, m2⟩ := made3D wr (encStr m.frm) (encStr m.«to») (.pointer q) 157
      have HBW := hide (balloc (Below.refl wr.heap.size wr) (.cells #[encStr m.frm, encStr m.«to», .pointer q] 157))
      go_wp2_with fail
      change Code.wp _ _ _ _ (wr.alloc (.cells #[encStr m.frm, encStr m.«to», .pointer q] 157))
      obtain ⟨W, hW⟩ : ∃ W, W = wr.alloc (.cells #[encStr m.frm, encStr m.«to», .pointer q] 157) := ⟨_, rfl⟩
      rw [← hW] at m0 m1 m2 HBW ⊢
      have e2 : W.cell? ⟨Bd, 2, none⟩ = some (.map (some db)) := box_cell ((HBW.out.block Bd (Array.getElem?_eq_some_iff.1 HBX.out).1).trans HBX.out) 2
      clear hW d0 d1 d2
      go_still_tail 5, (by kernel_rfl)
      change wpList _ _ _ _ _ W.drew
      have HIW := hide (HIN.out W.drew ⟨HBW.out.os, HBW.out.tape, HBW.out.output, HBW.out.size, HBW.out.block⟩)
      have HCW : Hid (Chg (fun b => b = db) wr W.drew) := hide (Chg.of_below ⟨HBW.out.os, HBW.out.tape, HBW.out.output, HBW.out.size, HBW.out.block⟩)
      go_wp2_with (first
        | (go_at_call 113; refine HIW.out.mono ?_; rintro e w2 ⟨rfl, hn2, hc2⟩)
        | fail)
      have HN2 := hide hn2
      have HC2 := hide hc2
      clear hn2 hc2
      go_roundw
      case rel => exact ⟨k + 1, by omega, by go_num, by rw [HOS.out]; exact HN2.out, (HCH.out.then HCW.out).then HC2.out⟩
      case measure => simp [intOf]; omega
    · obtain rfl : k = n := by omega
      have z3 : wr.cell? ⟨Bd, 3, none⟩ = some (.slice Av L cv) := box_cell HBX.out 3
      have f3 := box_free HBX.out 3
      go_wp2_with fail
      go_end0
      have hb3 := heap_setCell_same wr Bd 3 _ _ (.slice none 0 0) HBX.out
      have ho3 : ∀ j, j ≠ Bd → (wr.setCell ⟨Bd, 3, none⟩ (.slice none 0 0)).heap[j]? = wr.heap[j]? := fun j hj => Below.heap_setCell _ _ _ _ (by exact hj)
      have hcS : Chg (fun b => b = Bd ∨ b = db) w (wr.setCell ⟨Bd, 3, none⟩ (.slice none 0 0)) := (HCH.out.mono fun b e => .inr e).then (Chg.setCell _ _ _ _ (.inl rfl))
      have HCS := hide hcS
      generalize wr.setCell ⟨Bd, 3, none⟩ (.slice none 0 0) = w5 at *
      have lt : ∀ {j : Nat} {o : Obj}, w.heap[j]? = some o → j < w.heap.size := fun h => (Array.getElem?_eq_some_iff.1 h).1
      have kcell : ∀ {j : Nat} {c : Array Value} {t : TypeId}, w.heap[j]? = some (.cells c t (0, 0)) → t ≠ 100 → w5.heap[j]? = w.heap[j]? := fun {j c t} h1 h2 =>
        HCS.out.block j (lt h1) fun e => by
          rcases e with e | e
          · exact types_ne h1 HD.out.box h2 e
          · exact map_ne HDU.out h1 e.symm
      refine ⟨rfl, HD.out.turn (s' := s.settle k) (S' := S) (by rw [hb3]; rfl) ?_ ⟨mm + k, ?_, ?_⟩ (World.ownsRow_nil _ _ _ _) rfl ?_ HD.out.nref ?_ ?_ HD.out.calls ?_ (fun _ h => h), HCS.out⟩
      · exact HD.out.names.same (HCS.out.block nb HD.out.names.lt fun e => by
          rcases e with e | e
          · exact map_ne HD.out.names HD.out.box e
          · exact HD.out.ne e)
      · exact HNM.out.same (ho3 db (map_ne HDU.out HD.out.box))
      · show mm + k + 0 ≤ s.calls.toNat
        have := HMM.out
        omega
      · intro i hi
        have hfi := HD.out.file i hi
        refine ⟨kcell hfi.box (by decide), fun g hg => ?_⟩
        obtain ⟨cur, h4⟩ := ownBlock_lt hfi.row hg
        exact kcell h4 (by decide)
      · exact ons_ref _ _ HD.out.dref fun m hm => ⟨(HD.out.sref m (List.mem_of_mem_take hm)).1, (HD.out.sref m (List.mem_of_mem_take hm)).2.2.2⟩
      · intro m hm
        cases hm
      · intro g hg
        cases hg
end Go.Proofs.YtcmgppacipdnaaaGreatDoor

namespace Go.Proofs.YtcmgppacipdnaaaGreatDoor
open Go.RowKit Go.ChangeShapes Go.WideShapes Go.ChangeAt

/-- A slice that reads as these ints. -/
def Ints (w : World) (A : Option Addr) (zs : List Int) : Prop :=
  zs = [] ∨ ∃ b off, A = some ⟨b, off, none⟩ ∧ b < w.heap.size ∧ ∀ k, k < zs.length → w.cell? ⟨b, off + k, none⟩ = some (.int .i64 (zs.getD k 0))
theorem Ints.below {w w' : World} {C : Nat} {A : Option Addr} {zs : List Int} (h : Ints w A zs) (hb : Below C w w') (hC : w.heap.size ≤ C) : Ints w' A zs := by
  rcases h with h | ⟨b, off, e, hlt, hc⟩
  · exact .inl h
  · exact .inr ⟨b, off, e, by have := hb.size; omega, fun k hk => (hb.cell (p := ⟨b, off + k, none⟩) (by show b < C; omega)).trans (hc k hk)⟩
theorem cells_int : Tryz.prog.cellsOf 3 = 1 := by kernel_rfl
theorem ints_of {H : Type} {enc : TypeId × Value → H} {W : World} {base : Nat} {spare : Nat → Bool} {held : Bool} {a : Option Addr} {len cap : Nat} {d : DataW H} {p : List MemPlace}
    (h : DataW.Trod enc Tryz.prog W base spare held 22 (.slice a len cap) d p) : ∃ zs : List Int, zs.length = len ∧ len ≤ cap ∧ cap ≤ 9223372036854775807 ∧ Ints W a zs ∧ ∀ k, k < len → -9223372036854775808 ≤ zs.getD k 0 ∧ zs.getD k 0 ≤ 9223372036854775807 := by
  obtain ⟨fuel, hf⟩ := h
  rcases open_ints Tryz.underlying22 Tryz.underlying3 cells_int hf with ⟨hcs, _⟩ | ⟨x, l, c, zs, hcs, _, hl, hm, hz, _, hcell, hwz⟩
  · simp [Value.cells] at hcs
    obtain ⟨rfl, rfl, rfl⟩ := hcs
    exact ⟨[], rfl, Nat.le_refl _, by omega, .inl rfl, fun k hk => by omega⟩
  · simp [Value.cells] at hcs
    obtain ⟨rfl, rfl, rfl⟩ := hcs
    have hzl : len ≤ zs.length := by split at hz <;> omega
    have e : ∀ k, k < len → (zs.take len).getD k 0 = zs.getD k 0 := fun k hk => by simp [List.getD, hk]
    refine ⟨zs.take len, by simp; omega, hl, by simpa [maxLen] using hm, ?_, fun k hk => ?_⟩
    · by_cases h0 : len = 0
      · subst h0; exact .inl (by simp)
      · obtain ⟨b, off, spot⟩ := x
        have hc := hcell 0 (by omega)
        have hspot : spot = none := by simpa [Addr.add] using World.cell?_spot hc
        subst hspot
        refine .inr ⟨b, off, rfl, ?_, fun k hk => ?_⟩
        · rcases Nat.lt_or_ge b W.heap.size with h | h
          · exact h
          · exfalso
            simp [World.cell?, Addr.add, Array.getElem?_eq_none h] at hc
        · have hk' : k < len := by simp at hk; omega
          have hck := hcell k (by omega)
          rw [Addr.add_lit] at hck
          rw [hck, e k hk']
    · rw [e k hk]
      have hmem : zs.getD k 0 ∈ zs := by
        simp only [List.getD, List.getElem?_eq_getElem (show k < zs.length by omega), Option.getD_some]
        exact List.getElem_mem _
      exact bounds_i64 (hwz _ hmem)
end Go.Proofs.YtcmgppacipdnaaaGreatDoor

namespace Go.Proofs.YtcmgppacipdnaaaGreatDoor
open Go.RowKit Go.ChangeShapes Go.WideShapes Go.ChangeAt

/-- Numbers that are read from a row. -/
structure IntsArg (w : World) (A : Option Addr) (c : Nat) (zs : List Int) : Prop where
  le : zs.length ≤ c
  max : c ≤ 9223372036854775807
  nil : A = none → c = 0
  get : ∀ j, j < zs.length → ∃ b off, A = some ⟨b, off, none⟩ ∧ w.cell? ⟨b, off + j, none⟩ = some (.int .i64 (zs.getD j 0))
  fit : ∀ z ∈ zs, -9223372036854775808 ≤ z ∧ z ≤ 9223372036854775807

theorem IntsArg.below {w w' : World} {C : Nat} {A : Option Addr} {c : Nat} {zs : List Int} (h : IntsArg w A c zs) (hb : Below C w w') (hC : w.heap.size ≤ C) : IntsArg w' A c zs :=
  ⟨h.le, h.max, h.nil, fun j hj => by
    obtain ⟨b, off, e, hc⟩ := h.get j hj
    refine ⟨b, off, e, (hb.cell (p := ⟨b, off + j, none⟩) ?_).trans hc⟩
    show b < C
    rcases Nat.lt_or_ge b w.heap.size with h1 | h1
    · omega
    · exfalso
      simp [World.cell?, Array.getElem?_eq_none h1] at hc, h.fit⟩
theorem IntsArg.lt {w : World} {A : Option Addr} {c : Nat} {zs : List Int} (h : IntsArg w A c zs) (x o : Nat) (e : A = some ⟨x, o, none⟩) (hz : zs ≠ []) : x < w.heap.size := by
  obtain ⟨b, off, e', hc⟩ := h.get 0 (List.length_pos_iff.2 hz)
  rw [e] at e'
  cases e'
  rcases Nat.lt_or_ge x w.heap.size with h1 | h1
  · exact h1
  · exfalso
    simp [World.cell?, Array.getElem?_eq_none h1] at hc
theorem Arg.lt {w : World} {A : Option Addr} {c : Nat} {l : List UInt8} (h : Arg w A c l) (x o : Nat) (e : A = some ⟨x, o, none⟩) (hl : l ≠ []) : x < w.heap.size := by
  rcases h.reads with h1 | ⟨b, off, h1, h2, -⟩
  · exact absurd h1 hl
  · rw [h1] at e; cases e; exact h2
end Go.Proofs.YtcmgppacipdnaaaGreatDoor
