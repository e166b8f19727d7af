/-
  The call of a disk that cuts a file: Cut.
-/
import Derived.Test.YtnnkgbfeheckjaaDoorDkN
namespace Go.Proofs.YtnnkgbfeheckjaaDoor
open Go.RowKit Go.Maps

set_option maxRecDepth 100000 in
set_option maxHeartbeats 1000000 in
theorem cut_any (Bd : Nat) (s : Dk.St) (S : Nat → Prop) (p : Nat → Addr) (k : Dk.Nm) (n : Int) (w : World) (hs : SentsD w p) (hS : Safe S p) (h : IsDisk w Bd s S) (hft : Dk.Fit s) (hk : k.length ≤ 9223372036854775807) :
    Calls Tryd.prog 32 #[.pointer (some ⟨Bd, 0, none⟩), encStr k, .int .i64 n] w fun e w' => e = .returned (errR p (s.cut k n).1) ∧ Next w Bd S (s.cut k n).2 w' := by
  obtain ⟨nb, db, sv, ids, row, h⟩ := h
  have hBS : ∀ b, b = Bd → S b := fun b e => e ▸ h.mBd
  have HCH := hide (change_any Bd nb db sv ids row s S p k w hs h hft.armed hk (fun w' hc => hs.chg hS (hc.mono hBS)) (fun e => hS.g 9 (by omega) (by omega) (show S 4 from e ▸ h.mBd)))
  have hft' := hft.begin
  obtain ⟨r, hr⟩ : ∃ r, r = s.cut k n := ⟨_, rfl⟩
  rw [← hr]
  unfold Dk.St.cut at hr
  have HBS := hide hBS
  have HSE := hide hs
  clear hs h hft hBS
  generalize s.begin = t at *
  rcases find_cases t k with ⟨j, hf⟩ | ⟨i, hf, hnm⟩
  · rw [hf] at hr HCH
    simp only at hr HCH
    subst hr
    have hne := fun w' => neq_nilD (p j) w'
    unfold errV at hne
    clear hft'
    go_enter Tryd.func32, Tryd.ntmps32
    go_wp2_with (first
      | (go_at_call 39; refine HCH.out.mono ?_; rintro e w1 ⟨rfl, hd1, hc1, hz1⟩; have HD1 := hide hd1; have HC1 := hide hc1; clear hd1 hc1; simp only [errR, errV, fileV])
      | fail)
    go_ret
    exact ⟨rfl, ⟨_, _, _, _, _, HD1.out.mono up_self⟩, HC1.out.mono HBS.out⟩
  · rw [hf] at hr HCH
    simp only at hr HCH
    have HFT := hide hft'
    have HNM := hide hnm
    clear hft' hnm hf
    by_cases h0 : n < 0
    · rw [if_pos (.inl h0)] at hr
      subst hr
      have d0 : decide (n < 0) = true := by simp [h0]
      go_enter Tryd.func32, Tryd.ntmps32
      go_wp2_with (first
        | (go_at_call 39; refine HCH.out.mono ?_; rintro e w1 ⟨rfl, hd1, hc1, hz1⟩; have HD1 := hide hd1; have HC1 := hide hc1; have g4 := (HSE.out.chg hS (hc1.mono HBS.out)).c4; clear hd1 hc1; simp only [errR, fileV])
        | fail)
      go_ret
      exact ⟨rfl, ⟨_, _, _, _, _, HD1.out.mono up_self⟩, HC1.out.mono HBS.out⟩
    · have d0 : decide (n < 0) = false := by simp; omega
      by_cases h1 : ((t.files i).bytes.length : Int) < n
      · rw [if_pos (.inr h1)] at hr
        subst hr
        have d1 : decide (((t.files i).bytes.length : Int) < n) = true := by simp [h1]
        go_enter Tryd.func32, Tryd.ntmps32
        go_wp2_with (first
          | (go_at_call 39; refine HCH.out.mono ?_; rintro e w1 ⟨rfl, hd1, hc1, hz1⟩; have HD1 := hide hd1; have HC1 := hide hc1; have g4 := (HSE.out.chg hS (hc1.mono HBS.out)).c4; obtain ⟨hi, -, -⟩ := hd1.nref k i HNM.out; have hfi := hd1.file i hi; obtain ⟨A, c, hrv, -⟩ := hfi.row.arg; have hc1' : w1.cell? ⟨i, 1, none⟩ = some (row i) := box_cell hfi.box 1; rw [hrv] at hc1'; clear hd1 hc1 hfi hrv hi; simp only [errR, fileV])
          | fail)
        go_ret
        exact ⟨rfl, ⟨_, _, _, _, _, HD1.out.mono up_self⟩, HC1.out.mono HBS.out⟩
      · rw [if_neg (by omega)] at hr
        subst hr
        have d1 : decide (((t.files i).bytes.length : Int) < n) = false := by simp; omega
        obtain ⟨m, rfl⟩ : ∃ m : Nat, n = (m : Int) := ⟨n.toNat, by omega⟩
        have hml : m ≤ (t.files i).bytes.length := by omega
        have d2 : decide ((t.files i).bytes.length < m) = false := by simp; omega
        have hw0 : IntKind.i64.wrap (((t.files i).bytes.length : Int) - (m : Int)) = ((t.files i).bytes.length : Int) - (m : Int) := IntWalk.i64_in _ (by have := HFT.out.file i; omega)
        have hwu : IntKind.i64.wrap (t.used - (((t.files i).bytes.length : Int) - (m : Int))) = t.used - (((t.files i).bytes.length : Int) - (m : Int)) := IntWalk.i64_in _ (by have := HFT.out.used; have := HFT.out.file i; omega)
        have HM := hide hml
        clear h0 h1 hml
        go_enter Tryd.func32, Tryd.ntmps32
        go_wp2_with (first
          | (go_at_call 39; refine HCH.out.mono ?_; rintro e w1 ⟨rfl, hd1, hc1, hz1⟩; have HD1 := hide hd1; have HC1 := hide hc1; have HZ1 := hide hz1; obtain ⟨hi, -, -⟩ := hd1.nref k i HNM.out; have hfi := hd1.file i hi; have HFI := hide hfi; have HI := hide hi; obtain ⟨A, c, hrv, -⟩ := hfi.row.arg; have hc1' : w1.cell? ⟨i, 1, none⟩ = some (row i) := box_cell hfi.box 1; rw [hrv] at hc1'; have c4 : w1.cell? ⟨Bd, 4, none⟩ = some (.int .i64 t.used) := box_cell hd1.box 4; have f4 := box_free hd1.box 4; clear hd1 hc1 hz1 hfi hrv hi; simp only [errR, fileV])
          | fail)
        go_still_tail 12, (by kernel_rfl)
        change wpList _ _ _ _ _ w1.drew
        have HDQ : Hid (DiskL w1.drew Bd nb db sv ids row t S) := hide (HD1.out.kept fun _ _ _ => rfl)
        have HCQ : Hid (Chg (fun b => b = Bd) w w1.drew) := hide ⟨HC1.out.os, HC1.out.tape, HC1.out.output, HC1.out.size, HC1.out.block⟩
        have HZQ : Hid (w1.drew.heap.size = w.heap.size) := hide HZ1.out
        have x4 : w1.drew.frozen? ⟨Bd, 4, none⟩ = false := f4
        clear c4 f4 hc1' HFI
        generalize w1.drew = wq at *
        have hd2 := HDQ.out.set 4 (.int .i64 (t.used - (((t.files i).bytes.length : Int) - (m : Int)))) { t with used := t.used - (((t.files i).bytes.length : Int) - (m : Int)) } rfl rfl rfl rfl rfl (Int.le_refl _)
        have HD2 := hide hd2
        have HKP := hide (keep_any i (row i) (t.files i) m _ (hd2.file i HI.out) HM.out)
        have hc4 : wq.cell? ⟨Bd, 4, none⟩ = some (.int .i64 t.used) := box_cell HDQ.out.box 4
        clear hd2
        go_wp2_with (first
          | (go_at_call 40; refine HKP.out.mono ?_; rintro e w2 ⟨rfl, v', hf2, hv2, hc2, hz2⟩; have HD3 := hide (HD2.out.file_ i HI.out v' _ hf2 (fun b hb hbi _ => hc2.block b hb hbi) (fun g hg => .inl (hv2 g hg)) (by omega)); have c5 : w2.cell? ⟨Bd, 5, none⟩ = some (.int .i64 t.calls) := box_cell HD3.out.box 5; have f5 := box_free HD3.out.box 5; have HC2 := hide hc2; have HZ := hide hz2; have hw5 : IntKind.i64.wrap (t.calls + 1) = t.calls + 1 := IntWalk.i64_in _ (by have := HFT.out.calls; omega); clear hf2 hv2 hc2 hz2)
          | fail)
        go_ret
        refine ⟨rfl, ⟨_, _, _, _, _, (HD3.out.set 5 (.int .i64 (t.calls + 1)) { t.setFile i ((t.files i).keep m) with used := t.used - (((t.files i).bytes.length : Int) - (m : Int)), calls := t.calls + 1 } rfl rfl rfl rfl rfl (by show t.calls ≤ t.calls + 1; omega)).mono fun b hb => .inl (up_same HZ.out b hb)⟩, ?_⟩
        exact (((HCQ.out.mono HBS.out).then (Chg.setCell _ _ _ _ HDQ.out.mBd)).then (HC2.out.mono fun b e => e ▸ HD1.out.mid i HI.out)).then (Chg.setCell _ _ _ _ HD1.out.mBd)
end Go.Proofs.YtnnkgbfeheckjaaDoor
