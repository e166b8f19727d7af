/-
  The call of a disk that gives a file another name: Rename.
  The call of a disk that cuts a file: Cut.
-/
import Derived.Test.YtnjcngmmgceijaaDoorDkC
namespace Go.Proofs.YtnjcngmmgceijaaDoor
open Go.RowKit Go.Maps

theorem ptr_facts : ∃ j, Tryd.prog.underlying 63 = some (.pointer 67) ∧ Tryd.prog.info? 67 = some j ∧ j.size ≠ 0 := by
  have h1 : Tryd.prog.underlying 63 = some (.pointer 67) := by kernel_rfl
  have h3 : (Tryd.prog.info? 67).map (·.size) = some 3 := by kernel_rfl
  obtain ⟨j, h6, h7⟩ := Option.map_eq_some_iff.1 h3
  exact ⟨j, h1, h6, by omega⟩
theorem neq_ptr {o i : Nat} (h : o ≠ i) {w : World} {ca cb : Array Value} {ta tb : TypeId} (ha : w.heap[o]? = some (.cells ca ta (0, 0))) (hb : w.heap[i]? = some (.cells cb tb (0, 0))) :
    (binOp .neq 63 (.pointer (some ⟨o, 0, none⟩)) (.pointer (some ⟨i, 0, none⟩))).run Tryd.prog w = .ok (.bool true) w := by
  obtain ⟨j, hp, hte, hsz⟩ := ptr_facts
  have hne : (⟨o, 0, none⟩ : Addr) ≠ ⟨i, 0, none⟩ := fun e => h (by injection e)
  have h : ∀ d : Nat, (Op.equalIn (d + 1) 63 (.pointer (some ⟨o, 0, none⟩)) (.pointer (some ⟨i, 0, none⟩))).run Tryd.prog w = .ok false w := fun d => by
    simp [Op.equalIn, run_underlying hp, sizeOf, typeInfo, hte, hsz, run_sameAddr_other w hne ha hb]
  simp only [binOp]
  simp [Op.equal, Op.maxDepth, h 9999]
theorem neq_ptr_self (i : Nat) (w : World) : (binOp .neq 63 (.pointer (some ⟨i, 0, none⟩)) (.pointer (some ⟨i, 0, none⟩))).run Tryd.prog w = .ok (.bool false) w := by
  obtain ⟨j, hp, hte, hsz⟩ := ptr_facts
  have h : ∀ d : Nat, (Op.equalIn (d + 1) 63 (.pointer (some ⟨i, 0, none⟩)) (.pointer (some ⟨i, 0, none⟩))).run Tryd.prog w = .ok true w := fun d => by
    simp [Op.equalIn, run_underlying hp, sizeOf, typeInfo, hte, run_sameAddr_same]
  simp only [binOp]
  simp [Op.equal, Op.maxDepth, h 9999]

set_option maxRecDepth 100000 in
set_option maxHeartbeats 1000000 in
theorem rename_any (Bd : Nat) (s : Dk.St) (S : Nat → Prop) (p : Nat → Addr) (k to : Dk.Nm) (w : World) (hs : SentsD w p) (hS : Safe S p) (h : IsDisk w Bd s S) (hft : Dk.Fit s) (hk : k.length ≤ 9223372036854775807) (ht : to.length ≤ 9223372036854775807) :
    Calls Tryd.prog 14 #[.pointer (some ⟨Bd, 0, none⟩), encStr k, encStr to] w fun e w' => e = .returned (errR p (s.rename k to).1) ∧ Next w Bd S (s.rename k to).2 w' := by
  obtain ⟨nb, db, sv, ids, row, h⟩ := h
  have hBS : ∀ b, b = Bd → S b := fun b e => e ▸ h.mBd
  have HCH := hide (change_any Bd nb db sv ids row s S p k w hs h hft.armed hk (fun w' hc => hs.chg hS (hc.mono hBS)) (fun e => hS.g 9 (by omega) (by omega) (show S 4 from e ▸ h.mBd)))
  have hft' := hft.begin
  obtain ⟨r, hr⟩ : ∃ r, r = s.rename k to := ⟨_, rfl⟩
  rw [← hr]
  unfold Dk.St.rename at hr
  have HBS := hide hBS
  have HSE := hide hs
  clear hs h hft hBS
  generalize s.begin = t at *
  rcases find_cases t k with ⟨j, hf⟩ | ⟨i, hf, hnm⟩
  · rw [hf] at hr HCH
    simp only at hr HCH
    subst hr
    have hne := fun w' => neq_nilD (p j) w'
    unfold errV at hne
    clear hft'
    go_enter Tryd.func14, Tryd.ntmps14
    go_wp2_with (first
      | (go_at_call 34; refine HCH.out.mono ?_; rintro e w1 ⟨rfl, hd1, hc1, hz1⟩; have HD1 := hide hd1; have HC1 := hide hc1; clear hd1 hc1; simp only [errR, errV, fileV])
      | fail)
    go_ret
    exact ⟨rfl, ⟨_, _, _, _, _, HD1.out.mono up_self⟩, HC1.out.mono HBS.out⟩
  · rw [hf] at hr HCH
    simp only at hr HCH
    have HFT := hide hft'
    have HNM := hide hnm
    have HV := hide (fun W => valid_any to ht W)
    clear hft' hnm hf
    cases hv : Dk.valid to with
    | false =>
      rw [hv] at hr HV
      simp only [if_true] at hr
      subst hr
      go_enter Tryd.func14, Tryd.ntmps14
      go_wp2_with (first
        | (go_at_call 34; refine HCH.out.mono ?_; rintro e w1 ⟨rfl, hd1, hc1, hz1⟩; have HD1 := hide hd1; have HC1 := hide hc1; have g5 := (HSE.out.chg hS (hc1.mono HBS.out)).c5; clear hd1 hc1; simp only [errR, fileV])
        | (go_at_call 32; refine (HV.out _).mono ?_; rintro e w2 ⟨rfl, rfl⟩)
        | fail)
      go_ret
      exact ⟨rfl, ⟨_, _, _, _, _, HD1.out.mono up_self⟩, HC1.out.mono HBS.out⟩
    | true =>
      rw [hv] at hr HV
      simp only [Bool.true_eq_false, if_false] at hr
      obtain ⟨v1, v2⟩ := valid_len hv
      have HT := hide ht
      by_cases hover : ∃ o, t.names to = some o ∧ o ≠ i
      · obtain ⟨o, hn, hoi⟩ := hover
        rw [hn] at hr
        simp only [if_neg hoi] at hr
        subst hr
        have HNO := hide hn
        have HOI := hide hoi
        have hwu : IntKind.i64.wrap (t.used - ((t.files o).bytes.length : Int)) = t.used - ((t.files o).bytes.length : Int) := IntWalk.i64_in _ (by have := HFT.out.used; have := HFT.out.file o; omega)
        clear hn
        go_enter Tryd.func14, Tryd.ntmps14
        go_wp2_with (first
          | (go_at_call 34; refine HCH.out.mono ?_; rintro e w1 ⟨rfl, hd1, hc1, hz1⟩; have HD1 := hide hd1; have HC1 := hide hc1; have HZ1 := hide hz1; obtain ⟨ho, -, -⟩ := hd1.nref to o HNO.out; obtain ⟨hi, -, hkl⟩ := hd1.nref k i HNM.out; have HI := hide hi; have HKL := hide hkl; have hfi := hd1.file o ho; have hnp := neq_ptr HOI.out hfi.box (hd1.file i hi).box; obtain ⟨A, c, hrv, -⟩ := hfi.row.arg; have hc1' : w1.cell? ⟨o, 1, none⟩ = some (row o) := box_cell hfi.box 1; rw [hrv] at hc1'; have c1 : w1.cell? ⟨Bd, 1, none⟩ = some (.map (some nb)) := box_cell hd1.box 1; have c4 : w1.cell? ⟨Bd, 4, none⟩ = some (.int .i64 t.used) := box_cell hd1.box 4; have f4 := box_free hd1.box 4; have hl := hd1.names.look to HT.out; rw [HNO.out] at hl; clear hd1 hc1 hz1 hfi hrv ho hi hkl; simp only [errR, fileV] at *)
          | (go_at_call 32; refine (HV.out _).mono ?_; rintro e w2 ⟨rfl, rfl⟩)
          | fail)
        go_still_tail 10, (by kernel_rfl)
        change wpList _ _ _ _ _ w2.drew
        have HDQ : Hid (DiskL w2.drew Bd nb db sv ids row t S) := hide (HD1.out.kept fun _ _ _ => rfl)
        have HCQ : Hid (Chg (fun b => b = Bd) w w2.drew) := hide ⟨HC1.out.os, HC1.out.tape, HC1.out.output, HC1.out.size, HC1.out.block⟩
        have HZQ : Hid (w2.drew.heap.size = w.heap.size) := hide HZ1.out
        have x4 : w2.drew.frozen? ⟨Bd, 4, none⟩ = false := f4
        clear c1 c4 f4 hc1' hl hnp
        generalize w2.drew = wq at *
        have hd2 := HDQ.out.set 4 (.int .i64 (t.used - ((t.files o).bytes.length : Int))) { t with used := t.used - ((t.files o).bytes.length : Int) } rfl rfl rfl rfl rfl (Int.le_refl _)
        have HDO := hide (do_any Bd nb db sv ids row _ _ ⟨k, to, some i⟩ _ hd2 (by have := HFT.out.calls; show t.calls ≤ _; omega) HKL.out v2 (fun _ => by simp) (fun i' e => by injection e with e; subst e; exact HI.out))
        have hc4 : wq.cell? ⟨Bd, 4, none⟩ = some (.int .i64 t.used) := box_cell HDQ.out.box 4
        clear hd2
        go_wp2_with (first
          | (go_at_call 33; refine HDO.out.mono ?_; rintro e w3 ⟨rfl, ⟨sv', hd3⟩, hc3⟩)
          | fail)
        go_ret
        have hd4 := hd3.mono fun x hx => (show Up S w w3 x from by
          rcases hx with h | h
          · exact .inl h
          · refine .inr ?_
            have := HZQ.out
            simp only [World.size_setCell] at h
            omega)
        exact ⟨rfl, ⟨_, _, _, _, _, hd4⟩, ((HCQ.out.mono HBS.out).then (Chg.setCell _ _ _ _ HDQ.out.mBd)).then hc3⟩
      · rcases hcase : t.names to with _ | o
        · have HNO := hide hcase
          rw [hcase] at hr
          simp only at hr
          subst hr
          clear hover hcase
          go_enter Tryd.func14, Tryd.ntmps14
          go_wp2_with (first
            | (go_at_call 34; refine HCH.out.mono ?_; rintro e w1 ⟨rfl, hd1, hc1, hz1⟩; have HD1 := hide hd1; have HC1 := hide hc1; have HZ1 := hide hz1; obtain ⟨hi, -, hkl⟩ := hd1.nref k i HNM.out; have c1 : w1.cell? ⟨Bd, 1, none⟩ = some (.map (some nb)) := box_cell hd1.box 1; have hl := hd1.names.look to HT.out; rw [HNO.out] at hl; have HDO := hide (do_any Bd nb db sv ids row _ _ ⟨k, to, some i⟩ _ hd1 (by have := HFT.out.calls; show t.calls ≤ _; omega) hkl v2 (fun _ => by simp) (fun i' e => by injection e with e; subst e; exact hi)); clear hd1 hc1 hz1 hi hkl; simp only [errR, fileV] at *)
            | (go_at_call 32; refine (HV.out _).mono ?_; rintro e w2 ⟨rfl, rfl⟩)
            | (go_at_call 33; refine HDO.out.mono ?_; rintro e w3 ⟨rfl, ⟨sv', hd3⟩, hc3⟩)
            | fail)
          go_ret
          have hd4 := hd3.mono fun x hx => (show Up S w w3 x from by
            rcases hx with h | h
            · exact .inl h
            · refine .inr ?_
              have := HZ1.out
              omega)
          exact ⟨rfl, ⟨_, _, _, _, _, hd4⟩, (HC1.out.mono HBS.out).then hc3⟩
        · have HNO := hide hcase
          have ho : o = i := Classical.byContradiction fun e => hover ⟨o, hcase, e⟩
          subst ho
          rw [hcase] at hr
          simp only [if_true] at hr
          subst hr
          clear hover hcase
          have hnp := fun w' => neq_ptr_self o w'
          go_enter Tryd.func14, Tryd.ntmps14
          go_wp2_with (first
            | (go_at_call 34; refine HCH.out.mono ?_; rintro e w1 ⟨rfl, hd1, hc1, hz1⟩; have HD1 := hide hd1; have HC1 := hide hc1; have HZ1 := hide hz1; obtain ⟨hi, -, hkl⟩ := hd1.nref k o HNM.out; have c1 : w1.cell? ⟨Bd, 1, none⟩ = some (.map (some nb)) := box_cell hd1.box 1; have hl := hd1.names.look to HT.out; rw [HNO.out] at hl; have HDO := hide (do_any Bd nb db sv ids row _ _ ⟨k, to, some o⟩ _ hd1 (by have := HFT.out.calls; show t.calls ≤ _; omega) hkl v2 (fun _ => by simp) (fun i' e => by injection e with e; subst e; exact hi)); clear hd1 hc1 hz1 hi hkl; simp only [errR, fileV] at *)
            | (go_at_call 32; refine (HV.out _).mono ?_; rintro e w2 ⟨rfl, rfl⟩)
            | (go_at_call 33; refine HDO.out.mono ?_; rintro e w3 ⟨rfl, ⟨sv', hd3⟩, hc3⟩)
            | fail)
          go_ret
          have hd4 := hd3.mono fun x hx => (show Up S w w3 x from by
            rcases hx with h | h
            · exact .inl h
            · refine .inr ?_
              have := HZ1.out
              omega)
          exact ⟨rfl, ⟨_, _, _, _, _, hd4⟩, (HC1.out.mono HBS.out).then hc3⟩
end Go.Proofs.YtnjcngmmgceijaaDoor

namespace Go.Proofs.YtnjcngmmgceijaaDoor
open Go.RowKit Go.Maps

end Go.Proofs.YtnjcngmmgceijaaDoor
