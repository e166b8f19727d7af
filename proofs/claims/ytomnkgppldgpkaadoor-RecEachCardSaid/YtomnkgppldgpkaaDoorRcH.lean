/-
  The closure that rec's Each hands back: the records, with their offsets, in their order, each with bytes of its own.
-/
import Derived.Test.YtomnkgppldgpkaaDoorRcG
import Derived.RangeFuncNested
import Derived.RangeFuncBound
import Derived.RangeFuncCalls
import Derived.RangeFuncLeaves
import Derived.Shelf.Abstract
import Derived.Shelf.RegionOpen
import Derived.OwnWalkIn
import Derived.TacticsInMore
import Derived.LoopNIn
import Derived.LoopIn
import Derived.Sort.CutIn
import Derived.BigRegionIn
import Derived.Stop.RegionWithIn
namespace Go.Proofs.YtomnkgppldgpkaaDoor
open Go.RowKit Go.Shelf
attribute [local go_sem] Oper.semAt_some

/-- What a round is handed: which record, and where its bytes lie. -/
structure Yl where
  k : Nat
  A : Option Addr
  ca : Nat
  B : Option Addr
  cb : Nat
def Yl.vals (FL : List (Int × Rc.Rec)) (x : Yl) : Array Value :=
  #[.int .i64 (FL.getD x.k default).1, recV (FL.getD x.k default).2.t x.A (FL.getD x.k default).2.k.length x.ca x.B (FL.getD x.k default).2.v.length x.cb]
/-- .. and what lies there. -/
structure Yl.At (FL : List (Int × Rc.Rec)) (lo : Nat) (pre : List Yl) (x : Yl) (W : World) : Prop where
  k : x.k = pre.length
  key : Arg W x.A x.ca (FL.getD x.k default).2.k
  val : Arg W x.B x.cb (FL.getD x.k default).2.v
  fk : Free W lo x.A (FL.getD x.k default).2.k
  fv : Free W lo x.B (FL.getD x.k default).2.v
/-- So many have come, in their order. -/
def Came (pre : List Yl) : Prop := ∀ j (h : j < pre.length), pre[j].k = j

theorem Came.snoc {pre : List Yl} (h : Came pre) (x : Yl) (hx : x.k = pre.length) : Came (pre ++ [x]) := by
  intro j hj
  by_cases e : j < pre.length
  · rw [List.getElem_append_left e]; exact h j e
  · rw [List.length_append, List.length_singleton] at hj
    rw [List.getElem_append_right (by omega), List.getElem_singleton, hx]; omega

set_option maxRecDepth 100000 in
set_option maxHeartbeats 2000000 in
theorem each_in (bs : List Rc.Bat) (n l g Bn Bi lo B nb : Nat) (hn : 1 ≤ n) (hnb : bs.length = nb) (hl : nb ≤ 1000) (hsm : ∀ b ∈ bs, (0 ≤ b.base ∧ b.base ≤ 1000000000000000) ∧ b.recs.length ≤ 1000 ∧ ∀ r ∈ b.recs, r.k.length ≤ 1000000 ∧ r.v.length ≤ 1000000)
    (hlo : Bi < lo) (hBn : Bn ≠ Bi) (w0 W : World) (hw0 : w0.heap.size = B) (hf : FarBats w0 lo g bs) (hc : w0.cell? ⟨Bn, 0, none⟩ = some (.slice (some ⟨g, 0, none⟩) nb nb)) (hk : Kpt Bi B w0 W) (J Jx : List Yl → World → Prop)
    (hJ : ∀ s A A', J s A → Below A.heap.size A A' → J s A')
    (hY : ∀ pre x W1, J pre W1 → Yl.At (Rc.flat bs) B pre x W1 → pre.length < (Rc.flat bs).length → YieldAt Fence.wide (n - 1) Tryd.prog l (Yl.vals (Rc.flat bs) x) W1 fun e W' =>
      (e = .returned (.bool true) ∧ J (pre ++ [x]) W' ∧ Kpt Bi B W1 W') ∨ (e = .returned (.bool false) ∧ Jx (pre ++ [x]) W'))
    (h0 : J [] W) :
    CallsIn Fence.wide n Tryd.prog 32 #[.func (.yield l) #[] #[], .pointer (some ⟨Bn, 0, none⟩)] W fun e W' => (∃ v, e = .returned v) ∧ ((∃ xs, (Came xs ∧ xs.length = (Rc.flat bs).length) ∧ J xs W') ∨ (∃ pre, (Came pre ∧ pre.length ≤ (Rc.flat bs).length) ∧ Jx pre W')) := by
  have HN := hide hnb
  have HSM := hide hsm
  have HF := hide hf
  have HJ := hide hJ
  have HY := hide hY
  have HW0 := hide hw0
  have HC := hide hc
  have HK := hide hk
  have hcW := hk.cell _ _ _ hc hBn (.inl (by have := cell_below hc; omega))
  clear hnb hsm hf hJ hY hw0 hc hk
  refine callsIn_of_wp Tryd.func32 rfl trivial ?_ rfl
  simp only [Tryd.ntmps32, List.size_toArray, List.length_cons, List.length_nil, Nat.reduceAdd, Nat.reduceSub, Array.replicate_succ, Array.replicate_zero, List.push_toArray, List.append_toArray, List.nil_append, List.cons_append]
  gi_wp2
  gi_loopw [9] (fun i wr => ∃ (k : Nat) (pre : List Yl), k ≤ nb ∧ i = .int .i64 k ∧ pre.length = Rc.upto bs k ∧ Came pre ∧ J pre wr ∧ Kpt Bi B w0 wr) (fun i _ => nb - (intOf i).toNat)
  case atStart => exact ⟨0, [], Nat.zero_le _, rfl, by rw [Rc.upto_zero]; rfl, fun j h => by simp at h, h0, HK.out⟩
  case round =>
    obtain ⟨k, pre, hk, rfl, hpl, hcm, hJs, hkp⟩ := hrel
    have HPL := hide hpl
    have HCM := hide hcm
    have HKP := hide hkp
    clear hpl hcm hkp
    by_cases hlt : k < nb
    · have hkb : k < bs.length := by have := HN.out; omega
      obtain ⟨Ab, cb, c0', c1', c2', hfr0⟩ := HF.out.el k hkb
      have hgi : g ≠ Bi := by have := HF.out.at_; omega
      have hgB : g < B := by have := HF.out.lt; have := HW0.out; omega
      have c0 := HKP.out.cell _ _ _ c0' hgi (.inl hgB)
      have c1 := HKP.out.cell _ _ _ c1' hgi (.inl hgB)
      have c2 := HKP.out.cell _ _ _ c2' hgi (.inl hgB)
      clear c0' c1' c2'
      have hmem : bs.getD k default ∈ bs := by rw [show bs.getD k default = bs[k] from by simp [List.getD, hkb]]; exact List.getElem_mem hkb
      have hs2 := HSM.out _ hmem
      have HFA := hide (fun i (hi : i < (bs.getD k default).recs.length) => Rc.flat_at bs k i hkb hi)
      have HUL := hide (fun i (hi : i < (bs.getD k default).recs.length) => Rc.upto_lt bs k i hkb hi)
      have HUS := hide (Rc.upto_succ bs k hkb)
      have HFR := hide hfr0
      clear hfr0 hmem
      generalize bs.getD k default = b at *
      have ebn : ∃ bn, bn = b.recs.length := ⟨_, rfl⟩
      obtain ⟨bn, hbn⟩ := ebn
      have HBN := hide hbn
      rw [← hbn] at c2 HUS
      clear hbn
      have hqB : B ≤ wr.heap.size := by have := HKP.out.size; have := HW0.out; omega
      have hqi : wr.heap.size ≠ Bi := by have := HF.out.at_; have := HF.out.lt; have := HW0.out; omega
      obtain ⟨m0, m1, m2⟩ := made3 wr (.int .i64 b.base) (.int .i64 b.epoch) (.slice Ab bn cb) 26
      have hba : Below wr.heap.size wr (wr.alloc (.cells #[.int .i64 b.base, .int .i64 b.epoch, .slice Ab bn cb] 26)) := balloc (Below.refl _ _) _
      have HJ2 := hide (HJ.out _ _ _ hJs hba)
      have HKP2 := hide (HKP.out.trans (Kpt.of_below hba (Nat.le_refl _)))
      have M0 := hide m0
      clear hba HKP hJs
      gi_upto_region 6 with fail
      generalize wr.alloc (.cells #[.int .i64 b.base, .int .i64 b.epoch, .slice Ab bn cb] 26) = wa at *
      generalize wr.heap.size = q at *
      clear m0 m1 m2
      gi_loopw [16] (fun i wi => ∃ (j : Nat) (pre : List Yl), j ≤ bn ∧ i = .int .i64 j ∧ pre.length = Rc.upto bs k + j ∧ Came pre ∧ J pre wi ∧ Kpt Bi B w0 wi ∧ wi.cell? ⟨q, 0, none⟩ = some (.int .i64 b.base)) (fun i _ => bn - (intOf i).toNat)
      case atStart => exact ⟨0, pre, Nat.zero_le _, rfl, by rw [HPL.out]; rfl, HCM.out, HJ2.out, HKP2.out, M0.out⟩
      case round =>
        obtain ⟨j, pre2, hj, rfl, hpl2, hcm2, hJ2, hkp2, hq0⟩ := hrel
        have HPL2 := hide hpl2
        have HCM2 := hide hcm2
        have HKP3 := hide hkp2
        clear hpl2 hcm2 hkp2
        by_cases hjl : j < bn
        · have hjr : j < b.recs.length := by have := HBN.out; omega
          have hfi := HFR.out.kpt HKP3.out (by have := HW0.out; omega) hlo
          rcases hfi with e0 | ⟨bb, off, rfl, hbl, hbs, hrc⟩
          · rw [e0] at hjr; simp at hjr
          obtain ⟨Ak, ck, Av, cv, e0, e1, e2, ha, hv, _, _⟩ := (hrc j hjr).ex
          have hmem : b.recs.getD j default ∈ b.recs := by rw [show b.recs.getD j default = b.recs[j] from by simp [List.getD, hjr]]; exact List.getElem_mem hjr
          have hs3 := hs2.2.2 _ hmem
          have HFL := hide (HFA.out j hjr)
          have HLT := hide (HUL.out j hjr)
          have HAK := hide ha
          have HAV := hide hv
          clear hrc ha hv hmem
          generalize b.recs.getD j default = r at *
          obtain ⟨rt, rk, rv⟩ := r
          simp only at e0 e1 e2 hs3 HAK HAV
          gi_upto_region 6 with fail
          obtain ⟨m0, m1, m2⟩ := made3 wr (.int .i64 rt) (.slice Ak rk.length ck) (.slice Av rv.length cv) 48
          have hbb : Below wr.heap.size wr (wr.alloc (.cells #[.int .i64 rt, .slice Ak rk.length ck, .slice Av rv.length cv] 48)) := balloc (Below.refl _ _) _
          have HJ3 := hide (HJ.out _ _ _ hJ2 hbb)
          have HK3 := hide (HKP3.out.trans (Kpt.of_below hbb (Nat.le_refl _)))
          have HCR := hide (fun W (hw : Below (wr.alloc (.cells #[.int .i64 rt, .slice Ak rk.length ck, .slice Av rv.length cv] 48)).heap.size (wr.alloc (.cells #[.int .i64 rt, .slice Ak rk.length ck, .slice Av rv.length cv] 48)) W) => cloneRecord_free rt rk rv Ak Av ck cv rk.length rv.length W rfl rfl hs3.1 hs3.2 ((HAK.out.below hbb (Nat.le_refl _)).below hw (Nat.le_refl _)) ((HAV.out.below hbb (Nat.le_refl _)).below hw (Nat.le_refl _)))
          have hq1 : q < wr.heap.size := cell_below hq0
          have hq3 := (hbb.cell (p := ⟨q, 0, none⟩) hq1).trans hq0
          have hwl : (wr.alloc (.cells #[.int .i64 rt, .slice Ak rk.length ck, .slice Av rv.length cv] 48)).heap.size = wr.heap.size + 1 := by simp
          clear hbb HAK HAV HKP3 hJ2 e0 e1 e2
          generalize wr.alloc (.cells #[.int .i64 rt, .slice Ak rk.length ck, .slice Av rv.length cv] 48) = wb at *
          generalize wr.heap.size = q2 at *
          have hfst : Below wb.heap.size wb wb.drew := (Below.refl _ _).drew
          have hwrp : IntKind.i64.wrap (b.base + (j : Int)) = b.base + (j : Int) := IntWalk.i64_in _ (by have := hs2.1; have := hs2.2.1; omega)
          have HYY := hide (fun (w7 : World) (A7 : Option Addr) (c1 : Nat) (B7 : Option Addr) (c2 : Nat) (hb : Below wb.heap.size wb w7) (ha : Arg w7 A7 c1 rk) (hv : Arg w7 B7 c2 rv) (fa : Free w7 wb.heap.size A7 rk) (fb : Free w7 wb.heap.size B7 rv) =>
            (show YieldAt Fence.wide (n - 1) Tryd.prog l #[.int .i64 (b.base + (j : Int)), recV rt A7 rk.length c1 B7 rv.length c2] w7 (fun e W' => ∃ v : Bool, e = .returned (.bool v) ∧ Hid ((v = true ∧ J (pre2 ++ [⟨Rc.upto bs k + j, A7, c1, B7, c2⟩]) W' ∧ Kpt Bi B w7 W') ∨ (v = false ∧ Jx (pre2 ++ [⟨Rc.upto bs k + j, A7, c1, B7, c2⟩]) W'))) from by
              have hfl := HFL.out
              have h := HY.out pre2 ⟨Rc.upto bs k + j, A7, c1, B7, c2⟩ w7 (HJ.out _ _ _ HJ3.out hb) ⟨HPL2.out.symm, by rw [hfl]; exact ha, by rw [hfl]; exact hv, by rw [hfl]; exact fa.mono (by omega), by rw [hfl]; exact fb.mono (by omega)⟩ (by rw [HPL2.out]; exact HLT.out)
              unfold Yl.vals at h
              simp only [hfl] at h
              obtain ⟨fn, tmps, asg, body, hy, hR⟩ := h
              refine ⟨fn, tmps, asg, body, hy, hR.mono ?_⟩
              rintro e W3 (⟨rfl, hJ3, hk3⟩ | ⟨rfl, hJx3⟩)
              · exact ⟨true, rfl, hide (.inl ⟨rfl, hJ3, hk3⟩)⟩
              · exact ⟨false, rfl, hide (.inr ⟨rfl, hJx3⟩)⟩))
          gi_region_with (first
            | (refine ⟨trivial, ?_⟩; gi_at_call 33; (with_reducible refine (callsIn_wide.2 (HCR.out _ hfst)).mono ?_); rintro e w7 ⟨A7, c1, B7, c2, rfl, ha7, hv7, f7, g7, hb7⟩; have hq7 := (hb7.cell (p := ⟨q, 0, none⟩) (by show q < wb.heap.size; omega)).trans hq3; have HB7 := hide (hfst.trans hb7); obtain ⟨fn, tmps, asg, body, hy, hR⟩ := HYY.out w7 A7 c1 B7 c2 HB7.out ha7 hv7 f7 g7; clear ha7 hv7 f7 g7 hb7)
            | (refine hR.mono ?_; rintro e W3 ⟨v, rfl, hd⟩)
            | fail)
          all_goals
            have hqi7 := HK3.out.trans (Kpt.of_below HB7.out (Nat.le_refl _))
            have HK7 := hide hqi7
            have hd2 := hd.out
            clear hd hR hy hqi7
            rcases hd2 with ⟨rfl, hJ9, hk9⟩ | ⟨rfl, hJx9⟩
            · have HQ9 := hide (hk9.cell _ _ _ hq7 hqi (.inr (fun m e => by cases e)))
              have HK9 := hide (HK7.out.trans hk9)
              have HP9 : Hid ((pre2 ++ [(⟨Rc.upto bs k + j, A7, c1, B7, c2⟩ : Yl)]).length = Rc.upto bs k + (j + 1)) := hide (by rw [List.length_append, HPL2.out]; simp; omega)
              have HC9 := hide (HCM2.out.snoc ⟨Rc.upto bs k + j, A7, c1, B7, c2⟩ HPL2.out.symm)
              clear hk9 hq7
              gi_wp2
              go_roundw
              case rel => exact ⟨j + 1, _, by omega, by go_num, HP9.out, HC9.out, hJ9, HK9.out, HQ9.out⟩
              case measure => simp [intOf]; omega
            · have HP9 : Hid ((pre2 ++ [(⟨Rc.upto bs k + j, A7, c1, B7, c2⟩ : Yl)]).length ≤ (Rc.flat bs).length) := hide (by rw [List.length_append, HPL2.out]; have := HLT.out; simp; omega)
              have HC9 := hide (HCM2.out.snoc ⟨Rc.upto bs k + j, A7, c1, B7, c2⟩ HPL2.out.symm)
              gi_wp2
              refine bodyPost_ret (results_none rfl _ _ _) rfl ?_
              exact ⟨⟨_, rfl⟩, .inr ⟨_, ⟨HC9.out, HP9.out⟩, hJx9⟩⟩
        · obtain rfl : j = bn := by omega
          have HP9 : Hid (pre2.length = Rc.upto bs (k + 1)) := hide (by rw [HPL2.out, HUS.out])
          gi_wp2
          go_roundw
          case rel => exact ⟨k + 1, pre2, by omega, by go_num, HP9.out, HCM2.out, hJ2, HKP3.out⟩
          case measure => simp [intOf]; omega
    · obtain rfl : k = nb := by omega
      gi_wp2
      go_end0
      have h1 := HPL.out
      have h2 := HN.out
      rw [← h2, Rc.upto_all] at h1
      exact ⟨⟨_, rfl⟩, .inl ⟨pre, ⟨HCM.out, h1⟩, hJs⟩⟩
end Go.Proofs.YtomnkgppldgpkaaDoor
