/-
  SegRefuses walked.
-/
import Derived.Test.YtfdppggdgdnnaaaGreatDoorZ37
import Derived.Test.YtfdppggdgdnnaaaGreatDoorZ41
import Derived.Test.YtfdppggdgdnnaaaGreatDoorZ31
import Derived.Test.YtfdppggdgdnnaaaGreatDoorZ21
import Derived.Test.YtfdppggdgdnnaaaGreatDoorZ40
import Derived.Test.YtfdppggdgdnnaaaGreatDoorZ7
import Derived.Test.YtfdppggdgdnnaaaGreatDoorZ1
import Derived.Deep.CutBlock
namespace Go.Proofs.YtfdppggdgdnnaaaGreatDoor
open Go.RowKit Go.Maps Go.Sort

theorem app_cases (d : Dk.St) (s : Sg.St) (b : Rc.Bat) :
    (Rc.bad b ≠ 0 ∧ sgApp d s b = (some (Rc.bad b - 101), d, s)) ∨ (Rc.bad b = 0 ∧ Sg.follows s.edges b = false ∧ sgApp d s b = (some 2, d, s)) ∨ (Rc.bad b = 0 ∧ Sg.follows s.edges b = true) := by
  unfold sgApp
  by_cases h : Rc.bad b ≠ 0
  · exact .inl ⟨h, by rw [if_pos h]⟩
  · rw [if_neg h]
    cases hf : Sg.follows s.edges b with
    | false => exact .inr (.inl ⟨by omega, rfl, by rw [if_pos rfl]⟩)
    | true => exact .inr (.inr ⟨by omega, rfl⟩)
theorem bad_vals (b : Rc.Bat) : Rc.bad b = 0 ∨ Rc.bad b = 104 ∨ Rc.bad b = 105 := by
  unfold Rc.bad
  split
  · exact .inr (.inl rfl)
  · split
    · exact .inr (.inr rfl)
    · exact .inl rfl
theorem Mz.lastEp {d : Dk.St} {s : Sg.St} {room used base every : Int} {names : Dk.Dir} {x : Nat} {bs : List Rc.Bat} (h : Mz d s room used names base every x bs) : (bs = [] → (Sg.last s.edges).ep = 0) ∧ ∀ q (hq : q < bs.length), q + 1 = bs.length → (Sg.last s.edges).ep = bs[q].epoch := by
  rw [h.edges]
  refine ⟨fun e => by subst e; rfl, fun q hq e => ?_⟩
  have e1 : bs = bs.take q ++ [bs[q]] := by rw [← List.take_succ_eq_append_getElem hq, e, List.take_length]
  generalize bs[q] = b at *
  rw [e1, Sg.adds_append, Sg.adds_cons, Sg.adds_nil, Sg.add_last]
  rfl

theorem Mz.raw {d : Dk.St} {s : Sg.St} {room used base every : Int} {names : Dk.Dir} {x : Nat} {bs : List Rc.Bat} (h : Mz d s room used names base every x bs) : sgRaw d s 0 (s.edges.length - 1) = (none, bs.flatMap Rc.bytes) := by
  have hl := h.len
  obtain ⟨z, hz⟩ := h
  have e := raw_adds d _ rfl rfl bs x (hz.has.find _ x hz.nm) hz.bytes 0 bs.length (Nat.zero_le _) (Nat.le_refl _)
  rw [List.drop_zero, Nat.sub_zero, List.take_length, ← hz.seg] at e
  rw [hl, Nat.add_sub_cancel]
  exact e

set_option maxRecDepth 100000 in
set_option maxHeartbeats 4000000 in
theorem segRefuses_any (w : World) (p : Nat → Addr) (ha : Sents w p) (ht : Tabs w) (hpt : PowTab w) (Az : Option Addr) (cz nz : Nat) (zs : List Int) (b : Rc.Bat) (Ab : Option Addr) (cb nb : Nat) (base every : Int) (hnz : zs.length = nz) (hz : Ints w Az zs) (hzb : ∀ k, k < zs.length → -9223372036854775808 ≤ zs.getD k 0 ∧ zs.getD k 0 ≤ 9223372036854775807) (hib : IsBat w Ab cb b) (hnb : b.recs.length = nb) :
    Calls Tryz.prog 4 #[.slice Az nz cz, batV b.base b.epoch Ab nb cb, .int .i64 base, .int .i64 every] w fun e w' => e = .returned (.bool true) ∧ Below w.heap.size w w' := by
  have hs : SentsG w p := ha.mono fun j hj => by omega
  obtain ⟨W1, hW1⟩ : ∃ W1, W1 = w.alloc (.cells #[.int .i64 b.base, .int .i64 b.epoch, .slice Ab nb cb] 41) := ⟨_, rfl⟩
  have hbW : Below w.heap.size w W1 := by rw [hW1]; exact balloc (Below.refl _ _) _
  have x0 : W1.cell? ⟨w.heap.size, 0, none⟩ = some (.int .i64 b.base) := by rw [hW1, World.cell?_alloc_mark]; rfl
  have x1 : W1.cell? ⟨w.heap.size, 1, none⟩ = some (.int .i64 b.epoch) := by rw [hW1, World.cell?_alloc_mark]; rfl
  have x2 : W1.cell? ⟨w.heap.size, 2, none⟩ = some (.slice Ab nb cb) := by rw [hW1, World.cell?_alloc_mark]; rfl
  have hgz : w.heap.size < W1.heap.size := by rw [hW1]; simp
  have HFI := hide (segFirst_any W1 p (hs.below hbW) (ht.below hbW (Nat.le_refl _)) (hpt.below hbW))
  have HSA := hide ha
  have HS := hide hs
  have HT := hide ht
  have HPT := hide hpt
  have HZ := hide hz
  have HNZ := hide hnz
  have HIB := hide hib
  have HNB := hide hnb
  have HBW := hide hbW
  have hnbm : nb ≤ 9223372036854775807 := by rw [← hnb]; have h1 := hib.le; have h2 := hib.max; omega
  have HLT := hide (fun (W : World) (hw : Below w.heap.size w W) => light_any b.base b.epoch b.recs Ab cb nb W hnb hnbm ((hib.below hw (Nat.le_refl _)).recs))
  have HVD := hide (fun (W : World) (hw : Below w.heap.size w W) => rvalid_any b Ab cb nb W (hib.below hw (Nat.le_refl _)) hnb)
  obtain ⟨lt, hlt⟩ : ∃ lt, lt = (decide (b.recs.length ≤ 70) && b.recs.all Rc.light) := ⟨_, rfl⟩
  rw [← hlt] at HLT
  obtain ⟨gB, hgB⟩ : ∃ gB, gB = w.heap.size := ⟨_, rfl⟩
  have HGB := hide hgB
  clear hs ha ht hpt hz hnz hlt hbW hib
  unfold batV at HLT HVD ⊢
  by_cases hearly : 10 < nz ∨ lt = false
  · rw [← hgB] at x0 x1 x2 hgz
    by_cases lz : 10 < nz
    · go_enter Tryz.func4, Tryz.ntmps4
      go_upto_region 1 with fail
      rw [← hW1, ← hgB]
      clear hW1 hgB
      go_wp2_with (first
        | (go_at_call 9; refine HFI.out.mono ?_; rintro e w1 ⟨rfl, hb1⟩; have HB1 := hide (HBW.out.trans (hb1.mono HBW.out.size)); clear hb1)
        | fail)
      go_ret
      exact ⟨rfl, HB1.out⟩
    · have hl0 : lt = false := hearly.resolve_left lz
      subst hl0
      have dnz : decide ((10 : Int) < nz) = false := decide_eq_false (by omega)
      go_enter Tryz.func4, Tryz.ntmps4
      go_upto_region 1 with fail
      rw [← hW1, ← hgB]
      clear hW1 hgB
      go_wp2_with (first
        | (go_at_call 9; refine HFI.out.mono ?_; rintro e w1 ⟨rfl, hb1⟩; have HB1 := hide (HBW.out.trans (hb1.mono HBW.out.size)); have z0 := (hb1.cell (p := ⟨gB, 0, none⟩) hgz).trans x0; have z1 := (hb1.cell (p := ⟨gB, 1, none⟩) hgz).trans x1; have z2 := (hb1.cell (p := ⟨gB, 2, none⟩) hgz).trans x2; clear hb1)
        | (go_at_call 32; refine (HLT.out w1 HB1.out).mono ?_; rintro e w2 ⟨rfl, hb2⟩; have HB2 := hide (HB1.out.trans (hb2.mono HB1.out.size)); clear hb2)
        | fail)
      go_ret
      exact ⟨rfl, HB2.out⟩
  obtain rfl : lt = true := by cases lt with | true => rfl | false => exact absurd (.inr rfl) hearly
  have lz : ¬ 10 < nz := fun h => hearly (.inl h)
  have dnz : decide ((10 : Int) < nz) = false := decide_eq_false (by omega)
  have h00 : (0 : Int) ≤ 0 ∧ (0 : Int) ≤ 1099511627776 := by omega
  clear hearly
  rw [← hgB] at x0 x1 x2 hgz
  -- the batches
  have HRW := hide (fun (W : World) (hw : Below w.heap.size w W) => row_any 0 Az cz nz 2 zs W HNZ.out (by omega) (by omega) (by omega) (by omega) (HZ.out.below hw (Nat.le_refl _)) hzb)
  have hok := Rw.go_ok zs 0 0 2 (by omega) (by have := HNZ.out; omega) (by have := HNZ.out; omega)
  have hgd : ∀ b ∈ Rw.go ((0 : Nat) : Int) 0 2 zs, Rc.Good b := fun b hb => (hok b hb).1
  have hsm := Rw.go_small zs ((0 : Nat) : Int) 0 2 hgd
  have hch := Rw.go_chain zs ((0 : Nat) : Int) 0 2 (Sg.begin (Nm.seg 0) 0 100) rfl (by show (0 : Int) ≤ _; omega)
  have HMD := hide (fun (W : World) (hb : Below w.heap.size w W) (A : Option Addr) (cap : Nat) (hbt : Bats W A (Rw.go ((0 : Nat) : Int) 0 2 zs)) => made_any 0 100 A cap nz _ W p (HS.out.below hb) (HT.out.below hb (Nat.le_refl _)) (HPT.out.below hb) (by rw [Rw.go_len]; exact HNZ.out) (by omega) hbt hgd hsm (by omega) (by omega) hch)
  have hgl := Rw.go_len zs ((0 : Nat) : Int) 0 2
  rw [HNZ.out] at hgl
  have hfl := flat_len_le Rc.bytes 300 _ hsm
  rw [hgl] at hfl
  have HFL := hide hfl
  have HGL := hide hgl
  clear hok hgd hsm hch hgl hzb hfl
  generalize Rw.go ((0 : Nat) : Int) 0 2 zs = cs at *
  go_enter Tryz.func4, Tryz.ntmps4
  go_upto_region 1 with fail
  rw [← hW1, ← hgB]
  clear hW1 hgB
  go_upto_region 10 with (first
    | (go_at_call 9; refine HFI.out.mono ?_; rintro e w1 ⟨rfl, hb1⟩; have HB1 := hide (HBW.out.trans (hb1.mono HBW.out.size)); have z0 := (hb1.cell (p := ⟨gB, 0, none⟩) hgz).trans x0; have z1 := (hb1.cell (p := ⟨gB, 1, none⟩) hgz).trans x1; have z2 := (hb1.cell (p := ⟨gB, 2, none⟩) hgz).trans x2; have HG1 := hide (Nat.lt_of_lt_of_le hgz hb1.size); clear hb1 x0 x1 x2)
    | (go_at_call 32; refine (HLT.out w1 HB1.out).mono ?_; rintro e w2 ⟨rfl, hb2⟩; have HB2 := hide (HB1.out.trans (hb2.mono HB1.out.size)); have HC2 := hide hb2; clear hb2 HLT)
    | (go_at_call 12; refine (HRW.out w2 HB2.out).mono ?_; rintro e w3 ⟨⟨A2, c2, rfl, hc2, hm2, hbt2⟩, hb3⟩; have HB3 := hide (HB2.out.trans (hb3.mono HB2.out.size)); have HC3 := hide (HC2.out.trans (hb3.mono HC2.out.size)); have HBT := hide hbt2; clear hbt2 hb3 HRW HC2)
    | (go_at_call 13; refine (HMD.out w3 HB3.out A2 c2 HBT.out).mono ?_; rintro e w4 ⟨Bd, X, S, T, d, s, x, rfl, hw4, hm4⟩; have HW4 := hide hw4; have HM4 := hide hm4.mz; clear hw4 hm4 HMD)
    | fail)
  have hraw := HM4.out.raw
  have HRAW := hide (sgRawAll_any w3 w4 S T _ Bd X d s p HW4.out (HS.out.below HB3.out) (by omega))
  rw [hraw] at HRAW
  simp only [errR] at HRAW
  have hfl := HFL.out
  obtain ⟨fl, hfl2⟩ : ∃ fl, fl = (cs.flatMap Rc.bytes).length := ⟨_, rfl⟩
  have HFN := hide hfl2.symm
  rw [← hfl2] at hfl
  clear hraw hfl2
  go_upto_region 12 with (first
    | (go_at_call 20; refine HRAW.out.mono ?_; rintro e w5 ⟨v, rfl, ho, hb5⟩; have hfar := ho.lt; obtain ⟨A5, c5, rfl, ha5⟩ := own_n ho HFN.out; have HFAR : Hid (∀ x o, A5 = some ⟨x, o, none⟩ → ¬ (S x ∨ T x)) := hide (fun x o e h => by have h1 := (hfar x (by rw [e]; rfl)).1; rcases h with h | h; (have := (HW4.out.disk.lo x h).2; omega); (have := (HW4.out.lo x h).2; omega)); clear hfar; have HA5 := hide ha5; have HW5 := hide (HW4.out.grow hb5); clear ho ha5 hb5 HRAW HW4)
    | fail)
  obtain ⟨le, hle⟩ : ∃ le, le = (Sg.last s.edges).ep := ⟨_, rfl⟩
  obtain ⟨E, hE⟩ : ∃ E, E = (Sg.last s.edges).off := ⟨_, rfl⟩
  have HLE := hide hle
  have HE := hide hE
  have hlep := HM4.out.lastEp
  rw [← hle] at hlep
  have hb35 := HW5.out.below
  clear hle hE
  go_upto_if 54 with fail
  go_cut [15] from 55 (fun v wc => v = .int .i64 le ∧ wc = w5)
  case first =>
    by_cases h0 : nz = 0
    · have h1 := hlep.1 (List.eq_nil_of_length_eq_zero (by rw [HGL.out]; exact h0))
      subst h0
      have d0 : decide ((0 : Int) < ((0 : Nat) : Int)) = false := by decide
      go_wp2_with fail
      go_meet
      exact ⟨by rw [h1], rfl⟩
    · obtain ⟨q, hq⟩ : ∃ q, nz = q + 1 := ⟨nz - 1, by omega⟩
      have hql : q < cs.length := by rw [HGL.out]; omega
      have h1 := hlep.2 q hql (by rw [HGL.out]; omega)
      obtain ⟨bj, oj, rfl, hbl, Ax, cx, q0, q1, -, -⟩ := HBT.out.at_ q hql
      have k1 := (hb35.cell (p := ⟨bj, oj + q * 3 + 1, none⟩) hbl).trans q1
      rw [← h1] at k1
      subst hq
      have d0 : decide ((0 : Int) < ((q + 1 : Nat) : Int)) = true := decide_eq_true (by omega)
      have hw1 : IntKind.i64.wrap (((q + 1 : Nat) : Int) - 1) = (q : Int) := by rw [IntKind.wrap_i64]; omega
      have hqq : q < q + 1 := by omega
      clear q0 q1 h1
      go_wp2_with fail
      go_meet
      exact ⟨rfl, rfl⟩
  case rest =>
    obtain ⟨rfl, rfl⟩ := hcut
    have HB5 := hide (HB3.out.trans (HW5.out.below.mono HB3.out.size))
    have HC5 := hide (HC3.out.trans (HW5.out.below.mono HC3.out.size))
    clear hlep hb35 HBT
    have u0 := (HC5.out.cell (p := ⟨gB, 0, none⟩) HG1.out).trans z0
    have u1 := (HC5.out.cell (p := ⟨gB, 1, none⟩) HG1.out).trans z1
    have u2 := (HC5.out.cell (p := ⟨gB, 2, none⟩) HG1.out).trans z2
    have hgz5 : gB < wc.heap.size := Nat.lt_of_lt_of_le HG1.out HC5.out.size
    clear z0 z1 z2
    go_upto_region 15 with (first
      | (go_at_call 33; refine (HVD.out wc HB5.out).mono ?_; rintro e w6 ⟨rfl, hb6⟩; have HB6 := hide hb6; have HW6 := hide (HW5.out.grow hb6); have y0 := (hb6.cell (p := ⟨gB, 0, none⟩) hgz5).trans u0; have y1 := (hb6.cell (p := ⟨gB, 1, none⟩) hgz5).trans u1; have y2 := (hb6.cell (p := ⟨gB, 2, none⟩) hgz5).trans u2; have hgz6 : gB < w6.heap.size := Nat.lt_of_lt_of_le hgz5 hb6.size; clear hb6 HVD HW5 u0 u1 u2)
      | fail)
    obtain ⟨bad, hbad⟩ : ∃ bad, bad = Rc.bad b := ⟨_, rfl⟩
    rw [← hbad]
    have hbv := bad_vals b
    rw [← hbad] at hbv
    have hcases := app_cases d s b
    rw [← hbad] at hcases
    have HE6 := hide (fun (W : World) (hw : Below w6.heap.size w6 W) => sgEnd_any X Bd s T W (HW6.out.seg.below hw) HW6.out.ok)
    rw [← HE.out] at HE6
    obtain ⟨tt, htt⟩ : ∃ tt : Bool, tt = decide (bad = 0 ∧ (b.base ≠ E ∨ b.epoch < le)) := ⟨_, rfl⟩
    have hfo : Sg.follows s.edges b = (decide (b.base = E) && decide (le ≤ b.epoch)) := by rw [HE.out, HLE.out]; rfl
    have HFO := hide hfo
    have HTT := hide htt
    have HCS := hide hcases
    have HBD := hide hbad
    clear hfo htt hcases hbad
    have HNV := hide hbv
    go_cut [78] from 64 to 77 (fun v wc2 => v = .bool tt ∧ Below w6.heap.size w6 wc2)
    case first =>
      clear hbv
      by_cases h1 : bad = 0
      · by_cases h2 : b.base = E
        · have e1 : tt = decide (b.epoch < le) := by rw [HTT.out]; simp [h1, h2]
          have hz1 : ((bad : Int) == 0) = true := by simp [h1]
          have hz2 : (b.base != E) = false := by simp [h2]
          clear h1 h2
          refine wp_region_guardU (G := fun a b : World => Below a.heap.size a b) ⟨fun w => Below.refl _ w, fun h k => h.trans (k.mono h.size)⟩ [64, 65, 66, 67, 68, 69, 70, 71, 72, 73, 74, 75, 76, 77, 78] (fun d => match d with | 64 => .is (.int .i64 (bad : Nat)) | 65 => .is (.bool true) | 66 => .is (.bool true) | 67 => .is (.pointer (some ⟨gB, 0, none⟩)) | 68 => .is (.int .i64 b.base) | 69 => .is (.pointer (some ⟨X, 0, none⟩)) | 70 => .is (.int .i64 E) | 71 => .is (.bool false) | 72 => .is (.bool false) | 73 => .is (.pointer (some ⟨gB, 1, none⟩)) | 74 => .is (.int .i64 b.epoch) | 75 => .is (.int .i64 le) | 76 => .is (.bool (decide (b.epoch < le))) | 77 => .is (.bool (decide (b.epoch < le))) | 78 => .is (.bool (decide (b.epoch < le))) | _ => .is undef) (by kernel_rfl) (by kernel_rfl) (by kernel_rfl) ?_ ?_
          · simp only [StepsGU]
            refine ⟨?_, ?_, ?_, ?_, ?_, ?_, ?_, ?_, ?_, ?_, ?_, ?_, ?_, ?_, ?_, trivial⟩
            all_goals
              intro ev wb hb hev hd
              have ev5 : ev (.tmp 5) = .pointer (some ⟨gB, 0, none⟩) := hev _ (by simp)
              have ev12 : ev (.tmp 12) = .pointer (some ⟨X, 0, none⟩) := hev _ (by simp)
              have ev15 : ev (.tmp 15) = .int .i64 le := hev _ (by simp)
              have ev16 : ev (.tmp 16) = .int .i64 (bad : Nat) := hev _ (by simp)
              have evf : ∀ f, ev (.func f) = .func (.func f) #[] #[] := fun f => hev _ (by simp)
              have evc : ∀ c, ev (.const c) = c := fun c => hev _ (by simp)
              have HBb := hide (show Below w6.heap.size w6 wb from (Below.refl _ _).drew.trans hb)
              have v0 := (HBb.out.cell (p := ⟨gB, 0, none⟩) hgz6).trans y0
              have v1 := (HBb.out.cell (p := ⟨gB, 1, none⟩) hgz6).trans y1
              clear hev hb
              simp [DepsG, Held.is] at hd
              try (simp [OpGuardU, undef, OpRuns, execOp, go_sem, Held.is, Below.refl, *]; done)
            · simp [OpGuardU, undef, OpRuns, execOp, go_sem, Held.is, Below.refl, *]
              exact HE6.out wb HBb.out
          · intro f wd hb hf
            have e78 : f 78 = .bool (decide (b.epoch < le)) := hf 78 (by simp)
            have HBd := hide (show Below w6.heap.size w6 wd from (Below.refl _ _).drew.trans hb)
            clear hf hb
            simp only [puts, Act.put, List.setIfInBounds_toArray, List.set_cons_succ, List.set_cons_zero]
            rw [e78]
            clear e78
            go_wp2_with fail
            go_meet
            exact ⟨by rw [e1], HBd.out⟩
        · have e1 : tt = true := by rw [HTT.out]; simp [h1, h2]
          have hz1 : ((bad : Int) == 0) = true := by simp [h1]
          have hz2 : (b.base != E) = true := by simp [h2]
          clear h1 h2
          refine wp_region_guardU (G := fun a b : World => Below a.heap.size a b) ⟨fun w => Below.refl _ w, fun h k => h.trans (k.mono h.size)⟩ [64, 65, 66, 67, 68, 69, 70, 71, 72, 73, 74, 75, 76, 77, 78] (fun d => match d with | 64 => .is (.int .i64 (bad : Nat)) | 65 => .is (.bool true) | 66 => .is (.bool true) | 67 => .is (.pointer (some ⟨gB, 0, none⟩)) | 68 => .is (.int .i64 b.base) | 69 => .is (.pointer (some ⟨X, 0, none⟩)) | 70 => .is (.int .i64 E) | 71 => .is (.bool true) | 72 => .is (.bool true) | 77 => .is (.bool true) | 78 => .is (.bool true) | _ => .is undef) (by kernel_rfl) (by kernel_rfl) (by kernel_rfl) ?_ ?_
          · simp only [StepsGU]
            refine ⟨?_, ?_, ?_, ?_, ?_, ?_, ?_, ?_, ?_, ?_, ?_, ?_, ?_, ?_, ?_, trivial⟩
            all_goals
              intro ev wb hb hev hd
              have ev5 : ev (.tmp 5) = .pointer (some ⟨gB, 0, none⟩) := hev _ (by simp)
              have ev12 : ev (.tmp 12) = .pointer (some ⟨X, 0, none⟩) := hev _ (by simp)
              have ev15 : ev (.tmp 15) = .int .i64 le := hev _ (by simp)
              have ev16 : ev (.tmp 16) = .int .i64 (bad : Nat) := hev _ (by simp)
              have evf : ∀ f, ev (.func f) = .func (.func f) #[] #[] := fun f => hev _ (by simp)
              have evc : ∀ c, ev (.const c) = c := fun c => hev _ (by simp)
              have HBb := hide (show Below w6.heap.size w6 wb from (Below.refl _ _).drew.trans hb)
              have v0 := (HBb.out.cell (p := ⟨gB, 0, none⟩) hgz6).trans y0
              have v1 := (HBb.out.cell (p := ⟨gB, 1, none⟩) hgz6).trans y1
              clear hev hb
              simp [DepsG, Held.is, undef] at hd
              try (simp [OpGuardU, undef, OpRuns, execOp, go_sem, Held.is, Below.refl, *]; done)
            · simp [OpGuardU, undef, OpRuns, execOp, go_sem, Held.is, Below.refl, *]
              exact HE6.out wb HBb.out
          · intro f wd hb hf
            have e78 : f 78 = .bool true := hf 78 (by simp)
            have HBd := hide (show Below w6.heap.size w6 wd from (Below.refl _ _).drew.trans hb)
            clear hf hb
            simp only [puts, Act.put, List.setIfInBounds_toArray, List.set_cons_succ, List.set_cons_zero]
            rw [e78]
            clear e78
            go_wp2_with fail
            go_meet
            exact ⟨by rw [e1], HBd.out⟩
      · have e1 : tt = false := by rw [HTT.out]; simp [h1]
        have hz1 : ((bad : Int) == 0) = false := by simp; omega
        clear h1
        refine wp_region_guardU (G := fun a b : World => Below a.heap.size a b) ⟨fun w => Below.refl _ w, fun h k => h.trans (k.mono h.size)⟩ [64, 65, 66, 67, 68, 69, 70, 71, 72, 73, 74, 75, 76, 77, 78] (fun d => match d with | 64 => .is (.int .i64 (bad : Nat)) | 65 => .is (.bool false) | 66 => .is (.bool false) | 78 => .is (.bool false) | _ => .is undef) (by kernel_rfl) (by kernel_rfl) (by kernel_rfl) ?_ ?_
        · simp only [StepsGU]
          refine ⟨?_, ?_, ?_, ?_, ?_, ?_, ?_, ?_, ?_, ?_, ?_, ?_, ?_, ?_, ?_, trivial⟩
          all_goals
            intro ev wb hb hev hd
            have ev5 : ev (.tmp 5) = .pointer (some ⟨gB, 0, none⟩) := hev _ (by simp)
            have ev12 : ev (.tmp 12) = .pointer (some ⟨X, 0, none⟩) := hev _ (by simp)
            have ev15 : ev (.tmp 15) = .int .i64 le := hev _ (by simp)
            have ev16 : ev (.tmp 16) = .int .i64 (bad : Nat) := hev _ (by simp)
            have evf : ∀ f, ev (.func f) = .func (.func f) #[] #[] := fun f => hev _ (by simp)
            have evc : ∀ c, ev (.const c) = c := fun c => hev _ (by simp)
            have HBb := hide (show Below w6.heap.size w6 wb from (Below.refl _ _).drew.trans hb)
            have v0 := (HBb.out.cell (p := ⟨gB, 0, none⟩) hgz6).trans y0
            have v1 := (HBb.out.cell (p := ⟨gB, 1, none⟩) hgz6).trans y1
            clear hev hb
            simp [DepsG, Held.is, undef] at hd
            try (simp [OpGuardU, undef, OpRuns, execOp, go_sem, Held.is, Below.refl, *]; done)
        · intro f wd hb hf
          have e78 : f 78 = .bool false := hf 78 (by simp)
          have HBd := hide (show Below w6.heap.size w6 wd from (Below.refl _ _).drew.trans hb)
          clear hf hb
          simp only [puts, Act.put, List.setIfInBounds_toArray, List.set_cons_succ, List.set_cons_zero]
          rw [e78]
          clear e78
          go_wp2_with fail
          go_meet
          exact ⟨by rw [e1], HBd.out⟩
    case rest =>
      obtain ⟨rfl, hb7⟩ := hcut
      have HW7 := hide (HW6.out.grow hb7)
      have v0 := (hb7.cell (p := ⟨gB, 0, none⟩) hgz6).trans y0
      have v1 := (hb7.cell (p := ⟨gB, 1, none⟩) hgz6).trans y1
      have v2 := (hb7.cell (p := ⟨gB, 2, none⟩) hgz6).trans y2
      have hgz7 : gB < wc.heap.size := Nat.lt_of_lt_of_le hgz6 hb7.size
      have HA7 := hide ((HA5.out.below HB6.out (Nat.le_refl _)).below hb7 (Nat.le_refl _))
      clear hb7 y0 y1 y2 hgz6 HE6 HW6 HB6 HA5
      obtain ⟨bad2, hb2⟩ : ∃ bad2 : Nat, bad2 = if tt = true then 103 else bad := ⟨_, rfl⟩
      have HB2' := hide hb2
      go_upto_if 78 with fail
      go_cut [16] (fun v wc3 => v = .int .i64 (bad2 : Nat) ∧ wc3 = wc)
      case first =>
        cases tt with
        | true =>
          rw [if_pos rfl] at hb2
          subst hb2
          go_wp2_with fail
          go_meet
          exact ⟨rfl, rfl⟩
        | false =>
          rw [if_neg (by simp)] at hb2
          subst hb2
          go_wp2_with fail
          go_meet
          exact ⟨rfl, rfl⟩
      case rest =>
        obtain ⟨rfl, rfl⟩ := hcut
        clear hb2
        have hu38 : Rc.bad b = 0 → (Rc.bytes b).length ≤ 39000 := fun h0 => by
          have g := (Rc.bad_good b).1 h0
          have h1 := Rc.bytes_le b g 64 512 (by omega) (by omega) fun r hr => ⟨(g.recs r hr).2.2.1, (g.recs r hr).2.2.2⟩
          have h2 := g.n1
          omega
        have hkey : (bad2 = 0 ∧ (sgApp d s b).1 = none ∧ ∃ u2, Dk.Has (sgApp d s b).2.1 1048576 u2 (Dk.upd (fun _ => none) (Nm.seg 0) (some x))) ∨ (∃ j, j < 19 ∧ bad2 = 101 + j ∧ (sgApp d s b).1 = some j ∧ (sgApp d s b).2.1 = d ∧ (sgApp d s b).2.2 = s) := by
          have hbe := HB2'.out
          have htt := HTT.out
          have hfo := HFO.out
          rcases HCS.out with ⟨h1, h2⟩ | ⟨h1, h2, h3⟩ | ⟨h1, h2⟩
          · right
            have e1 : tt = false := by rw [htt]; simp [h1]
            rw [e1, if_neg (by simp)] at hbe
            rw [h2]
            rcases HNV.out with h | h | h
            · exact absurd h h1
            · exact ⟨3, by omega, by rw [hbe, h], by rw [h], rfl, rfl⟩
            · exact ⟨4, by omega, by rw [hbe, h], by rw [h], rfl, rfl⟩
          · right
            have e1 : tt = true := by
              rw [htt]
              rw [hfo] at h2
              simp only [Bool.and_eq_false_iff, decide_eq_false_iff_not] at h2
              refine decide_eq_true ⟨h1, ?_⟩
              rcases h2 with h2 | h2
              · exact .inl h2
              · exact .inr (by omega)
            rw [e1, if_pos rfl] at hbe
            exact ⟨2, by omega, hbe, by rw [h3], by rw [h3], by rw [h3]⟩
          · left
            have e1 : tt = false := by
              rw [htt]
              rw [hfo] at h2
              simp only [Bool.and_eq_true, decide_eq_true_eq] at h2
              refine decide_eq_false ?_
              rintro ⟨_, h | h⟩
              · exact h h2.1
              · omega
            rw [e1, if_neg (by simp)] at hbe
            have hb0 : Rc.bad b = 0 := by rw [← HBD.out]; exact h1
            obtain ⟨d', he, hm', -⟩ := HM4.out.add b ((Rc.bad_good b).1 hb0) h2 (by have := hu38 hb0; have := HFL.out; omega)
            rw [he]
            exact ⟨by rw [hbe, h1], rfl, _, hm'.has⟩
        have HAP := hide (sgAppend_anyQ 39 ⟨by omega, by omega⟩ w3 wc S T _ Bd X d s p b Ab cb nb HW7.out (HS.out.below HB3.out) (HT.out.below HB3.out (Nat.le_refl _)) (by omega) (by rw [HM4.out.len, HGL.out]; omega) (by rw [HM4.out.pos]; have := HFL.out; omega) (fun W hc => HIB.out.below (HB3.out.trans ((HW7.out.cellW hc).mono HB3.out.size)) (Nat.le_refl _)) HNB.out (fun h0 => by have := hu38 h0; omega))
        obtain ⟨r, d2, s2, hR⟩ : ∃ r d2 s2, sgApp d s b = (r, d2, s2) := ⟨_, _, _, rfl⟩
        rw [hR] at HAP hkey
        simp only at HAP hkey
        have HHA : Hid (∃ u2, Dk.Has d2 1048576 u2 (Dk.upd (fun _ => none) (Nm.seg 0) (some x))) := hide (by
          rcases hkey with ⟨-, -, h⟩ | ⟨j, -, -, -, rfl, -⟩
          · exact h
          · exact ⟨_, HM4.out.has⟩)
        have HIS : Hid (∀ W, Below w.heap.size w W → Calls Tryz.prog 29 #[errR p r, .int .i64 (bad2 : Nat)] W fun e w' => e = .returned (.bool true) ∧ Below W.heap.size W w') := hide (fun W hw => by
          rcases hkey with ⟨h1, h2, -⟩ | ⟨j, h1, h2, h3, -, -⟩
          · rw [h1, h2]
            exact (is_nil _ W).mono fun e w' ⟨he, hb⟩ => ⟨by rw [he]; simp, hb⟩
          · rw [h2, h3]
            exact (is_sent W p (HSA.out.below hw) j h1 _).mono fun e w' ⟨he, hb⟩ => ⟨by rw [he, decide_eq_true rfl], hb⟩)
        have HKR : Hid (bad2 ≠ 0 → d2 = d ∧ s2 = s) := hide fun h => by
          rcases hkey with ⟨h1, -, -⟩ | ⟨j, -, -, -, h4, h5⟩
          · exact absurd h1 h
          · exact ⟨h4, h5⟩
        have HRW2 := hide (fun (S T : Nat → Prop) (W : World) (h : SgW w3 S T (nz + 3 + 39) Bd d2 X s2 W) => sgRawAll_any w3 W S T _ Bd X d2 s2 p h (HS.out.below HB3.out) (by omega))
        obtain ⟨re, raw1, hraw1⟩ : ∃ re raw1, sgRaw d2 s2 0 (s2.edges.length - 1) = (re, raw1) := ⟨_, _, rfl⟩
        have HR1 := hide hraw1
        rw [hraw1] at HRW2
        simp only at HRW2
        generalize errR p r = er at *
        generalize errR p re = er2 at *
        obtain ⟨n1, hn1⟩ : ∃ n1, raw1.length = n1 := ⟨_, rfl⟩
        have HN1 := hide hn1
        clear hR hkey hu38 hraw1 hn1 HCS HNV HTT HFO HB2' HBD
        go_upto_region 19 with (first
          | (go_at_call 34; refine HAP.out.mono ?_; rintro e w9 ⟨rfl, S9, T9, hh9, hc9, -⟩; have H9 := hide hh9; have HA9 := hide (show Arg w9 A5 c5 (cs.flatMap Rc.bytes) from HA7.out.chg hc9 (fun x o e _ => HFAR.out x o e)); clear hh9 hc9 HAP)
          | (go_at_call 20; refine (HRW2.out S9 T9 w9 H9.out).mono ?_; rintro e w10 ⟨vr, rfl, hor, hb10⟩; obtain ⟨A10, c10, rfl, ha10⟩ := own_n hor HN1.out; have HA10 := hide ha10; have H10 := hide (H9.out.grow hb10); have H10b := hide hb10; clear hor ha10 hb10 HRW2 H9)
          | fail)
        have HWQ0 := hide (HB3.out.trans (H10.out.below.mono HB3.out.size))
        by_cases hz2 : bad2 = 0
        · have dz : ((bad2 : Int) != 0) = false := by simp [hz2]
          clear hz2
          go_upto_region 21 with (first
            | (go_at_call 29; refine (HIS.out w10 HWQ0.out).mono ?_; rintro e wq ⟨rfl, hb11⟩; have HQ := hide (H10.out.grow hb11); have HWQ := hide (HWQ0.out.trans (hb11.mono HWQ0.out.size)); clear hb11)
            | fail)
          clear H10 HWQ0 HA9 HA10
          by_cases g1 : base < 0
          · have dq1 : decide (base < 0) = true := decide_eq_true g1
            have HCB := hide (sgCreate_bad Bd base every wq p (by omega) (HS.out.below HWQ.out) (HPT.out.below HWQ.out))
            have HI5 := hide (fun (W : World) (hw : Below w.heap.size w W) => is_sent W p (HSA.out.below hw) 4 (by omega) 105)
            unfold errV at HCB HI5
            go_wp2_with (first
              | (go_at_call 35; refine HCB.out.mono ?_; rintro e w20 ⟨rfl, hb20⟩; have HB20 := hide (HWQ.out.trans (hb20.mono HWQ.out.size)); clear hb20 HCB)
              | (go_at_call 29; refine (HI5.out w20 HB20.out).mono ?_; rintro e w21 ⟨he, hb21⟩; rw [decide_eq_true (by decide)] at he; subst he; have HB21 := hide (HB20.out.trans (hb21.mono HB20.out.size)); clear hb21)
              | fail)
            go_ret
            exact ⟨by simp, HB21.out⟩
          by_cases g2 : 1099511627776 < base
          · have dq1 : decide (base < 0) = false := decide_eq_false g1
            have dq2 : decide (1099511627776 < base) = true := decide_eq_true g2
            have HCB := hide (sgCreate_bad Bd base every wq p (by omega) (HS.out.below HWQ.out) (HPT.out.below HWQ.out))
            have HI5 := hide (fun (W : World) (hw : Below w.heap.size w W) => is_sent W p (HSA.out.below hw) 4 (by omega) 105)
            unfold errV at HCB HI5
            go_wp2_with (first
              | (go_at_call 35; refine HCB.out.mono ?_; rintro e w20 ⟨rfl, hb20⟩; have HB20 := hide (HWQ.out.trans (hb20.mono HWQ.out.size)); clear hb20 HCB)
              | (go_at_call 29; refine (HI5.out w20 HB20.out).mono ?_; rintro e w21 ⟨he, hb21⟩; rw [decide_eq_true (by decide)] at he; subst he; have HB21 := hide (HB20.out.trans (hb21.mono HB20.out.size)); clear hb21)
              | fail)
            go_ret
            exact ⟨by simp, HB21.out⟩
          by_cases g3 : every < 1
          · have dq1 : decide (base < 0) = false := decide_eq_false g1
            have dq2 : decide (1099511627776 < base) = false := decide_eq_false g2
            have dq3 : decide (every < 1) = true := decide_eq_true g3
            have HCB := hide (sgCreate_bad Bd base every wq p (by omega) (HS.out.below HWQ.out) (HPT.out.below HWQ.out))
            have HI5 := hide (fun (W : World) (hw : Below w.heap.size w W) => is_sent W p (HSA.out.below hw) 4 (by omega) 105)
            unfold errV at HCB HI5
            go_wp2_with (first
              | (go_at_call 35; refine HCB.out.mono ?_; rintro e w20 ⟨rfl, hb20⟩; have HB20 := hide (HWQ.out.trans (hb20.mono HWQ.out.size)); clear hb20 HCB)
              | (go_at_call 29; refine (HI5.out w20 HB20.out).mono ?_; rintro e w21 ⟨he, hb21⟩; rw [decide_eq_true (by decide)] at he; subst he; have HB21 := hide (HB20.out.trans (hb21.mono HB20.out.size)); clear hb21)
              | fail)
            go_ret
            exact ⟨by simp, HB21.out⟩
          by_cases g4 : 1048576 < every
          · have dq1 : decide (base < 0) = false := decide_eq_false g1
            have dq2 : decide (1099511627776 < base) = false := decide_eq_false g2
            have dq3 : decide (every < 1) = false := decide_eq_false g3
            have dq4 : decide (1048576 < every) = true := decide_eq_true g4
            have HCB := hide (sgCreate_bad Bd base every wq p (by omega) (HS.out.below HWQ.out) (HPT.out.below HWQ.out))
            have HI5 := hide (fun (W : World) (hw : Below w.heap.size w W) => is_sent W p (HSA.out.below hw) 4 (by omega) 105)
            unfold errV at HCB HI5
            go_wp2_with (first
              | (go_at_call 35; refine HCB.out.mono ?_; rintro e w20 ⟨rfl, hb20⟩; have HB20 := hide (HWQ.out.trans (hb20.mono HWQ.out.size)); clear hb20 HCB)
              | (go_at_call 29; refine (HI5.out w20 HB20.out).mono ?_; rintro e w21 ⟨he, hb21⟩; rw [decide_eq_true (by decide)] at he; subst he; have HB21 := hide (HB20.out.trans (hb21.mono HB20.out.size)); clear hb21)
              | fail)
            go_ret
            exact ⟨by simp, HB21.out⟩
          have dq1 : decide (base < 0) = false := decide_eq_false g1
          have dq2 : decide (1099511627776 < base) = false := decide_eq_false g2
          have dq3 : decide (every < 1) = false := decide_eq_false g3
          have dq4 : decide (1048576 < every) = false := decide_eq_false g4
          have hev : 1 ≤ every ∧ every ≤ 1048576 := by omega
          have hba : 0 ≤ base ∧ base ≤ 1099511627776 := by omega
          obtain ⟨u2, hha2⟩ := HHA.out
          by_cases g5 : base = 0
          · subst g5
            have HCA := hide (sgCreate_any w3 wq _ _ Bd d2 0 every p HQ.out.disk (HS.out.below HB3.out) (by omega) h00 hev (HPT.out.below HB3.out))
            have hct : ∀ xx, sgCrt d2 (Nm.seg 0) xx = (some 7, d2) := fun xx => by
              obtain ⟨_, v⟩ := hha2
              have e1 := v.create_there (Nm.seg 0) xx x (seg_valid h00) (Dk.upd_same _ _ _)
              unfold sgCrt
              rw [e1, if_pos (by simp)]
            simp only [hct, CrPost] at HCA
            have HI5 := hide (fun (W : World) (hw : Below w.heap.size w W) => is_sent W p (HSA.out.below hw) 7 (by omega) 108)
            unfold errV at HCA HI5
            clear hct hha2
            go_wp2_with (first
              | (go_at_call 35; refine HCA.out.mono ?_; rintro e w20 ⟨xx, -, S20, rfl, hh20, -, -⟩; have HB20 := hide (HB3.out.trans (hh20.below.mono HB3.out.size)); clear hh20 HCA)
              | (go_at_call 29; refine (HI5.out w20 HB20.out).mono ?_; rintro e w21 ⟨he, hb21⟩; rw [decide_eq_true (by decide)] at he; subst he; have HB21 := hide (HB20.out.trans (hb21.mono HB20.out.size)); clear hb21)
              | fail)
            go_ret
            exact ⟨by simp, HB21.out⟩
          · have hnn2 : Dk.upd (fun _ => none) (Nm.seg 0) (some x) (Nm.seg base) = none := by
              rw [Dk.upd_other _ _ _ _ (fun e => g5 (seg_inj hba h00 e))]
            obtain ⟨q1, q2, q3, eq1, eq2, eq3, -⟩ := hha2.begin_ (Nm.seg base) (seg_valid hba) hnn2
            have HCG := hide (sgCreate_good w3 wq _ _ Bd d2 base every p HQ.out.disk (HS.out.below HB3.out) (by omega) hba hev (HPT.out.below HB3.out) q1 q2 q3 eq1 eq2 eq3)
            have deq : (base == 0) = false := by simp [g5]
            have HEB := hide (fun (X : Nat) (T : Nat → Prop) (W : World) (hw : SegAt W X Bd (Sg.begin (Nm.seg base) base every) T) => sgEnd_any X Bd _ T W hw (Sg.begin_ok (Nm.seg base) hba hev))
            have hlb : (Sg.last (Sg.begin (Nm.seg base) base every).edges).off = base := rfl
            rw [hlb] at HEB
            clear hnn2 eq1 eq2 eq3 hlb hha2
            go_wp2_with (first
              | (go_at_call 35; refine HCG.out.mono ?_; rintro e w20 ⟨X2, xx, S20, T20, -, rfl, hh20, -, -⟩; have H20 := hide hh20; clear hh20 HCG)
              | (go_at_call 23; refine (HEB.out X2 T20 w20 H20.out.seg).mono ?_; rintro e w21 ⟨rfl, hb21⟩; have H21 := hide (H20.out.grow hb21); clear hb21)
              | fail)
            go_ret
            exact ⟨by simp [g5], HB3.out.trans (H21.out.below.mono HB3.out.size)⟩
        · have dz : ((bad2 : Int) != 0) = true := by simp; omega
          obtain ⟨rfl, rfl⟩ := HKR.out hz2
          have hraw2 := HM4.out.raw
          rw [HR1.out] at hraw2
          injection hraw2 with hre hrl
          obtain rfl : n1 = fl := by rw [← HN1.out, hrl]; exact HFN.out
          subst hrl
          go_upto_region 21 with (first
            | (go_at_call 29; refine (HIS.out w10 HWQ0.out).mono ?_; rintro e w11 ⟨rfl, hb11⟩; have HB11 := hide hb11; clear hb11)
            | (go_at_call 21; refine (sameBytes_any A5 A10 c5 c10 n1 n1 _ _ w11 HN1.out HN1.out (by omega) (by omega) ((HA9.out.below H10b.out (Nat.le_refl _)).below HB11.out (Nat.le_refl _)).reads (HA10.out.below HB11.out (Nat.le_refl _)).reads).mono ?_; rintro e wq ⟨he, q, hq⟩; rw [decide_eq_true rfl] at he; subst he; have HQ := hide (H10.out.grow (HB11.out.trans ((hq ▸ below_drewN (Below.refl _ _) q : Below w11.heap.size w11 wq).mono HB11.out.size))); have HWQ := hide (HWQ0.out.trans ((HB11.out.trans ((hq ▸ below_drewN (Below.refl _ _) q : Below w11.heap.size w11 wq).mono HB11.out.size)).mono HWQ0.out.size)); clear hq)
            | fail)
          clear H10 HWQ0 HA9 HA10 HB11
          by_cases g1 : base < 0
          · have dq1 : decide (base < 0) = true := decide_eq_true g1
            have HCB := hide (sgCreate_bad Bd base every wq p (by omega) (HS.out.below HWQ.out) (HPT.out.below HWQ.out))
            have HI5 := hide (fun (W : World) (hw : Below w.heap.size w W) => is_sent W p (HSA.out.below hw) 4 (by omega) 105)
            unfold errV at HCB HI5
            go_wp2_with (first
              | (go_at_call 35; refine HCB.out.mono ?_; rintro e w20 ⟨rfl, hb20⟩; have HB20 := hide (HWQ.out.trans (hb20.mono HWQ.out.size)); clear hb20 HCB)
              | (go_at_call 29; refine (HI5.out w20 HB20.out).mono ?_; rintro e w21 ⟨he, hb21⟩; rw [decide_eq_true (by decide)] at he; subst he; have HB21 := hide (HB20.out.trans (hb21.mono HB20.out.size)); clear hb21)
              | fail)
            go_ret
            exact ⟨by simp, HB21.out⟩
          by_cases g2 : 1099511627776 < base
          · have dq1 : decide (base < 0) = false := decide_eq_false g1
            have dq2 : decide (1099511627776 < base) = true := decide_eq_true g2
            have HCB := hide (sgCreate_bad Bd base every wq p (by omega) (HS.out.below HWQ.out) (HPT.out.below HWQ.out))
            have HI5 := hide (fun (W : World) (hw : Below w.heap.size w W) => is_sent W p (HSA.out.below hw) 4 (by omega) 105)
            unfold errV at HCB HI5
            go_wp2_with (first
              | (go_at_call 35; refine HCB.out.mono ?_; rintro e w20 ⟨rfl, hb20⟩; have HB20 := hide (HWQ.out.trans (hb20.mono HWQ.out.size)); clear hb20 HCB)
              | (go_at_call 29; refine (HI5.out w20 HB20.out).mono ?_; rintro e w21 ⟨he, hb21⟩; rw [decide_eq_true (by decide)] at he; subst he; have HB21 := hide (HB20.out.trans (hb21.mono HB20.out.size)); clear hb21)
              | fail)
            go_ret
            exact ⟨by simp, HB21.out⟩
          by_cases g3 : every < 1
          · have dq1 : decide (base < 0) = false := decide_eq_false g1
            have dq2 : decide (1099511627776 < base) = false := decide_eq_false g2
            have dq3 : decide (every < 1) = true := decide_eq_true g3
            have HCB := hide (sgCreate_bad Bd base every wq p (by omega) (HS.out.below HWQ.out) (HPT.out.below HWQ.out))
            have HI5 := hide (fun (W : World) (hw : Below w.heap.size w W) => is_sent W p (HSA.out.below hw) 4 (by omega) 105)
            unfold errV at HCB HI5
            go_wp2_with (first
              | (go_at_call 35; refine HCB.out.mono ?_; rintro e w20 ⟨rfl, hb20⟩; have HB20 := hide (HWQ.out.trans (hb20.mono HWQ.out.size)); clear hb20 HCB)
              | (go_at_call 29; refine (HI5.out w20 HB20.out).mono ?_; rintro e w21 ⟨he, hb21⟩; rw [decide_eq_true (by decide)] at he; subst he; have HB21 := hide (HB20.out.trans (hb21.mono HB20.out.size)); clear hb21)
              | fail)
            go_ret
            exact ⟨by simp, HB21.out⟩
          by_cases g4 : 1048576 < every
          · have dq1 : decide (base < 0) = false := decide_eq_false g1
            have dq2 : decide (1099511627776 < base) = false := decide_eq_false g2
            have dq3 : decide (every < 1) = false := decide_eq_false g3
            have dq4 : decide (1048576 < every) = true := decide_eq_true g4
            have HCB := hide (sgCreate_bad Bd base every wq p (by omega) (HS.out.below HWQ.out) (HPT.out.below HWQ.out))
            have HI5 := hide (fun (W : World) (hw : Below w.heap.size w W) => is_sent W p (HSA.out.below hw) 4 (by omega) 105)
            unfold errV at HCB HI5
            go_wp2_with (first
              | (go_at_call 35; refine HCB.out.mono ?_; rintro e w20 ⟨rfl, hb20⟩; have HB20 := hide (HWQ.out.trans (hb20.mono HWQ.out.size)); clear hb20 HCB)
              | (go_at_call 29; refine (HI5.out w20 HB20.out).mono ?_; rintro e w21 ⟨he, hb21⟩; rw [decide_eq_true (by decide)] at he; subst he; have HB21 := hide (HB20.out.trans (hb21.mono HB20.out.size)); clear hb21)
              | fail)
            go_ret
            exact ⟨by simp, HB21.out⟩
          have dq1 : decide (base < 0) = false := decide_eq_false g1
          have dq2 : decide (1099511627776 < base) = false := decide_eq_false g2
          have dq3 : decide (every < 1) = false := decide_eq_false g3
          have dq4 : decide (1048576 < every) = false := decide_eq_false g4
          have hev : 1 ≤ every ∧ every ≤ 1048576 := by omega
          have hba : 0 ≤ base ∧ base ≤ 1099511627776 := by omega
          obtain ⟨u2, hha2⟩ := HHA.out
          by_cases g5 : base = 0
          · subst g5
            have HCA := hide (sgCreate_any w3 wq _ _ Bd d2 0 every p HQ.out.disk (HS.out.below HB3.out) (by omega) h00 hev (HPT.out.below HB3.out))
            have hct : ∀ xx, sgCrt d2 (Nm.seg 0) xx = (some 7, d2) := fun xx => by
              obtain ⟨_, v⟩ := hha2
              have e1 := v.create_there (Nm.seg 0) xx x (seg_valid h00) (Dk.upd_same _ _ _)
              unfold sgCrt
              rw [e1, if_pos (by simp)]
            simp only [hct, CrPost] at HCA
            have HI5 := hide (fun (W : World) (hw : Below w.heap.size w W) => is_sent W p (HSA.out.below hw) 7 (by omega) 108)
            unfold errV at HCA HI5
            clear hct hha2
            go_wp2_with (first
              | (go_at_call 35; refine HCA.out.mono ?_; rintro e w20 ⟨xx, -, S20, rfl, hh20, -, -⟩; have HB20 := hide (HB3.out.trans (hh20.below.mono HB3.out.size)); clear hh20 HCA)
              | (go_at_call 29; refine (HI5.out w20 HB20.out).mono ?_; rintro e w21 ⟨he, hb21⟩; rw [decide_eq_true (by decide)] at he; subst he; have HB21 := hide (HB20.out.trans (hb21.mono HB20.out.size)); clear hb21)
              | fail)
            go_ret
            exact ⟨by simp, HB21.out⟩
          · have hnn2 : Dk.upd (fun _ => none) (Nm.seg 0) (some x) (Nm.seg base) = none := by
              rw [Dk.upd_other _ _ _ _ (fun e => g5 (seg_inj hba h00 e))]
            obtain ⟨q1, q2, q3, eq1, eq2, eq3, -⟩ := hha2.begin_ (Nm.seg base) (seg_valid hba) hnn2
            have HCG := hide (sgCreate_good w3 wq _ _ Bd d2 base every p HQ.out.disk (HS.out.below HB3.out) (by omega) hba hev (HPT.out.below HB3.out) q1 q2 q3 eq1 eq2 eq3)
            have deq : (base == 0) = false := by simp [g5]
            have HEB := hide (fun (X : Nat) (T : Nat → Prop) (W : World) (hw : SegAt W X Bd (Sg.begin (Nm.seg base) base every) T) => sgEnd_any X Bd _ T W hw (Sg.begin_ok (Nm.seg base) hba hev))
            have hlb : (Sg.last (Sg.begin (Nm.seg base) base every).edges).off = base := rfl
            rw [hlb] at HEB
            clear hnn2 eq1 eq2 eq3 hlb hha2
            go_wp2_with (first
              | (go_at_call 35; refine HCG.out.mono ?_; rintro e w20 ⟨X2, xx, S20, T20, -, rfl, hh20, -, -⟩; have H20 := hide hh20; clear hh20 HCG)
              | (go_at_call 23; refine (HEB.out X2 T20 w20 H20.out.seg).mono ?_; rintro e w21 ⟨rfl, hb21⟩; have H21 := hide (H20.out.grow hb21); clear hb21)
              | fail)
            go_ret
            exact ⟨by simp [g5], HB3.out.trans (H21.out.below.mono HB3.out.size)⟩
end Go.Proofs.YtfdppggdgdnnaaaGreatDoor
