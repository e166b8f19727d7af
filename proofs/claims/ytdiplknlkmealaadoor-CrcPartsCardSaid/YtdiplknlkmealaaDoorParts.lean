/-
  The walk through CrcParts: however bytes are cut, one sum; three texts upon one another have the sums' sum.
-/
import Derived.Test.YtdiplknlkmealaaDoorPieces
import Derived.Test.YtdiplknlkmealaaDoorArgsI
import Derived.Deep.CutBlock
import Derived.Deep.DeepCutAuto
namespace Go.Proofs.YtdiplknlkmealaaDoor
open Go.RowKit Crc
attribute [local go_sem] BtoNat x32 n32 x8 and8_15 mod256 wrap8 xs32 Bd16toNat mul2

theorem Pieces.below {w w' : World} {base C : Nat} {v : Value} {ps : List Part} (h : Pieces w base v ps) (hb : Below C w w') (hC : w.heap.size ≤ C) : Pieces w' base v ps := by
  obtain ⟨h1, h2⟩ := h
  refine ⟨h1, ?_⟩
  rcases h2 with h2 | ⟨g, cap, cur, hv, hg, hh, r⟩
  · exact .inl h2
  · have hlt : g < w.heap.size := by
      rcases Nat.lt_or_ge g w.heap.size with h | h
      · exact h
      · rw [Array.getElem?_eq_none h] at hh; cases hh
    exact .inr ⟨g, cap, cur, hv, hg, (hb.block g (by omega)).trans hh, r⟩
theorem Pieces.reads {w : World} {base : Nat} {v : Value} {ps : List Part} (h : Pieces w base v ps) (hall : ∀ q ∈ ps, q.l.length ≤ 9223372036854775807 ∧ Reads w q.a q.l) : ∃ A c, v = .slice A ps.length c ∧ ReadsAll w A ps := by
  obtain ⟨_, h2⟩ := h
  rcases h2 with ⟨rfl, h0⟩ | ⟨g, cap, cur, rfl, hg, hh, hn, hm, hs, ht⟩
  · obtain rfl := List.eq_nil_of_length_eq_zero h0
    exact ⟨none, 0, rfl, .inl rfl⟩
  · refine ⟨_, _, rfl, .inr ⟨g, 0, rfl, ?_, fun k hk => ?_⟩⟩
    · rcases Nat.lt_or_ge g w.heap.size with h | h
      · exact h
      · rw [Array.getElem?_eq_none h] at hh; cases hh
    · have e : cur.toList[k]? = some ps[k].val := by
        have e2 : (cur.toList.take (ps.length * 1))[k]? = some ps[k].val := by rw [ht]; simp [hk]
        rw [List.getElem?_take] at e2
        rwa [if_pos (by omega)] at e2
      have e3 : cur[k]? = some ps[k].val := by simpa using e
      refine ⟨?_, hall _ (List.getElem_mem hk)⟩
      simp only [World.cell?, hh, Nat.zero_add]
      rw [e3]
      simp
theorem flat_app (ps : List Part) (q : Part) : flat (ps ++ [q]) = flat ps ++ q.l := by simp [flat]

set_option maxRecDepth 100000 in
set_option maxHeartbeats 1000000 in
theorem parts_near (A B_ C D : Option Addr) (ca cb cc cd : Nat) (la lb lc : List UInt8) (zs : List Int) (w : World) (ha : Arg w A ca la) (hb : Arg w B_ cb lb) (hc : Arg w C cc lc) (hd : Ints w D zs) (hdc : zs.length ≤ cd) (hdm : cd ≤ 9223372036854775807)
    (hz : ∀ k, k < zs.length → -9223372036854775808 ≤ zs.getD k 0 ∧ zs.getD k 0 ≤ 9223372036854775807) (ht : Tabs w) (hw : 4 ≤ w.heap.size) (hl : la.length ≤ 300) (hlb : lb.length = la.length) (hlc : lc.length = la.length) (hlz : zs.length ≤ 20) :
    Calls Tryd.prog 5 #[.slice A la.length ca, .slice B_ la.length cb, .slice C la.length cc, .slice D zs.length cd] w fun e w' => e = .returned (.bool true) ∧ Below w.heap.size w w' := by
  have HA := hide ha
  have HB := hide hb
  have HC := hide hc
  have HD := hide hd
  have HZ := hide hz
  have HT := hide ht
  have h1 := ha.le
  have h2 := ha.max
  have h3 := hb.le
  have h4 := hb.max
  have h5 := hc.le
  have h6 := hc.max
  clear ha hb hc hd hz ht
  rw [hlb] at h3
  rw [hlc] at h5
  go_enter Tryd.func5, Tryd.ntmps5
  go_upto_block 0 with (go_at_call 14; refine (first_any _ HT.out hw).mono ?_; rintro e w1 ⟨rfl, hb1⟩)
  go_cut [10, 11, 12] (fun v at_ _ wc => ∃ (ps : List Part) (k : Nat), at_ = .int .i64 k ∧ k ≤ la.length ∧ ps.length ≤ 20 ∧ Pieces wc w.heap.size v ps ∧ flat ps = la.take k ∧ (∀ q ∈ ps, q.l.length ≤ la.length ∧ ∀ W, Below w.heap.size w W → Reads W q.a q.l) ∧ Below w.heap.size w wc)
  case first =>
    go_wp2_with fail
    go_loopw [10, 11, 12] (fun v at_ i wr => ∃ (ps : List Part) (k : Nat), i = .int .i64 ps.length ∧ ps.length ≤ zs.length ∧ at_ = .int .i64 k ∧ k ≤ la.length ∧ Pieces wr w.heap.size v ps ∧ flat ps = la.take k ∧ (∀ q ∈ ps, q.l.length ≤ la.length ∧ ∀ W, Below w.heap.size w W → Reads W q.a q.l) ∧ Below w.heap.size w wr) (fun _ _ i _ => zs.length - (intOf i).toNat)
    case atStart => exact ⟨[], 0, rfl, Nat.zero_le _, rfl, Nat.zero_le _, Pieces.nil _ _, rfl, fun q hq => (by cases hq), hb1⟩
    case round =>
      obtain ⟨ps, k, rfl, hps, rfl, hk, hpc, hfl, hall, hb⟩ := hrel
      have HPC := hide hpc
      have HFL := hide hfl
      have HALL := hide hall
      have HBK := hide hb
      clear hpc hfl hall hb
      by_cases hlt : ps.length < zs.length
      · have hD := HD.out
        rcases hD with h0 | ⟨bd, od, rfl, hbd, hcd⟩
        · rw [h0] at hlt; simp at hlt
        have hcell : wr.cell? ⟨bd, od + ps.length, none⟩ = some (.int .i64 (zs.getD ps.length 0)) := (HBK.out.cell (p := ⟨bd, od + ps.length, none⟩) hbd).trans (hcd _ hlt)
        obtain ⟨z1, z2⟩ := HZ.out _ hlt
        clear hcd
        generalize zs.getD ps.length 0 = z at *
        have hd := num_lt z 40 (by omega)
        have hnum := fun W => num_at z 40 40 W rfl (by omega) (by omega) z1 z2
        generalize num z 40 = d at *
        obtain ⟨k', hk'⟩ : ∃ k', k' = min la.length (k + d) := ⟨_, rfl⟩
        have hk1 : k ≤ k' := by omega
        have hk2 : k' ≤ la.length := by omega
        have hql : ((la.drop k).take (k' - k)).length = k' - k := by simp; omega
        have HQL := hide hql
        have HQV : Hid ((Part.mk (cutA A ca k) (ca - k) ((la.drop k).take (k' - k))).val = .slice (cutA A ca k) (k' - k) (ca - k)) := by show _ = _; unfold Part.val; rw [hql]
        have HNUM := hide hnum
        clear hql hnum
        go_upto_region 11 with fail
        go_cut [13] (fun v wx => v = .int .i64 k' ∧ wr = wx)
        case first =>
          go_wp2_with fail
          refine (HNUM.out _).mono ?_
          rintro e w3 ⟨rfl, rfl⟩
          go_wp2_with fail
          all_goals
            go_meet
            exact ⟨congrArg (Value.int .i64) (by omega), rfl⟩
        case rest =>
          obtain ⟨rfl, rfl⟩ := hcut
          clear hcell hk' HNUM
          have HBS : Hid (w.heap.size ≤ wr.heap.size) := HBK.out.size
          go_wp2_with (at_builtin; refine wpList_piece rfl (.tmp 62) (.tmp 67) rfl w.heap.size _ ps rfl (World.ownsRow.alloc HPC.out _) wr.heap.size ⟨cutA A ca k, ca - k, (la.drop k).take (k' - k)⟩ _ rfl (by rw [HQV.out]; simp [cutA, *]) (by omega) (by simp; have := HBS.out; omega) ?_; intro v5 w5 hown5 hg5 hv5)
          all_goals
            refine ⟨⟨_, k', by simp, by simp; omega, rfl, hk2, hown5, ?_, ?_, (balloc HBK.out _).grown hg5 (by simp; have := HBS.out; omega) (fun g hg => (World.ownsRow.lt HPC.out g hg).1)⟩, by simp [intOf]; omega⟩
            · rw [flat_app, HFL.out]
              show la.take k ++ (la.drop k).take (k' - k) = la.take k'
              rw [← List.take_add, show k + (k' - k) = k' by omega]
            · intro q hq
              rcases List.mem_append.1 hq with h | h
              · exact HALL.out q h
              · obtain rfl := List.mem_singleton.1 h
                exact ⟨by rw [HQL.out]; omega, fun W hW => ((HA.out.reads.below hW (Nat.le_refl _)).cut ca k h1 HA.out.nil hk).first _⟩
      · go_wp2_with fail
        go_meet
        exact ⟨ps, k, rfl, hk, by omega, HPC.out, HFL.out, HALL.out, HBK.out⟩
  case rest =>
    obtain ⟨ps, k, rfl, hk, hps, hpc, hfl, hall, hb⟩ := hcut
    have HPC := hide hpc
    have HFL := hide hfl
    have HALL := hide hall
    have HBK := hide hb
    have HBS : Hid (w.heap.size ≤ wc.heap.size) := hb.size
    have hql : (la.drop k).length = la.length - k := by simp
    have HQL := hide hql
    have HQV : Hid ((Part.mk (cutA A ca k) (ca - k) (la.drop k)).val = .slice (cutA A ca k) (la.length - k) (ca - k)) := by show _ = _; unfold Part.val; rw [hql]
    clear hql hpc hfl hall hb
    go_upto_region 14 with fail
    go_cut [10] (fun v wx => Pieces wx w.heap.size v (ps ++ [⟨cutA A ca k, ca - k, la.drop k⟩]) ∧ Below w.heap.size w wx)
    case first =>
      go_wp2_with (at_builtin; refine wpList_piece rfl (.tmp 70) (.tmp 74) rfl w.heap.size _ ps rfl (World.ownsRow.alloc HPC.out _) wc.heap.size ⟨cutA A ca k, ca - k, la.drop k⟩ _ rfl (by rw [HQV.out]; simp [cutA, *]) (by omega) (by simp; have := HBS.out; omega) ?_; intro v5 w5 hown5 hg5 hv5)
      all_goals
        first
          | (go_meet; exact ⟨hown5, (balloc HBK.out _).grown hg5 (by simp; have := HBS.out; omega) (fun g hg => (World.ownsRow.lt HPC.out g hg).1)⟩)
          | (have hck : ca = k := by assumption
             subst hck
             go_meet
             exact ⟨hown5, (balloc HBK.out _).grown hg5 (by simp; have := HBS.out; omega) (fun g hg => (World.ownsRow.lt HPC.out g hg).1)⟩)
    case rest =>
      obtain ⟨hown5, hb5⟩ := hcut
      have hfa : flat (ps ++ [⟨cutA A ca k, ca - k, la.drop k⟩]) = la := by
        rw [flat_app, HFL.out]; exact List.take_append_drop k la
      have hall2 : ∀ q ∈ ps ++ [(⟨cutA A ca k, ca - k, la.drop k⟩ : Part)], q.l.length ≤ 9223372036854775807 ∧ ∀ W, Below w.heap.size w W → Reads W q.a q.l := by
        intro q hq
        rcases List.mem_append.1 hq with h | h
        · exact ⟨by have := (HALL.out q h).1; omega, (HALL.out q h).2⟩
        · obtain rfl := List.mem_singleton.1 h
          exact ⟨by rw [HQL.out]; omega, fun W hW => (HA.out.reads.below hW (Nat.le_refl _)).cut ca k h1 HA.out.nil hk⟩
      have hpl : (ps ++ [(⟨cutA A ca k, ca - k, la.drop k⟩ : Part)]).length ≤ 100 := by rw [List.length_append, List.length_singleton]; omega
      have HO5 := hide hown5
      have HB5 := hide hb5
      have HFA := hide hfa
      have HALL2 := hide hall2
      clear hown5 hb5 hfa hall2 HPC HFL HALL HBK HBS HQL HQV HD HZ
      generalize ps ++ [(⟨cutA A ca k, ca - k, la.drop k⟩ : Part)] = qs at *
      go_wp2_with fail
      refine (bytes_any A ca la.length la _ rfl (by omega) (HA.out.reads.below HB5.out (Nat.le_refl _))).mono ?_
      rintro e w6 ⟨v6, rfl, ho6, hb6⟩
      have HB6 := hide (HB5.out.trans (hb6.mono HB5.out.size))
      have HO56 := hide (HO5.out.below hb6 (Nat.le_refl _))
      have hz6 := HB5.out.size
      have HMX : Hid ((mixed la lb lc la.length).length = la.length) := hide (mixed_len la lb lc la.length)
      have HO6 := hide ho6
      have HR6 := hide ho6.reads
      have HB56 := hide hb6
      clear ho6 hb6
      go_upto_block 2 with fail
      go_cut [14, 15] (fun x _ wc2 => ∃ A' c', x = .slice A' la.length c' ∧ Reads wc2 A' (mixed la lb lc la.length) ∧ Pieces wc2 w.heap.size u10 qs ∧ Below w.heap.size w wc2)
      case first =>
        by_cases h0 : la.length = 0
        · obtain ⟨A', c', rfl, hr', -⟩ := HR6.out
          have hr2 : Reads w6 A' (mixed la lb lc la.length) := .inl (List.eq_nil_of_length_eq_zero (by rw [HMX.out]; exact h0))
          have HR2 := hide hr2
          have H0 := hide h0
          have h00 : ((la.length : Nat) : Int) ≤ 0 := by omega
          clear h0 hr' hr2
          go_wp2_with fail
          go_loopw [15] (fun i wr => i = .int .i64 0 ∧ w6 = wr) (fun _ _ => 0)
          case atStart => exact ⟨rfl, rfl⟩
          case round =>
            obtain ⟨rfl, rfl⟩ := hrel
            go_wp2_with fail
            go_meet
            exact ⟨A', c', rfl, HR2.out, HO56.out, HB6.out⟩
        · obtain ⟨g, c, rfl, hm⟩ := Mem.of HO6.out (by omega)
          have HM := hide hm
          clear hm h0
          go_wp2_with fail
          go_loopw [15] (fun i wr => ∃ m : Nat, m ≤ la.length ∧ i = .int .i64 m ∧ Mem wr wc.heap.size g c (mixed la lb lc m) ∧ Below wc.heap.size wc wr) (fun i _ => la.length - (intOf i).toNat)
          case atStart => exact ⟨0, Nat.zero_le _, rfl, HM.out, HB56.out⟩
          case round =>
            obtain ⟨m, hm, rfl, hmm, hbb⟩ := hrel
            have HMM := hide hmm
            have HBB := hide hbb
            clear hmm hbb
            by_cases hlt : m < la.length
            · have hma : m < la.length := hlt
              have hmb : m < lb.length := by omega
              have hmc : m < lc.length := by omega
              have hkm : m < (mixed la lb lc m).length := by rw [mixed_len]; exact hlt
              have hcell := HMM.out.cell m hkm
              rw [mixed_get la lb lc m m (Nat.le_refl _)] at hcell
              have hgl := HMM.out.lt
              have hA0 := hide (HA.out.reads.below (HB5.out.trans (HBB.out.mono HB5.out.size)) (Nat.le_refl _))
              have hB0 := HB.out.reads.below (HB5.out.trans (HBB.out.mono HB5.out.size)) (Nat.le_refl _)
              have hC0 := HC.out.reads.below (HB5.out.trans (HBB.out.mono HB5.out.size)) (Nat.le_refl _)
              rcases hB0 with h0 | ⟨bb, ob, hBe, hbb0, hcb⟩
              · rw [h0] at hmb; simp at hmb
              rcases hC0 with h0 | ⟨bc, oc, hCe, hbc0, hcc⟩
              · rw [h0] at hmc; simp at hmc
              subst hBe hCe
              have hcb1 := hcb m hmb
              have hcc1 := hcc m hmc
              have HSET := hide (fun (W : World) (h : Below wr.heap.size wr W) => (HMM.out.below h (Nat.le_refl _)).set m (la.getD m 0 ^^^ lb.getD m 0 ^^^ lc.getD m 0) hkm)
              have HMIX : Hid (mixed la lb lc (m + 1) = (mixed la lb lc m).set m (la.getD m 0 ^^^ lb.getD m 0 ^^^ lc.getD m 0)) := hide rfl
              clear hcb hcc hmb hmc hkm hma
              generalize la.getD m 0 = xa at *
              generalize lb.getD m 0 = xb at *
              generalize lc.getD m 0 = xc at *
              go_upto_region 19 with fail
              refine wp_region_made [84, 85, 86, 87, 88, 89, 90, 91, 92, 93, 94, 95, 96, 97, 98, 99, 100] (fun d => match d with
                | 84 => .is (.slice (some ⟨g, 0, none⟩) la.length c) | 85 => .is (.int .i64 m) | 86 => .is (.slice (some ⟨g, 0, none⟩) la.length c) | 87 => .is (.int .i64 m) | 88 => .is (.pointer (some ⟨g, m, none⟩)) | 89 => .is (.int .u8 (B xa))
                | 90 => .is (.slice (some ⟨bb, ob, none⟩) la.length cb) | 91 => .is (.int .i64 m) | 92 => .is (.pointer (some ⟨bb, ob + m, none⟩)) | 93 => .is (.int .u8 (B xb)) | 94 => .is (.int .u8 (B (xa ^^^ xb)))
                | 95 => .is (.slice (some ⟨bc, oc, none⟩) la.length cc) | 96 => .is (.int .i64 m) | 97 => .is (.pointer (some ⟨bc, oc + m, none⟩)) | 98 => .is (.int .u8 (B xc)) | 99 => .is (.int .u8 (B (xa ^^^ xb ^^^ xc))) | 100 => .is (.pointer (some ⟨g, m, none⟩))
                | _ => .any) _ (by kernel_rfl) (by kernel_rfl) rfl (by kernel_rfl) ?_ ?_
              · simp only [List.size_toArray, List.length_cons, List.length_nil, List.take_succ_cons, List.take_zero, StepsOk]
                refine ⟨?_, ?_, ?_, ?_, ?_, ?_, ?_, ?_, ?_, ?_, ?_, ?_, ?_, ?_, ?_, ?_, ?_, trivial⟩
                all_goals
                  intro ev w8 hb hev hd
                  have ev14 : ev (.tmp 14) = .slice (some ⟨g, 0, none⟩) la.length c := hev _ (by simp)
                  have ev15 : ev (.tmp 15) = .int .i64 m := hev _ (by simp)
                  have ev1 : ev (.tmp 1) = .slice (some ⟨bb, ob, none⟩) la.length cb := hev _ (by simp)
                  have ev2 : ev (.tmp 2) = .slice (some ⟨bc, oc, none⟩) la.length cc := hev _ (by simp)
                  have f0 := (hb.cell (p := ⟨g, m, none⟩) hgl).trans hcell
                  have f1 := (hb.cell (p := ⟨bb, ob + m, none⟩) hbb0).trans hcb1
                  have f2 := (hb.cell (p := ⟨bc, oc + m, none⟩) hbc0).trans hcc1
                  clear hev hb
                  simp [DepsOk, Known.is] at hd
                  try simp [OpRuns, execOp, go_sem, Known.is, Below.refl, x8, *]
              · intro f w8 hb hf
                have e99 : f 99 = .int .u8 (B (xa ^^^ xb ^^^ xc)) := hf 99 (by simp)
                have e100 : f 100 = .pointer (some ⟨g, m, none⟩) := hf 100 (by simp)
                have f0 := (hb.cell (p := ⟨g, m, none⟩) hgl).trans hcell
                have fr := (HMM.out.below hb (Nat.le_refl _)).free m
                have HB8 := hide hb
                clear hf hb
                simp only [puts]
                go_wp2_with fail
                refine ⟨⟨m + 1, by omega, by go_num, ?_, (HBB.out.trans (HB8.out.mono HBB.out.size)).setCell HMM.out.base _⟩, by simp [intOf]; omega⟩
                rw [HMIX.out]
                exact HSET.out _ HB8.out
            · obtain rfl : m = la.length := by omega
              go_wp2_with fail
              go_meet
              exact ⟨_, c, rfl, HMM.out.arg.reads, HO5.out.below HBB.out (Nat.le_refl _), HB5.out.trans (HBB.out.mono HB5.out.size)⟩
      case rest =>
        obtain ⟨A', c', rfl, hrx, hpx, hbx⟩ := hcut
        have HRX := hide hrx
        have HPX := hide hpx
        have HBX := hide hbx
        have hsm := sum_mixed la lb lc hlb hlc
        obtain ⟨Aq, cq, rfl, hrq⟩ := hpx.reads (fun q hq => ⟨(HALL2.out q hq).1, (HALL2.out q hq).2 _ hbx⟩)
        have HRQ := hide hrq
        clear hrx hpx hbx hrq HR6 HO6 HO56 HB6
        have HOF := hide (of_at Aq cq qs.length qs wc rfl (by omega) HRQ.out (HT.out.below HBX.out hw))
        rw [HFA.out] at HOF
        have HSM := hide hsm
        clear hsm
        have hw0 := HBX.out.size
        go_wp2_with fail
        refine HOF.out.mono ?_
        rintro e w7 ⟨rfl, n7, rfl⟩
        have HB7 := hide (below_drewN HBX.out n7)
        have HRX7 := hide (HRX.out.drewN n7)
        clear HOF HRX HPX HRQ
        generalize wc.drewN n7 = W7 at *
        have ofr : ∀ (W : World) (X : Option Addr) (cx : Nat) (l : List UInt8), Below w.heap.size w W → l.length = la.length → Reads W X l → Calls Tryd.prog 17 #[.slice (some ⟨W.heap.size, 0, none⟩) 1 1] (W.alloc (.cells #[.slice X la.length cx] 22)) fun e w' => e = .returned (.int .u32 (U (sum l))) ∧ Below w.heap.size w w' ∧ Below W.heap.size W w' := fun W X cx l hb hln hr =>
          (of_at _ _ 1 [⟨X, cx, l⟩] _ rfl (Nat.le_of_ble_eq_true rfl) (readsAll_slice W X la.length cx _ l _ hln rfl hr (by omega)) ((HT.out.below hb hw).alloc (by have := hb.size; omega) _)).mono fun e w' ⟨h1, m, h2⟩ => ⟨by rw [h1, show flat [⟨X, cx, l⟩] = l from by simp [flat]], h2 ▸ below_drewN (below_alloc hb _) m, h2 ▸ below_drewN (below_alloc (Below.refl _ _) _) m⟩
        have OFR := hide ofr
        clear ofr
        go_wp2_with fail
        refine (OFR.out W7 A ca la HB7.out rfl (HA.out.reads.below HB7.out (Nat.le_refl _))).mono ?_
        rintro e w8 ⟨rfl, hb8, hc8⟩
        have HB8 := hide hb8
        have HRX8 := hide (HRX7.out.below hc8 (Nat.le_refl _))
        clear hb8 hc8 HRX7 HB7
        have hu1 : (U (sum la) == U (sum la)) = true := by simp
        go_wp2_with fail
        refine (OFR.out w8 A' c' (mixed la lb lc la.length) HB8.out HMX.out HRX8.out).mono ?_
        rintro e w9 ⟨rfl, hb9, -⟩
        have HB9 := hide hb9
        clear hb9 HB8 HRX8
        go_wp2_with fail
        refine (OFR.out w9 A ca la HB9.out rfl (HA.out.reads.below HB9.out (Nat.le_refl _))).mono ?_
        rintro e w10 ⟨rfl, hb10, -⟩
        have HB10 := hide hb10
        clear hb10 HB9
        go_wp2_with fail
        refine (OFR.out w10 B_ cb lb HB10.out hlb (HB.out.reads.below HB10.out (Nat.le_refl _))).mono ?_
        rintro e w11 ⟨rfl, hb11, -⟩
        have HB11 := hide hb11
        clear hb11 HB10
        go_wp2_with fail
        refine (OFR.out w11 C cc lc HB11.out hlc (HC.out.reads.below HB11.out (Nat.le_refl _))).mono ?_
        rintro e w12 ⟨rfl, hb12, -⟩
        have HB12 := hide hb12
        clear hb12 HB11
        rw [HSM.out]
        have hu2 : (U (sum la ^^^ sum lb ^^^ sum lc) == U (sum la ^^^ sum lb ^^^ sum lc)) = true := by simp
        go_wp2_with fail
        go_ret
        exact ⟨rfl, HB12.out⟩

theorem parts_far (A B_ C D : Option Addr) (ca cb cc cd na nb nc nz : Nat) (w : World) (ht : Tabs w) (hw : 4 ≤ w.heap.size) (ma : na ≤ 9223372036854775807) (mb : nb ≤ 9223372036854775807) (mc : nc ≤ 9223372036854775807) (mz : nz ≤ 9223372036854775807) (hf : 300 < na ∨ nb ≠ na ∨ nc ≠ na ∨ 20 < nz) :
    Calls Tryd.prog 5 #[.slice A na ca, .slice B_ nb cb, .slice C nc cc, .slice D nz cd] w fun e w' => e = .returned (.bool true) ∧ Below w.heap.size w w' := by
  have HT := hide ht
  clear ht
  by_cases h1 : 300 < na
  · clear hf
    go_enter Tryd.func5, Tryd.ntmps5
    go_wp2_with (go_at_call 14; refine (first_any _ HT.out hw).mono ?_; rintro e w1 ⟨rfl, hb1⟩)
    go_ret
    exact ⟨rfl, hb1⟩
  · by_cases h2 : nb = na
    · subst h2
      by_cases h3 : nc = nb
      · subst h3
        have h4 : 20 < nz := by omega
        clear hf
        go_enter Tryd.func5, Tryd.ntmps5
        go_wp2_with (go_at_call 14; refine (first_any _ HT.out hw).mono ?_; rintro e w1 ⟨rfl, hb1⟩)
        go_ret
        exact ⟨rfl, hb1⟩
      · have h3' : ((nc : Int) != (nb : Int)) = true := by rw [bne_iff_ne]; omega
        have h3'' : ((nc : Int) == (nb : Int)) = false := by rw [beq_eq_false_iff_ne]; omega
        clear hf h3
        go_enter Tryd.func5, Tryd.ntmps5
        go_wp2_with (go_at_call 14; refine (first_any _ HT.out hw).mono ?_; rintro e w1 ⟨rfl, hb1⟩)
        go_ret
        exact ⟨rfl, hb1⟩
    · have h2' : ((nb : Int) != (na : Int)) = true := by rw [bne_iff_ne]; omega
      have h2'' : ((nb : Int) == (na : Int)) = false := by rw [beq_eq_false_iff_ne]; omega
      clear hf h2
      go_enter Tryd.func5, Tryd.ntmps5
      go_wp2_with (go_at_call 14; refine (first_any _ HT.out hw).mono ?_; rintro e w1 ⟨rfl, hb1⟩)
      go_ret
      exact ⟨rfl, hb1⟩

theorem parts_walk (A B_ C D : Option Addr) (ca cb cc cd : Nat) (la lb lc : List UInt8) (zs : List Int) (w : World) (ha : Arg w A ca la) (hb : Arg w B_ cb lb) (hc : Arg w C cc lc) (hd : Ints w D zs) (hdc : zs.length ≤ cd) (hdm : cd ≤ 9223372036854775807)
    (hz : ∀ k, k < zs.length → -9223372036854775808 ≤ zs.getD k 0 ∧ zs.getD k 0 ≤ 9223372036854775807) (ht : Tabs w) (hw : 4 ≤ w.heap.size) :
    Calls Tryd.prog 5 #[.slice A la.length ca, .slice B_ lb.length cb, .slice C lc.length cc, .slice D zs.length cd] w fun e w' => e = .returned (.bool true) ∧ Below w.heap.size w w' := by
  by_cases h : 300 < la.length ∨ lb.length ≠ la.length ∨ lc.length ≠ la.length ∨ 20 < zs.length
  · exact parts_far A B_ C D ca cb cc cd _ _ _ _ w ht hw (Nat.le_trans ha.le ha.max) (Nat.le_trans hb.le hb.max) (Nat.le_trans hc.le hc.max) (Nat.le_trans hdc hdm) h
  · have e1 : lb.length = la.length := by omega
    have e2 : lc.length = la.length := by omega
    rw [e1, e2]
    exact parts_near A B_ C D ca cb cc cd la lb lc zs w ha hb hc hd hdc hdm hz ht hw (by omega) e1 e2 (by omega)
end Go.Proofs.YtdiplknlkmealaaDoor
