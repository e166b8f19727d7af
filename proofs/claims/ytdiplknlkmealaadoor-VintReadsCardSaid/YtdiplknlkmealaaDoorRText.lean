/-
  The walk through the reference's reader's Bytes.
-/
import Derived.Test.YtdiplknlkmealaaDoorRNum
import Derived.Test.YtdiplknlkmealaaDoorHBytes
import Derived.Test.YtdiplknlkmealaaDoorRegion
namespace Go.Proofs.YtdiplknlkmealaaDoor
open Go.RowKit

theorem peek_most {l : List UInt8} {s : Vi.Rs} {most : Nat} : (Vi.peek l s most).1 ≤ most := by
  unfold Vi.peek
  by_cases hc : s.code ≠ 0
  · rw [if_pos hc]; exact Nat.zero_le _
  · rw [if_neg hc]
    simp only
    by_cases hg : (Vi.get 0 0 (l.drop s.at_)).2.2 ≠ 0
    · rw [if_pos hg]; exact Nat.zero_le _
    · rw [if_neg hg]
      by_cases hm : most < (Vi.get 0 0 (l.drop s.at_)).1
      · rw [if_pos hm]; exact Nat.zero_le _
      · rw [if_neg hm]; simp only; omega
theorem RRd.at_back {w : World} {A : Option Addr} {cap g : Nat} {l : List UInt8} {s : Vi.Rs} {k : Nat} (h : RRd w A cap g l (s.on k)) (hok : Vi.Ok l s) : RRd (w.setCell ⟨g, 1, none⟩ (.int .i64 (s.at_ : Int))) A cap g l s := by
  have hb : But g w (w.setCell ⟨g, 1, none⟩ (.int .i64 (s.at_ : Int))) := But.setCell _ _ _ _
  refine ⟨Nat.lt_of_lt_of_le h.lt hb.size, fun j => (World.frozen?_setCell _ _ _ _).trans (h.free j), hok, ?_, World.cell?_setCell_same _ _ _ h.c1, ?_, ?_, ?_, h.arg.butx hb h.ne, h.ne, fun j hj => by rw [World.cell?_setCell_other _ _ _ _ (by intro e; injection e; omega)]; exact h.past j hj⟩
  · rw [World.cell?_setCell_other _ _ _ _ (by simp)]; exact h.c0
  · rw [World.cell?_setCell_other _ _ _ _ (by simp)]; exact h.c2
  · rw [World.cell?_setCell_other _ _ _ _ (by simp)]; exact h.c3
  · rw [World.cell?_setCell_other _ _ _ _ (by simp)]; exact h.c4
theorem Own.two {w : World} {base g : Nat} {v : Value} {l : List UInt8} (h : Own w base v l) (hg : g < base) : Own2 base g l v w := by
  obtain ⟨A, c, rfl, ha⟩ := h.arg
  refine ⟨A, c, rfl, ha, fun b off hA => ?_⟩
  subst hA
  have := (h.lt b rfl).1
  exact ⟨this, by omega⟩
theorem Own2.nil (lo g : Nat) (w : World) : Own2 lo g [] (.slice none 0 0) w := ⟨none, 0, rfl, ⟨by simp, by omega, fun _ => rfl, .inl rfl⟩, fun b off h => by cases h⟩

set_option maxRecDepth 100000 in
set_option maxHeartbeats 1000000 in
theorem rtext_any (w : World) (A : Option Addr) (cap g : Nat) (l : List UInt8) (s : Vi.Rs) (most : Int) (h1 : -9223372036854775808 ≤ most) (h2 : most ≤ 9223372036854775807) (h : RRd w A cap g l s) (hl : l.length ≤ 1000000) :
    Calls Tryd.prog 43 #[.pointer (some ⟨g, 0, none⟩), .int .i64 most] w fun e w' => ∃ v, e = .returned v ∧ Own2 w.heap.size g (Vi.text l s most.toNat).1 v w' ∧ RRd w' A cap g l (Vi.text l s most.toNat).2 ∧ But g w w' := by
  have HN := hide (rnum_any w A cap g l s most.toNat h hl)
  obtain ⟨o1, o2, o3, o4⟩ := Vi.peek_ok h.ok most.toNat
  have o5 := peek_most (l := l) (s := s) (most := most.toNat)
  have HB := hide (Vi.peek_bad (l := l) (s := s) (most := most.toNat))
  have HGD := hide (peek_good (l := l) (s := s) (most := most.toNat))
  have HE : Hid (Vi.text l s most.toNat = let q := Vi.peek l s most.toNat; if q.2.2.code ≠ 0 then ([], q.2.2) else if l.length < s.at_ + q.2.1 + q.1 then ([], s.fail 101) else ((l.drop (s.at_ + q.2.1)).take q.1, s.on (q.2.1 + q.1))) := hide rfl
  have HNE : Hid (Vi.num l s most.toNat = ((Vi.peek l s most.toNat).1, (Vi.peek l s most.toNat).2.2.on (Vi.peek l s most.toNat).2.1)) := hide rfl
  have HM : Hid ((0 ≤ most → (most.toNat : Int) = most) ∧ (most ≤ 0 → (most.toNat : Int) = 0)) := by show _ ∧ _; omega
  have HOK := hide h.ok
  have c1 := h.c1
  have hlt := h.lt
  rw [HNE.out] at HN
  clear h HNE
  generalize Vi.text l s most.toNat = T at *
  generalize hmt : most.toNat = mt at *
  generalize Vi.peek l s mt = q at *
  obtain ⟨n, k, s1⟩ := q
  simp only at *
  have hn63 : n ≤ 9223372036854775807 := by omega
  have hn63' : (n : Int) ≤ 9223372036854775807 := by omega
  go_enter Tryd.func43, Tryd.ntmps43
  go_upto_region 2 with fail
  go_cut [6] (fun n' wx => n' = .int .i64 n ∧ RRd wx A cap g l (s1.on k) ∧ But g w wx)
  case first =>
    clear hmt
    by_cases h0 : 0 < most
    · have e := HM.out.1 (by omega)
      have HN' := HN.out
      rw [e] at HN'
      have HNN := hide HN'
      clear e HN' HN
      go_wp2_with fail
      refine HNN.out.mono ?_
      rintro e w1 ⟨rfl, hr1, hb1⟩
      go_wp2_with fail
      go_meet
      exact ⟨rfl, hr1, hb1⟩
    · have e := HM.out.2 (by omega)
      by_cases h9 : most < 0
      · skip
        have HN' := HN.out
        rw [e] at HN'
        have HNN := hide HN'
        clear e HN' HN
        go_wp2_with fail
        refine HNN.out.mono ?_
        rintro e w1 ⟨rfl, hr1, hb1⟩
        go_wp2_with fail
        go_meet
        exact ⟨rfl, hr1, hb1⟩
      · obtain rfl : most = 0 := by omega
        have HN' := HN.out
        rw [e] at HN'
        have HNN := hide HN'
        clear e HN' HN
        go_wp2_with fail
        refine HNN.out.mono ?_
        rintro e w1 ⟨rfl, hr1, hb1⟩
        go_wp2_with fail
        go_meet
        exact ⟨rfl, hr1, hb1⟩
  case rest =>
    obtain ⟨rfl, hr1, hb1⟩ := hcut
    clear HN HM hmt c1 hlt
    have HR1 := hide hr1
    have HB1 := hide hb1
    by_cases hc : s1.code ≠ 0
    · have HFI := hide (fine_any wc A cap g l _ false hr1 (by simp [Vi.Rs.on, hc]))
      have hk0 : k = 0 := (HB.out hc).2
      have HT : Hid (T = ([], s1)) := by show _ = _; rw [HE.out]; rw [if_pos hc]
      have HK := hide hk0
      clear hr1 hb1 hc hk0
      go_wp2_with fail
      refine HFI.out.mono ?_
      rintro e w2 ⟨rfl, rfl⟩
      go_wp2_with fail
      go_ret
      refine ⟨_, rfl, ?_, ?_, HB1.out⟩
      · rw [HT.out]; exact Own2.nil _ _ _
      · rw [HT.out]
        have h := HR1.out
        rw [HK.out] at h; exact h
    · have hc0 : s1.code = 0 := by omega
      obtain rfl : s1 = s := HGD.out hc0
      have HFI := hide (fine_any wc A cap g l _ true hr1 (by simp [Vi.Rs.on, hc0]))
      have c0 := hr1.c0
      have c1 : wc.cell? ⟨g, 1, none⟩ = some (.int .i64 ((s1.at_ + k : Nat) : Int)) := hr1.c1
      have hlt := hr1.lt
      have hfr := hr1.free 1
      have hat := o1.le
      obtain ⟨pp, hpp⟩ : ∃ pp, pp = s1.at_ + k := ⟨_, rfl⟩
      rw [← hpp] at c1 o3
      have hpl : pp ≤ 1000000 := by omega
      by_cases hn : l.length < s1.at_ + k + n
      · have hn' : (l.length : Int) - (pp : Int) < (n : Int) := by omega
        have HT : Hid (T = ([], s1.fail 101)) := by show _ = _; rw [HE.out, if_neg hc, if_pos hn]
        have HRB := hide (fun q => (HR1.out.below (below_drewN (Below.refl wc.heap.size wc) q)).at_back HOK.out)
        have HF := hide (fun q => rfail_end _ A cap g l s1 (HRB.out q))
        have HBB := hide (fun q => (But.drewN g wc q).trans (But.setCell g 1 _ (.int .i64 (s1.at_ : Int))))
        clear hr1 hb1 hc hc0 hn o1 o2 HE HOK hpp
        go_wp2_with fail
        refine HFI.out.mono ?_
        rintro e w2 ⟨rfl, rfl⟩
        go_wp2_with fail
        go_quiet (fail)
        go_wp2_with fail
        refine (HF.out _).mono ?_
        rintro e w3 ⟨rfl, hr3, hb3⟩
        go_wp2_with fail
        go_ret
        refine ⟨_, rfl, ?_, ?_, HB1.out.trans ((HBB.out _).trans hb3)⟩
        · rw [HT.out]; exact Own2.nil _ _ _
        · rw [HT.out]; exact hr3
      · have hn' : ¬ (l.length : Int) - (pp : Int) < (n : Int) := by omega
        have hnl : n ≤ 1000000 := by omega
        have HT : Hid (T = ((l.drop (s1.at_ + k)).take n, s1.on (k + n))) := by show _ = _; rw [HE.out, if_neg hc, if_neg hn]
        have HCC := hide (fun q => (HR1.out.below (below_drewN (Below.refl wc.heap.size wc) q)).at_set n (by show s1.at_ + k + n ≤ _; omega) hc0)
        have e1 : (((s1.on k).at_ : Nat) : Int) = (pp : Int) := by rw [hpp]; rfl
        rw [e1] at HCC
        have HPP := hide hpp
        clear hr1 hb1 hc hc0 o1 o2 HE HOK e1 hpp hn
        go_upto_region 5 with fail
        refine HFI.out.mono ?_
        rintro e w2 ⟨rfl, rfl⟩
        go_upto_region 5 with fail
        go_quiet (fail)
        go_upto_region 10 with fail
        have hrd := HCC.out nq
        have hbt := HB1.out.trans ((But.drewN g wc nq).trans (But.setCell g 1 _ (.int .i64 ((pp : Int) + (n : Int)))))
        have hw0 : w.heap.size ≤ ((wc.drewN nq).setCell ⟨g, 1, none⟩ (.int .i64 ((pp : Int) + (n : Int)))).heap.size := hbt.size
        have HRD := hide hrd
        have HBT := hide hbt
        generalize (wc.drewN nq).setCell ⟨g, 1, none⟩ (.int .i64 ((pp : Int) + (n : Int))) = W at *
        have d0 := hrd.c0
        have d1 : W.cell? ⟨g, 1, none⟩ = some (.int .i64 (((s1.at_ + k) + n : Nat) : Int)) := hrd.c1
        have hgl := hrd.lt
        have hcap := hrd.arg.le
        obtain ⟨hi, hhi⟩ : ∃ hi, hi = pp + n := ⟨_, rfl⟩
        have HHI : Hid ((hi : Int) - (n : Int) = (pp : Int)) := by show _ = _; omega
        rw [← HPP.out, ← hhi] at d1
        have b1 : pp ≤ l.length := by omega
        have b2 : pp ≤ hi := by omega
        have b3 : hi ≤ l.length := by have := HPP.out; omega
        have b4 : hi - pp = n := by omega
        have hk1 := fun W => run_cut_lh W A l.length cap pp hi b2 (by omega)
        rw [b4] at hk1
        have hsub := HHI.out
        rw [← HPP.out] at HT
        have hlen : ((l.drop pp).take n).length = n := by rw [List.length_take, List.length_drop]; omega
        have HLEN := hide hlen
        have hgm := hw0
        have HGM := hide (show g < W.heap.size from hgl)
        have HCL := hide (fun W' (hb : Below W.heap.size W W') => bytes_any (cutA A cap pp) (cap - pp) n ((l.drop pp).take n) W' hlen (by omega) (((hrd.arg.below hb (Nat.le_refl _)).cut pp b1).first n).reads)
        clear hrd hbt HCC HB1 HR1 hlen hcap hhi b4 hlt c0 c1 hfr hgm HFI HHI
        refine wp_region_made [47, 48, 49, 50, 51, 52, 53, 54, 55, 56, 57, 58, 59, 60, 61, 62] (fun d => match d with
          | 47 => .is (.pointer (some ⟨g, 0, none⟩)) | 48 => .is (.pointer (some ⟨g, 0, none⟩)) | 49 => .is (.pointer (some ⟨g, 0, none⟩)) | 50 => .is (.slice A l.length cap)
          | 51 => .is (.pointer (some ⟨g, 0, none⟩)) | 52 => .is (.pointer (some ⟨g, 0, none⟩)) | 53 => .is (.pointer (some ⟨g, 1, none⟩)) | 54 => .is (.int .i64 hi) | 55 => .is (.int .i64 n) | 56 => .is (.int .i64 pp)
          | 57 => .is (.pointer (some ⟨g, 0, none⟩)) | 58 => .is (.pointer (some ⟨g, 0, none⟩)) | 59 => .is (.pointer (some ⟨g, 1, none⟩)) | 60 => .is (.int .i64 hi)
          | 61 => .is (.slice (cutA A cap pp) n (cap - pp)) | 62 => .bytes W.heap.size g ((l.drop pp).take n)
          | _ => .any) _ (by kernel_rfl) (by kernel_rfl) rfl (by kernel_rfl) ?_ ?_
        · simp only [List.size_toArray, List.length_cons, List.length_nil, List.take_succ_cons, List.take_zero, StepsOk]
          refine ⟨?_, ?_, ?_, ?_, ?_, ?_, ?_, ?_, ?_, ?_, ?_, ?_, ?_, ?_, ?_, ?_, trivial⟩
          all_goals
            intro ev w1 hb hev hd
            have ev0 : ev (.tmp 0) = .pointer (some ⟨g, 0, none⟩) := hev _ (by simp)
            have ev6 : ev (.tmp 6) = .int .i64 n := hev _ (by simp)
            have evf : ∀ f, ev (.func f) = .func (.func f) #[] #[] := fun f => hev _ (by simp)
            have hd0 := (hb.cell (p := ⟨g, 0, none⟩) hgl).trans d0
            have hd1 := (hb.cell (p := ⟨g, 1, none⟩) hgl).trans d1
            have HB := hide hb
            clear hev hb
            simp [DepsOk, Known.is] at hd
            try simp [OpRuns, execOp, go_sem, Known.is, Below.refl, *]
          · rw [IntKind.wrap_i64]; omega
          · refine (HCL.out w1 HB.out).mono ?_
            rintro e w2 ⟨v, rfl, ho, hb'⟩
            exact ⟨v, rfl, hb', Nat.lt_of_lt_of_le HGM.out (Nat.le_trans HB.out.size hb'.size), (ho.mono HB.out.size).two HGM.out⟩
        · intro f w1 hb hf
          have hk62 : g < w1.heap.size ∧ Own2 W.heap.size g ((l.drop pp).take n) (f 62) w1 := hf 62 (by simp)
          obtain ⟨-, A', c', e62, ha', hne'⟩ := hk62
          rw [HLEN.out] at e62
          have HA' := hide ha'
          have HNE := hide hne'
          have HBB := hide hb
          clear hf hb ha' hne'
          simp only [puts]
          go_wp2_with fail
          go_ret
          have HON : s1.on (k + n) = (s1.on k).on n := by unfold Vi.Rs.on; rw [Nat.add_assoc]
          refine ⟨_, rfl, ?_, ?_, HBT.out.trans (But.of_below HBB.out)⟩
          · rw [HT.out]; exact ⟨A', c', by rw [HLEN.out]; rfl, HA'.out, fun b off h => ⟨Nat.le_trans hw0 (HNE.out b off h).1, (HNE.out b off h).2⟩⟩
          · rw [HT.out, HON]; exact HRD.out.below HBB.out
end Go.Proofs.YtdiplknlkmealaaDoor
