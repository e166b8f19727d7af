/-
  The walk through rec's All.
-/
import Derived.Test.YtomnkgppldgpkaaDoorRcA
namespace Go.Proofs.YtomnkgppldgpkaaDoor
open Go.RowKit Crc

/-- What All gives. -/
def AllPost (p : Nat → Addr) (l : List UInt8) (w : World) (e : Ending) (w' : World) : Prop :=
  (∃ A c, e = .returned (.tuple #[.slice A (Rc.all l).1.length c, .int .i64 ((Rc.all l).2.1 : Nat), errOf p (Rc.all l).2.2]) ∧ (Rc.all l).1.length ≤ c ∧ c ≤ 9223372036854775807 ∧ Bats w' A (Rc.all l).1) ∧ Below w.heap.size w w'
set_option maxRecDepth 100000 in
set_option maxHeartbeats 2000000 in
theorem all_any (A : Option Addr) (cap n : Nat) (l : List UInt8) (w : World) (p : Nat → Addr) (hn : l.length = n) (hl : n ≤ 1000000) (ha : Arg w A cap l) (hs : Sents5 w p) (ht : Tabs w) :
    Calls Tryd.prog 8 #[.slice A n cap] w (AllPost p l w) := by
  subst hn
  have HA := hide ha
  have HS := hide hs
  have HT := hide ht
  have HL := hide hl
  clear ha hs ht
  go_enter Tryd.func8, Tryd.ntmps8
  go_wp2_with fail
  go_loopw [5, 6] (fun v i wr => ∃ (at_ : Nat) (qs : List PBat), i = .int .i64 at_ ∧ at_ ≤ l.length ∧ BRow wr w.heap.size v qs ∧ qs.length ≤ at_ ∧ Below w.heap.size w wr ∧ Rc.allGo l (l.length - at_) at_ (qs.map (·.b)) = Rc.all l) (fun _ i _ => l.length - (intOf i).toNat)
  case atStart => exact ⟨0, [], rfl, Nat.zero_le _, BRow.nil _ _, by simp, Below.refl _ _, rfl⟩
  case round =>
    obtain ⟨at_, qs, rfl, hat, hrow, hqa, hb, hgo⟩ := hrel
    have HRW := hide hrow
    have HBK := hide hb
    have HGO := hide hgo
    have hl' := hl
    clear hgo hb
    by_cases hlt : at_ < l.length
    · have kcut : ∀ W, (Instr.sliceAt 22 (.slice A l.length cap) (some (.int .i64 (at_ : Int))) none none).run Tryd.prog W = .ok (.slice (cutA A cap at_) (l.length - at_) (cap - at_)) W := fun W => run_cut_l W A l.length cap at_ hat
      have HRD := hide (read_any (cutA A cap at_) (cap - at_) (l.length - at_) (l.drop at_) wr p (by rw [List.length_drop]) (by omega) ((HA.out.below HBK.out (Nat.le_refl _)).cut at_ hat) (HS.out.below HBK.out) (HT.out.below HBK.out (Nat.le_refl _)))
      have HSTEP : Hid (Rc.all l = if Rc.rcode (l.drop at_) = 0 then Rc.allGo l (l.length - at_ - 1) (at_ + Rc.rsize (l.drop at_)) (qs.map (·.b) ++ [Rc.parse (Rc.rbody (l.drop at_))]) else (qs.map (·.b), at_, Rc.rcode (l.drop at_))) := by
        show _ = _
        rw [← HGO.out, show l.length - at_ = (l.length - at_ - 1) + 1 by omega, Rc.allGo, if_pos hlt]
        rfl
      have HRS := hide (Rc.rsize_le (l.drop at_))
      generalize hA' : cutA A cap at_ = A' at *
      clear hA' hrow
      obtain ⟨Av, cv, rfl, hqc, hqm, hbats⟩ := HRW.out.val
      by_cases hc : Rc.rcode (l.drop at_) = 0
      · have hrs := HRS.out hc
        rw [List.length_drop] at hrs
        have HALL : Hid (Rc.allGo l (l.length - (at_ + Rc.rsize (l.drop at_))) (at_ + Rc.rsize (l.drop at_)) (qs.map (·.b) ++ [Rc.parse (Rc.rbody (l.drop at_))]) = Rc.all l) := by
          show _ = _
          rw [HSTEP.out, if_pos hc]
          exact Rc.allGo_fuel _ _ _ _ _ (by omega) (by omega)
        have hE : errOf p (Rc.rcode (l.drop at_)) = .nilIface := by unfold errOf; rw [hc, if_pos rfl]
        unfold ReadPost at HRD
        rw [hE] at HRD
        clear hE HSTEP HRS
        generalize Rc.rsize (l.drop at_) = rs at *
        generalize Rc.parse (Rc.rbody (l.drop at_)) = nb at *
        have hcc := hide hc
        clear hc
        go_wp2_with fail
        refine HRD.out.mono ?_
        rintro e w3 ⟨⟨val, rfl, hy, -⟩, hb3⟩
        obtain ⟨An, cn, rfl, hnew⟩ := hy hcc.out
        have HNEW := hide hnew
        have hz3 := hb3.size
        clear hy hnew HRD kcut
        go_upto_region 5 with fail
        obtain ⟨k0, k1, k2⟩ := made3 w3 (.int .i64 nb.base) (.int .i64 nb.epoch) (.slice An nb.recs.length cn) 26
        have hal : Below w3.heap.size w3 (w3.alloc (.cells #[.int .i64 nb.base, .int .i64 nb.epoch, .slice An nb.recs.length cn] 26)) := balloc (Below.refl _ _) _
        have HR4 := hide ((HRW.out.below hb3).below hal)
        have HB4 := hide (HBK.out.trans ((hb3.trans (hal.mono hz3)).mono HBK.out.size))
        have HAB4 := hide (Above.of_below (lo := wr.heap.size) hal)
        have hlt4 : w3.heap.size < (w3.alloc (.cells #[.int .i64 nb.base, .int .i64 nb.epoch, .slice An nb.recs.length cn] 26)).heap.size := by simp
        obtain ⟨gb, hgb⟩ : ∃ gb, gb = w3.heap.size := ⟨_, rfl⟩
        rw [← hgb] at k0 k1 k2 ⊢
        have HZ4 := hide (show wr.heap.size ≤ (w3.alloc (.cells #[.int .i64 nb.base, .int .i64 nb.epoch, .slice An nb.recs.length cn] 26)).heap.size by omega)
        clear hal hgb hb3 hlt4
        generalize w3.alloc (.cells #[.int .i64 nb.base, .int .i64 nb.epoch, .slice An nb.recs.length cn] 26) = w4 at *
        obtain ⟨i0, hi, hz, hs1, hby⟩ := info_parts batch_info
        have HBAL : Hid (Below w4.heap.size w4 (w4.alloc (.cells #[.int .i64 nb.base, .int .i64 nb.epoch, .slice An nb.recs.length cn] 26))) := hide (balloc (Below.refl _ _) _)
        go_wp2_with (at_builtin; refine wpList_append_own_at (w := w4.alloc _) rfl (.tmp 27) (.tmp 29) 33 rfl w.heap.size 26 i0 _ 3 40 Tryd.underlying33 hi hz hs1 hby rfl (by omega) (.slice Av qs.length cv) qs.length (qs.flatMap PBat.cells) rfl (HR4.out.own.alloc _) ⟨w4.heap.size, 0, none⟩ 1 1 (PBat.cells ⟨nb, An, cn⟩) rfl rfl (cells_three _ _ _ _ _) (PBat.cells_one _) (by simp only [maxLen]; omega) (by omega) (by have := HB4.out.size; simp; omega) ?_; intro v5 w5 hown5 hg5 hnil5 hat5; have HROW5 := hide (HR4.out.app (q := ⟨nb, An, cn⟩) HNEW.out HAB4.out (fun k hk => (HRW.out.own.lt k hk).2) HBAL.out hg5 hat5 hown5); have HB5 := hide (HB4.out.trans ((HBAL.out.mono HB4.out.size).trans ((Below.refl w.heap.size _).grown hg5 (by have := HB4.out.size; simp; omega) (fun k hk => (HRW.out.own.lt k hk).1)))); clear hown5 hg5 hnil5 hat5)
        refine ⟨⟨at_ + rs, qs ++ [⟨nb, An, cn⟩], by go_num, by omega, HROW5.out, by simp; omega, HB5.out, ?_⟩, by simp [intOf]; omega⟩
        rw [List.map_append]
        exact HALL.out
      · have HALL : Hid (Rc.all l = (qs.map (·.b), at_, Rc.rcode (l.drop at_))) := by show _ = _; rw [HSTEP.out, if_neg hc]
        have hE : errOf p (Rc.rcode (l.drop at_)) = .iface 130 (.pointer (some (p (Rc.rcode (l.drop at_) - 101)))) := by unfold errOf; rw [if_neg hc]; rfl
        have hEE := hide hE.symm
        unfold ReadPost at HRD
        rw [hE] at HRD
        have hcc := hide hc
        clear hE HSTEP HRS hc
        generalize (.pointer (some (p (Rc.rcode (l.drop at_) - 101))) : Value) = xe at *
        have k1 := neq_nil 130 xe
        go_wp2_with fail
        refine HRD.out.mono ?_
        rintro e w3 ⟨⟨val, rfl, -, hno⟩, hb3⟩
        obtain rfl := hno hcc.out
        have hz3 := hb3.size
        clear hno HRD kcut
        go_upto_region 5 with fail
        have hal : Below w3.heap.size w3 (w3.alloc (.cells #[.int .i64 0, .int .i64 0, .slice none 0 0] 26)) := balloc (Below.refl _ _) _
        have hb4 := hb3.trans (hal.mono hz3)
        have HR4 := hide (HRW.out.below hb4)
        have HB4 := hide (HBK.out.trans (hb4.mono HBK.out.size))
        clear hal hb4 hb3
        generalize w3.alloc (.cells #[.int .i64 0, .int .i64 0, .slice none 0 0] 26) = w4 at *
        go_wp2_with fail
        go_ret3
        obtain ⟨Ax, cx, hv, hc1, hc2, hbx⟩ := HR4.out.val
        injection hv with hv1 hv2 hv3
        subst hv1 hv3
        refine ⟨⟨Av, cv, ?_, ?_, hc2, ?_⟩, HB4.out⟩
        · rw [HALL.out, ← hEE.out]
          simp
        · rw [HALL.out]; simpa using hc1
        · rw [HALL.out]; exact hbx
    · obtain rfl : at_ = l.length := by omega
      have HALL : Hid (Rc.all l = (qs.map (·.b), l.length, 0)) := by
        show _ = _
        rw [← HGO.out, Nat.sub_self]; rfl
      obtain ⟨Av, cv, rfl, hqc, hqm, hbats⟩ := HRW.out.val
      have HBT := hide hbats
      clear hbats hrow
      go_wp2_with fail
      go_ret3
      refine ⟨⟨Av, cv, ?_, ?_, hqm, ?_⟩, HBK.out⟩
      · rw [HALL.out]
        simp [errOf]
      · rw [HALL.out]; simpa using hqc
      · rw [HALL.out]; exact HBT.out
end Go.Proofs.YtomnkgppldgpkaaDoor
