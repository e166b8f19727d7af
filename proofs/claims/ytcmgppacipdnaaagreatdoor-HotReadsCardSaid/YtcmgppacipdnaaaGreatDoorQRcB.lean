/-
  The walks through rec's Bytes, Size, and the chapter's example.
-/
import Derived.Test.YtcmgppacipdnaaaGreatDoorQRcL
import Derived.Test.YtcmgppacipdnaaaGreatDoorQTable
namespace Go.Proofs.YtcmgppacipdnaaaGreatDoor
open Go.RowKit Crc

def Rc.sumN (l : List UInt8) : Nat := (sum l).toNat
theorem Rc.sumN_lt (l : List UInt8) : Rc.sumN l < 4294967296 := (sum l).isLt
def Rc.bytes (b : Rc.Bat) : List UInt8 := (Rc.le 4 (Rc.body b).length ++ Rc.le 4 (Rc.sumN (Rc.body b))) ++ Rc.body b
theorem Rc.bytes_len (b : Rc.Bat) : (Rc.bytes b).length = 8 + (Rc.body b).length := by
  unfold Rc.bytes
  simp only [List.length_append, Rc.le_len]
theorem sum_one (A : Option Addr) (c : Nat) (l : List UInt8) : U (sum (flat [⟨A, c, l⟩])) = ((Rc.sumN l : Nat) : Int) := by
  unfold U Rc.sumN flat
  simp

set_option maxRecDepth 100000 in
set_option maxHeartbeats 1000000 in
theorem batBytes_bad (b : Rc.Bat) (A : Option Addr) (cap n : Nat) (w : World) (p : Nat → Addr) (h : IsBat w A cap b) (hs : Sents2 w p) (hn : b.recs.length = n) (hb : Rc.bad b ≠ 0) :
    Calls Tryz.prog 106 #[batV b.base b.epoch A n cap] w fun e w' => e = .returned (.tuple #[.slice none 0 0, errV (p (Rc.bad b - 101))]) ∧ Below w.heap.size w w' := by
  have hb0 : Below w.heap.size w (w.alloc (.cells #[.int .i64 b.base, .int .i64 b.epoch, .slice A n cap] 36)) := balloc (Below.refl _ _) _
  have HV := hide (valid_any b A cap n (w.alloc (.cells #[.int .i64 b.base, .int .i64 b.epoch, .slice A n cap] 36)) p (h.below hb0 (Nat.le_refl _)) (hs.below hb0) hn)
  have HB0 := hide hb0
  have hE : errOf p (Rc.bad b) = .iface 297 (.pointer (some (p (Rc.bad b - 101)))) := by unfold errOf; rw [if_neg hb]; rfl
  rw [hE] at HV
  have k1 := neq_nil 297 (.pointer (some (p (Rc.bad b - 101))))
  unfold errV
  clear h hs hb0 hE
  go_enter Tryz.func106, Tryz.ntmps106
  go_wp2_with fail
  refine HV.out.mono ?_
  rintro e w1 ⟨rfl, hb1⟩
  have HB1 := hide (HB0.out.trans (hb1.mono HB0.out.size))
  clear hb1
  go_wp2_with fail
  go_ret2
  exact ⟨rfl, HB1.out⟩

set_option maxRecDepth 100000 in
set_option maxHeartbeats 2000000 in
theorem batBytes_any (b : Rc.Bat) (A : Option Addr) (cap n : Nat) (w : World) (p : Nat → Addr) (h : IsBat w A cap b) (hs : Sents2 w p) (ht : Tabs w) (hn : b.recs.length = n) (hg : Rc.Good b) :
    Calls Tryz.prog 106 #[batV b.base b.epoch A n cap] w fun e w' => ∃ v, e = .returned (.tuple #[v, .nilIface]) ∧ Own w' w.heap.size v (Rc.bytes b) ∧ Below w.heap.size w w' := by
  obtain ⟨W0, hW0⟩ : ∃ W0, W0 = w.alloc (.cells #[.int .i64 b.base, .int .i64 b.epoch, .slice A n cap] 36) := ⟨_, rfl⟩
  have hb0 : Below w.heap.size w W0 := hW0 ▸ balloc (Below.refl _ _) _
  have hz0 : W0.heap.size = w.heap.size + 1 := by rw [hW0]; simp
  obtain ⟨m0, m1, m2⟩ := made3 w (.int .i64 b.base) (.int .i64 b.epoch) (.slice A n cap) 36
  rw [← hW0] at m0 m1 m2
  have HV := hide (valid_any b A cap n W0 p (h.below hb0 (Nat.le_refl _)) (hs.below hb0) hn)
  rw [(Rc.bad_good b).2 hg, show errOf p 0 = .nilIface from rfl] at HV
  have HB0 := hide hb0
  obtain ⟨hbl1, hbl2⟩ := Rc.body_len b hg
  have hn1 := hg.n1
  have HT := hide ht
  have HL := hide (fun W (hw : Below W0.heap.size W0 W) => lay_any b A cap n W ((h.below hb0 (Nat.le_refl _)).below hw (Nat.le_refl _)) hg hn)
  have HBY : Hid (Rc.bytes b = (Rc.le 4 (Rc.body b).length ++ Rc.le 4 (Rc.sumN (Rc.body b))) ++ Rc.body b) := hide rfl
  have HSL := hide (Rc.sumN_lt (Rc.body b))
  clear h hs hb0 ht hg
  go_enter Tryz.func106, Tryz.ntmps106
  go_upto_region 1 with fail
  rw [← hW0]
  clear hW0
  go_wp2_with fail
  refine HV.out.mono ?_
  rintro e w1 ⟨rfl, hb1⟩
  have HB1 := hide hb1
  have d0 := (hb1.cell (p := ⟨w.heap.size, 0, none⟩) (by show w.heap.size < _; omega)).trans m0
  have d1 := (hb1.cell (p := ⟨w.heap.size, 1, none⟩) (by show w.heap.size < _; omega)).trans m1
  have d2 := (hb1.cell (p := ⟨w.heap.size, 2, none⟩) (by show w.heap.size < _; omega)).trans m2
  have hz1 := hb1.size
  clear hb1 m0 m1 m2 HV
  go_wp2_with fail
  refine (HL.out _ HB1.out).mono ?_
  rintro e w2 ⟨v2, rfl, ho2, hb2⟩
  have HB2 := hide (HB1.out.trans (hb2.mono hz1))
  have hz2 := hb2.size
  have HO2 := hide (ho2.mono hz1)
  clear d0 d1 d2 ho2 hb2 HL HB1
  obtain ⟨A2, c2, rfl, ha2⟩ := HO2.out.arg
  have HA2 := hide ha2
  clear ha2
  generalize Rc.body b = bd at *
  have HF3 := hide (fix_any w2.heap.size (.slice none 0 0) [] bd.length 4 w2 (by omega) (by omega) (by simp) (Own.nil _ _) (Nat.le_refl _))
  go_upto_region 6 with fail
  refine HF3.out.mono ?_
  rintro e w3 ⟨v3, rfl, ho3, hg3⟩
  have hb3 := hg3.below (Own.nil w2 w2.heap.size) (Nat.le_refl _) (Nat.le_refl _)
  have HO3 := hide ho3
  have HB3 := hide hb3
  have hz3 := hb3.size
  have HA3 := hide (HA2.out.below hb3 (Nat.le_refl _))
  have HT3 := hide (HT.out.below (HB0.out.trans ((HB2.out.trans (hb3.mono (by omega))).mono HB0.out.size)) (Nat.le_refl _))
  clear ho3 hg3 hb3 HF3
  go_upto_region 6 with fail
  have HOF := hide (of_at (some ⟨w3.heap.size, 0, none⟩) 1 1 [⟨A2, c2, bd⟩] (w3.alloc (.cells #[.slice A2 bd.length c2] 67)) rfl (by omega) (readsAll_slice _ _ _ _ _ _ _ rfl rfl HA3.out.reads (by omega)) (HT3.out.below (balloc (Below.refl _ _) _) (Nat.le_refl _)))
  rw [sum_one] at HOF
  have hba : Below w3.heap.size w3 (w3.alloc (.cells #[.slice A2 bd.length c2] 67)) := balloc (Below.refl _ _) _
  go_wp2_with fail
  refine HOF.out.mono ?_
  rintro e w4 ⟨rfl, q, rfl⟩
  have hb4 := below_drewN hba q
  have HB4 := hide (HB3.out.trans (hb4.mono hz3))
  have HA4 := hide (HA3.out.below hb4 (Nat.le_refl _))
  have HO4 := hide (HO3.out.below hb4 (Nat.le_refl _))
  have hz4 := hb4.size
  clear hba hb4 HOF HA3 HO3 HB3 HT3
  generalize (w3.alloc (.cells #[.slice A2 bd.length c2] 67)).drewN q = w4 at *
  generalize hsn : Rc.sumN bd = sn at *
  have HF5 := hide (fix_any w2.heap.size v3 ([] ++ Rc.le 4 bd.length) sn 4 w4 (by have := HSL.out; omega) (by omega) (by simp [Rc.le_len]) HO4.out (by omega))
  have hsl := HSL.out
  go_wp2_with fail
  refine HF5.out.mono ?_
  rintro e w5 ⟨v5, rfl, ho5, hg5⟩
  have hb5 := hg5.below HO4.out (Nat.le_refl _) (by omega)
  have HB5 := hide (HB4.out.trans hb5)
  have HA5 := hide (HA2.out.below HB5.out (Nat.le_refl _))
  have HO5 := hide ho5
  have hz5 := hb5.size
  have hl5 : (([] ++ Rc.le 4 bd.length) ++ Rc.le 4 sn).length = 8 := by simp [Rc.le_len]
  clear ho5 hg5 hb5 HF5 hsl HA4 HO4 HB4
  go_wp2_with (at_builtin; refine wpList_app (w := w5) rfl (.tmp 24) (.tmp 25) rfl w2.heap.size _ (([] ++ Rc.le 4 bd.length) ++ Rc.le 4 sn) bd rfl HO5.out A2 bd.length c2 rfl rfl HA5.out.reads (by omega) (by omega) ?_; intro v6 w6 hown6 hg6 hv6)
  go_ret2
  refine ⟨_, rfl, ?_, HB0.out.trans ((HB2.out.trans ((HB5.out.grown hg6 (by omega) (fun g hg => (HO5.out.lt g hg).1)).mono (by omega))).mono (by omega))⟩
  rw [HBY.out]
  exact hown6.mono (by omega)

set_option maxRecDepth 100000 in
set_option maxHeartbeats 1000000 in
theorem size_any_bat (b : Rc.Bat) (A : Option Addr) (cap n : Nat) (w : World) (p : Nat → Addr) (h : IsBat w A cap b) (hs : Sents2 w p) (hn : b.recs.length = n) :
    Calls Tryz.prog 99 #[batV b.base b.epoch A n cap] w fun e w' => e = .returned (.int .i64 ((if Rc.bad b = 0 then (Rc.bytes b).length else 0 : Nat) : Int)) ∧ Below w.heap.size w w' := by
  obtain ⟨W0, hW0⟩ : ∃ W0, W0 = w.alloc (.cells #[.int .i64 b.base, .int .i64 b.epoch, .slice A n cap] 36) := ⟨_, rfl⟩
  have hb0 : Below w.heap.size w W0 := hW0 ▸ balloc (Below.refl _ _) _
  have hz0 : W0.heap.size = w.heap.size + 1 := by rw [hW0]; simp
  obtain ⟨m0, m1, m2⟩ := made3 w (.int .i64 b.base) (.int .i64 b.epoch) (.slice A n cap) 36
  rw [← hW0] at m0 m1 m2
  have HV := hide (valid_any b A cap n W0 p (h.below hb0 (Nat.le_refl _)) (hs.below hb0) hn)
  have HB0 := hide hb0
  have HH := hide (h.below hb0 (Nat.le_refl _))
  clear h hs hb0
  by_cases hbad : Rc.bad b = 0
  · have hg := (Rc.bad_good b).1 hbad
    rw [hbad, show errOf p 0 = .nilIface from rfl] at HV
    have HL := hide (fun W (hw : Below W0.heap.size W0 W) => lay_any b A cap n W (HH.out.below hw (Nat.le_refl _)) hg hn)
    obtain ⟨hbl1, hbl2⟩ := Rc.body_len b hg
    have hn1 := hg.n1
    have HLN : Hid ((if Rc.bad b = 0 then (Rc.bytes b).length else 0 : Nat) = 8 + (Rc.body b).length) := by show _ = _; rw [if_pos hbad, Rc.bytes_len]
    rw [HLN.out]
    clear hg hbad HH HLN
    generalize Rc.body b = bd at *
    go_enter Tryz.func99, Tryz.ntmps99
    go_upto_region 1 with fail
    rw [← hW0]
    clear hW0
    go_wp2_with fail
    refine HV.out.mono ?_
    rintro e w1 ⟨rfl, hb1⟩
    have HB1 := hide hb1
    have d0 := (hb1.cell (p := ⟨w.heap.size, 0, none⟩) (by show w.heap.size < _; omega)).trans m0
    have d1 := (hb1.cell (p := ⟨w.heap.size, 1, none⟩) (by show w.heap.size < _; omega)).trans m1
    have d2 := (hb1.cell (p := ⟨w.heap.size, 2, none⟩) (by show w.heap.size < _; omega)).trans m2
    have hz1 := hb1.size
    clear hb1 m0 m1 m2 HV
    go_wp2_with fail
    refine (HL.out _ HB1.out).mono ?_
    rintro e w2 ⟨v2, rfl, ho2, hb2⟩
    have HB2 := hide (HB0.out.trans ((HB1.out.trans (hb2.mono hz1)).mono (by omega)))
    obtain ⟨A2, c2, rfl, ha2⟩ := ho2.arg
    clear ho2 hb2 ha2 HL HB1 d0 d1 d2
    go_wp2_with fail
    go_ret
    refine ⟨?_, HB2.out⟩
    congr 2
  · have hE : errOf p (Rc.bad b) = .iface 297 (.pointer (some (p (Rc.bad b - 101)))) := by unfold errOf; rw [if_neg hbad]; rfl
    rw [hE] at HV
    have k1 := neq_nil 297 (.pointer (some (p (Rc.bad b - 101))))
    have HLN : Hid ((if Rc.bad b = 0 then (Rc.bytes b).length else 0 : Nat) = 0) := by show _ = _; rw [if_neg hbad]
    rw [HLN.out]
    clear hE hbad HH HLN
    go_enter Tryz.func99, Tryz.ntmps99
    go_upto_region 1 with fail
    rw [← hW0]
    clear hW0
    go_wp2_with fail
    refine HV.out.mono ?_
    rintro e w1 ⟨rfl, hb1⟩
    have HB1 := hide (HB0.out.trans (hb1.mono HB0.out.size))
    clear hb1
    go_wp2_with fail
    go_ret
    exact ⟨rfl, HB1.out⟩

def Rc.one : Rc.Bat := ⟨0, 0, [⟨0, [], []⟩]⟩
theorem IsBat.one (w : World) (t : TypeId) : IsBat (w.alloc (.cells #[.int .i64 0, .slice none 0 0, .slice none 0 0] t)) (some ⟨w.heap.size, 0, none⟩) 1 Rc.one := by
  refine ⟨by decide, by omega, .inr ⟨_, _, rfl, by simp, fun k hk => ?_⟩, by decide, by decide⟩
  obtain rfl : k = 0 := by simp [Rc.one] at hk; exact hk
  exact ⟨none, 0, none, 0, by simp [Rc.one], by simp [Rc.one], by simp [Rc.one], ⟨Nat.le_refl _, by omega, fun _ => rfl, .inl rfl⟩, ⟨Nat.le_refl _, by omega, fun _ => rfl, .inl rfl⟩⟩

end Go.Proofs.YtcmgppacipdnaaaGreatDoor
