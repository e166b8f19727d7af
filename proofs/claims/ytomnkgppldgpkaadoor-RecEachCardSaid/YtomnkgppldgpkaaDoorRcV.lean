/-
  The walk through rec's Valid.
-/
import Derived.Test.YtomnkgppldgpkaaDoorRcM
import Derived.Test.YtomnkgppldgpkaaDoorRegion
import Derived.Deep.RegionHeld3
import Derived.Deep.DeepCutAuto
namespace Go.Proofs.YtomnkgppldgpkaaDoor
open Go.RowKit

theorem SentsOn.alloc {S : Nat → Prop} {w : World} {p : Nat → Addr} (h : SentsOn S w p) (o : Obj) : SentsOn S (w.alloc o) p := h.below (balloc (Below.refl _ _) o)
theorem err_cell {w : World} {p : Nat → Addr} (h : Sents2 w p) : w.cell? ⟨4, 0, none⟩ = some (.iface 130 (.pointer (some (p 4)))) := h.cell 4 (by omega)

set_option maxRecDepth 100000 in
set_option maxHeartbeats 1000000 in
theorem valid_many (base epoch : Int) (n : Nat) (A : Option Addr) (cap : Nat) (w : World) (p : Nat → Addr) (hs : Sents2 w p) (hm : n ≤ 9223372036854775807) (hn : n = 0 ∨ 64 < n) :
    Calls Tryd.prog 34 #[batV base epoch A n cap] w fun e w' => e = .returned (errV (p 3)) ∧ Below w.heap.size w w' := by
  have e0 := (hs.alloc (.cells #[.int .i64 base, .int .i64 epoch, .slice A n cap] 26)).cell 3 (by omega)
  change (w.alloc _).cell? ⟨1, 0, none⟩ = _ at e0
  clear hs
  unfold errV at *
  rcases hn with rfl | hn
  · go_enter Tryd.func34, Tryd.ntmps34
    go_wp2_with fail
    go_ret
    exact ⟨rfl, balloc (Below.refl _ _) _⟩
  · go_enter Tryd.func34, Tryd.ntmps34
    go_wp2_with fail
    go_ret
    exact ⟨rfl, balloc (Below.refl _ _) _⟩

set_option maxRecDepth 100000 in
set_option maxHeartbeats 1000000 in
theorem valid_range (ba ep : Int) (n : Nat) (A : Option Addr) (cap : Nat) (w : World) (p : Nat → Addr) (hb1 : -9223372036854775808 ≤ ba ∧ ba ≤ 9223372036854775807) (hs : Sents2 w p) (hn0 : n ≠ 0) (hn1 : n ≤ 64) (hr : ba < 0 ∨ 1099511627776 < ba + n ∨ ep < 0 ∨ 1073741824 < ep) :
    Calls Tryd.prog 34 #[batV ba ep A n cap] w fun e w' => e = .returned (errV (p 4)) ∧ Below w.heap.size w w' := by
  have hs0 := hs.alloc (.cells #[.int .i64 ba, .int .i64 ep, .slice A n cap] 26)
  have e0 := err_cell hs0
  have HS0 := hide hs0
  have hbb : Below w.heap.size w (w.alloc (.cells #[.int .i64 ba, .int .i64 ep, .slice A n cap] 26)) := balloc (Below.refl _ _) _
  have HB0 := hide hbb
  have q1 : ((n : Int) == 0) = false := by simp; omega
  have q2 : decide ((64 : Int) < (n : Int)) = false := by simp; omega
  clear hs hs0 hn0 hbb
  unfold errV at *
  by_cases hw1 : 0 ≤ ba ∧ ba ≤ 1099511627776
  · have HN := hide (fun W => next_bat ba ep A n cap W (by omega) (by omega))
    have hd1 : decide (0 ≤ ba ∧ ba ≤ 1099511627776) = true := by simp [hw1]
    by_cases hw2 : 1099511627776 < ba + n
    · have hd2 : decide (1099511627776 < ba + n) = true := by simp [hw2]
      clear hr hw1 hw2 hb1
      go_enter Tryd.func34, Tryd.ntmps34
      go_wp2_with (go_at_call 57; refine (within_any _ _ _ _).mono ?_; rintro e w1 ⟨rfl, rfl⟩; rw [hd1])
      refine (HN.out _).mono ?_
      rintro e w1 ⟨rfl, hb2⟩
      have e1 := err_cell (HS0.out.below hb2)
      have HB2 := hide (HB0.out.trans (hb2.mono HB0.out.size))
      clear hb2
      go_wp2_with fail
      go_ret
      exact ⟨rfl, HB2.out⟩
    · have hd2 : decide (1099511627776 < ba + n) = false := by simp; omega
      have hd3 : decide (0 ≤ ep ∧ ep ≤ 1073741824) = false := by simp; omega
      clear hr hw1 hw2 hb1
      go_enter Tryd.func34, Tryd.ntmps34
      go_wp2_with (go_at_call 57; refine (within_any _ _ _ _).mono ?_; rintro e w1 ⟨rfl, rfl⟩; rw [hd1])
      refine (HN.out _).mono ?_
      rintro e w1 ⟨rfl, hb2⟩
      have hc : ∀ k, w1.cell? ⟨w.heap.size, k, none⟩ = (w.alloc (.cells #[.int .i64 ba, .int .i64 ep, .slice A n cap] 26)).cell? ⟨w.heap.size, k, none⟩ := fun k => hb2.cell (p := ⟨w.heap.size, k, none⟩) (by simp)
      have hc1 : w1.cell? ⟨w.heap.size, 1, none⟩ = some (.int .i64 ep) := by rw [hc, World.cell?_alloc_mark]; rfl
      have e1 := err_cell (HS0.out.below hb2)
      have HB2 := hide (HB0.out.trans (hb2.mono HB0.out.size))
      clear hb2 hc
      go_wp2_with (go_at_call 57; refine (within_any _ _ _ _).mono ?_; rintro e w1 ⟨rfl, rfl⟩; rw [hd3])
      go_ret
      exact ⟨rfl, HB2.out⟩
  · have hd1 : decide (0 ≤ ba ∧ ba ≤ 1099511627776) = false := by simp; omega
    clear hr hw1 hb1
    go_enter Tryd.func34, Tryd.ntmps34
    go_wp2_with (go_at_call 57; refine (within_any _ _ _ _).mono ?_; rintro e w1 ⟨rfl, rfl⟩; rw [hd1])
    go_ret
    exact ⟨rfl, HB0.out⟩

theorem all_take_succ (rs : List Rc.Rec) (k : Nat) (h : k < rs.length) : (rs.take (k + 1)).all Rc.recOk = ((rs.take k).all Rc.recOk && Rc.recOk (rs.getD k default)) := by
  rw [List.take_succ_eq_append_getElem h, List.all_append]
  simp [List.getD, h]

set_option maxRecDepth 100000 in
set_option maxHeartbeats 1000000 in
theorem valid_recs (ba ep : Int) (rs : List Rc.Rec) (A : Option Addr) (cap : Nat) (w : World) (p : Nat → Addr) (hrec : Recs w A rs) (hs : Sents2 w p) (hn0 : rs.length ≠ 0) (hn1 : rs.length ≤ 64) (hw : 0 ≤ ba) (hw2 : ba + rs.length ≤ 1099511627776) (he : 0 ≤ ep ∧ ep ≤ 1073741824) :
    Calls Tryd.prog 34 #[batV ba ep A rs.length cap] w fun e w' => e = .returned (errOf p (if rs.all Rc.recOk = false then 105 else 0)) ∧ Below w.heap.size w w' := by
  generalize hV : errOf p (if rs.all Rc.recOk = false then 105 else 0) = V
  have HV := hide hV.symm
  clear hV
  have hs0 := hs.alloc (.cells #[.int .i64 ba, .int .i64 ep, .slice A rs.length cap] 26)
  have HS0 := hide hs0
  have hbb : Below w.heap.size w (w.alloc (.cells #[.int .i64 ba, .int .i64 ep, .slice A rs.length cap] 26)) := balloc (Below.refl _ _) _
  have HB0 := hide hbb
  have HR := hide hrec
  have HS := hide hs
  have q1 : ((rs.length : Int) == 0) = false := by rw [beq_eq_false_iff_ne]; omega
  have q2 : decide ((64 : Int) < (rs.length : Int)) = false := by simp; omega
  have HN := hide (fun W => next_bat ba ep A rs.length cap W (by omega) (by omega))
  have hd1 : decide (0 ≤ ba ∧ ba ≤ 1099511627776) = true := decide_eq_true (by omega)
  have hd2 : decide (1099511627776 < ba + rs.length) = false := by simp; omega
  have hd3 : decide (0 ≤ ep ∧ ep ≤ 1073741824) = true := by simp [he]
  clear hs hs0 hn0 hbb hrec hw hw2 he
  go_enter Tryd.func34, Tryd.ntmps34
  go_wp2_with (go_at_call 57; refine (within_any _ _ _ _).mono ?_; rintro e w1 ⟨rfl, rfl⟩; rw [hd1])
  refine (HN.out _).mono ?_
  rintro e w1 ⟨rfl, hb2⟩
  have hc : ∀ k, w1.cell? ⟨w.heap.size, k, none⟩ = (w.alloc (.cells #[.int .i64 ba, .int .i64 ep, .slice A rs.length cap] 26)).cell? ⟨w.heap.size, k, none⟩ := fun k => hb2.cell (p := ⟨w.heap.size, k, none⟩) (by simp)
  have hc1 : w1.cell? ⟨w.heap.size, 1, none⟩ = some (.int .i64 ep) := by rw [hc, World.cell?_alloc_mark]; rfl
  have hc2 : w1.cell? ⟨w.heap.size, 2, none⟩ = some (.slice A rs.length cap) := by rw [hc, World.cell?_alloc_mark]; rfl
  have HB2 := hide (HB0.out.trans (hb2.mono HB0.out.size))
  clear hb2 hc
  go_wp2_with (go_at_call 57; refine (within_any _ _ _ _).mono ?_; rintro e w1 ⟨rfl, rfl⟩; rw [hd3])
  go_loopw [35] (fun i wr => ∃ k : Nat, k ≤ rs.length ∧ i = .int .i64 k ∧ (rs.take k).all Rc.recOk = true ∧ Below w.heap.size w wr) (fun i _ => rs.length - (intOf i).toNat)
  case atStart => exact ⟨0, Nat.zero_le _, rfl, by simp, HB2.out⟩
  case round =>
    obtain ⟨k, hk, rfl, hok, hb⟩ := hrel
    have HBK := hide hb
    have HOK := hide hok
    clear hb hok
    by_cases hlt : k < rs.length
    · rcases HR.out with h0 | ⟨b, off, rfl, hb0, hcl⟩
      · rw [h0] at hlt; simp at hlt
      obtain ⟨Ak, ck, Av, cv, c0, c1, c2, ha, hv⟩ := (hcl k hlt).ex
      have d0 := (HBK.out.cell (p := ⟨b, off + k * 3, none⟩) hb0).trans c0
      have d1 := (HBK.out.cell (p := ⟨b, off + k * 3 + 1, none⟩) hb0).trans c1
      have d2 := (HBK.out.cell (p := ⟨b, off + k * 3 + 2, none⟩) hb0).trans c2
      have HAS := hide (all_take_succ rs k hlt)
      have HMEM : Hid (rs.getD k default ∈ rs) := by
        show _ ∈ _
        rw [show rs.getD k default = rs[k] from by simp [List.getD, hlt]]; exact List.getElem_mem hlt
      have hmk := Nat.le_trans ha.le ha.max
      have hmv := Nat.le_trans hv.le hv.max
      clear hcl c0 c1 c2 ha hv
      generalize rs.getD k default = x at *
      obtain ⟨t, ky, vl⟩ := x
      simp only at d0 d1 d2 hmk hmv
      have e1 := err_cell ((HS.out.below HBK.out).alloc (.cells #[.int .i64 t, .slice Ak ky.length ck, .slice Av vl.length cv] 48))
      have HBN := hide (balloc HBK.out (.cells #[.int .i64 t, .slice Ak ky.length ck, .slice Av vl.length cv] 48))
      by_cases hbad : Rc.recOk ⟨t, ky, vl⟩ = true
      · have HN1 : Hid ((rs.take (k + 1)).all Rc.recOk = true) := by
          show _ = _
          rw [HAS.out, HOK.out, hbad]; rfl
        simp only [Rc.recOk, decide_eq_true_eq] at hbad
        have hd4 : decide (-1099511627776 ≤ t ∧ t ≤ 1099511627776) = true := by simp; omega
        have hd5 : decide ((64 : Int) < (ky.length : Int)) = false := by simp; omega
        have hd6 : decide ((512 : Int) < (vl.length : Int)) = false := by simp; omega
        clear hbad HAS HMEM
        go_wp2_with (go_at_call 57; refine (within_any _ _ _ _).mono ?_; rintro e w1 ⟨rfl, rfl⟩; rw [hd4])
        go_roundw
        case rel => exact ⟨k + 1, by omega, by go_num, HN1.out, HBN.out⟩
        case measure => simp [intOf]; omega
      · have HE : Hid (V = .iface 130 (.pointer (some (p 4)))) := by
          show _ = _
          have : rs.all Rc.recOk = false := by
            rw [List.all_eq_false]
            exact ⟨_, HMEM.out, hbad⟩
          rw [HV.out, if_pos this]; rfl
        simp only [Rc.recOk, decide_eq_true_eq] at hbad
        clear HAS HMEM
        by_cases ht : -1099511627776 ≤ t ∧ t ≤ 1099511627776
        · have hd4 : decide (-1099511627776 ≤ t ∧ t ≤ 1099511627776) = true := by simp [ht]
          by_cases hkl : 64 < ky.length
          · have hd5 : decide ((64 : Int) < (ky.length : Int)) = true := by simp; omega
            clear hbad ht
            go_wp2_with (go_at_call 57; refine (within_any _ _ _ _).mono ?_; rintro e w1 ⟨rfl, rfl⟩; rw [hd4])
            go_ret
            exact ⟨HE.out.symm ▸ rfl, HBN.out⟩
          · have hd5 : decide ((64 : Int) < (ky.length : Int)) = false := by simp; omega
            have hd6 : decide ((512 : Int) < (vl.length : Int)) = true := by simp; omega
            clear hbad ht
            go_wp2_with (go_at_call 57; refine (within_any _ _ _ _).mono ?_; rintro e w1 ⟨rfl, rfl⟩; rw [hd4])
            go_ret
            exact ⟨HE.out.symm ▸ rfl, HBN.out⟩
        · have hd4 : decide (-1099511627776 ≤ t ∧ t ≤ 1099511627776) = false := by simp; omega
          clear hbad ht
          go_wp2_with (go_at_call 57; refine (within_any _ _ _ _).mono ?_; rintro e w1 ⟨rfl, rfl⟩; rw [hd4])
          go_ret
          exact ⟨HE.out.symm ▸ rfl, HBN.out⟩
    · obtain rfl : k = rs.length := by omega
      have HE : Hid (V = .nilIface) := by
        show _ = _
        have := HOK.out
        rw [List.take_length] at this
        rw [HV.out, this]; rfl
      go_wp2_with fail
      go_ret
      exact ⟨HE.out.symm ▸ rfl, HBK.out⟩

theorem valid_any (b : Rc.Bat) (A : Option Addr) (cap n : Nat) (w : World) (p : Nat → Addr) (h : IsBat w A cap b) (hs : Sents2 w p) (hn : b.recs.length = n) :
    Calls Tryd.prog 34 #[batV b.base b.epoch A n cap] w fun e w' => e = .returned (errOf p (Rc.bad b)) ∧ Below w.heap.size w w' := by
  subst hn
  have hm := Nat.le_trans h.le h.max
  unfold Rc.bad
  by_cases h1 : b.recs.length = 0 ∨ 64 < b.recs.length
  · rw [if_pos h1]
    exact valid_many b.base b.epoch b.recs.length A cap w p hs hm h1
  · rw [if_neg h1]
    by_cases h2 : b.base < 0 ∨ 1099511627776 < b.base + b.recs.length ∨ b.epoch < 0 ∨ 1073741824 < b.epoch
    · rw [if_pos (by
        rcases h2 with hh | hh | hh | hh
        · exact .inl hh
        · exact .inr (.inl hh)
        · exact .inr (.inr (.inl hh))
        · exact .inr (.inr (.inr (.inl hh))))]
      exact valid_range b.base b.epoch b.recs.length A cap w p h.base hs (by omega) (by omega) h2
    · refine (valid_recs b.base b.epoch b.recs A cap w p h.recs hs (by omega) (by omega) (by omega) (by omega) (by omega)).mono fun e w' ⟨he, hb⟩ => ⟨?_, hb⟩
      rw [he]
      by_cases h3 : b.recs.all Rc.recOk = false
      · rw [if_pos h3, if_pos (.inr (.inr (.inr (.inr h3))))]
      · rw [if_neg h3, if_neg (fun hh => by
          rcases hh with hh | hh | hh | hh | hh
          · exact h2 (.inl hh)
          · exact h2 (.inr (.inl hh))
          · exact h2 (.inr (.inr (.inl hh)))
          · exact h2 (.inr (.inr (.inr hh)))
          · exact h3 hh)]
end Go.Proofs.YtomnkgppldgpkaaDoor
