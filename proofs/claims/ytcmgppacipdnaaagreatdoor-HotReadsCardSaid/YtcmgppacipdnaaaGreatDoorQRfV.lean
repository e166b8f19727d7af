/-
  The walks through the reference's Right, RightEpoch, RightTime and Valid.
  The reference's Next and Size.
  A log of segments: all of its batches, read one segment after the other.
  Package seg: Read, where no batch has the offset.
-/
import Derived.Test.YtcmgppacipdnaaaGreatDoorQRcM
import Derived.Test.YtcmgppacipdnaaaGreatDoorQRfB
import Derived.Test.YtcmgppacipdnaaaGreatDoorQEp
import Derived.LoopTactic
import Derived.Deep.LoopGhost
import Derived.Test.YtcmgppacipdnaaaGreatDoorQSgR
namespace Go.Proofs.YtcmgppacipdnaaaGreatDoor
open Go.RowKit

theorem right_any (n : Int) (w : World) :
    Calls Tryz.prog 91 #[.int .i64 n] w fun e w' => e = .returned (.bool (decide (0 ≤ n ∧ n ≤ 1099511627776))) ∧ w = w' := by
  by_cases h1 : 0 ≤ n
  · have hd : decide (0 ≤ n) = true := by simp [h1]
    have he : decide (0 ≤ n ∧ n ≤ 1099511627776) = decide (n ≤ 1099511627776) := by simp [h1]
    rw [he]
    clear he h1
    go_enter Tryz.func91, Tryz.ntmps91
    go_wp2_with fail
    go_ret
    exact ⟨rfl, rfl⟩
  · have hd : decide (0 ≤ n) = false := by simp; omega
    have he : decide (0 ≤ n ∧ n ≤ 1099511627776) = false := by simp; omega
    rw [he]
    clear he h1
    go_enter Tryz.func91, Tryz.ntmps91
    go_wp2_with fail
    go_ret
    exact ⟨rfl, rfl⟩
theorem rightEpoch_any (n : Int) (w : World) :
    Calls Tryz.prog 92 #[.int .i64 n] w fun e w' => e = .returned (.bool (decide (0 ≤ n ∧ n ≤ 1073741824))) ∧ w = w' := by
  by_cases h1 : 0 ≤ n
  · have hd : decide (0 ≤ n) = true := by simp [h1]
    have he : decide (0 ≤ n ∧ n ≤ 1073741824) = decide (n ≤ 1073741824) := by simp [h1]
    rw [he]
    clear he h1
    go_enter Tryz.func92, Tryz.ntmps92
    go_wp2_with fail
    go_ret
    exact ⟨rfl, rfl⟩
  · have hd : decide (0 ≤ n) = false := by simp; omega
    have he : decide (0 ≤ n ∧ n ≤ 1073741824) = false := by simp; omega
    rw [he]
    clear he h1
    go_enter Tryz.func92, Tryz.ntmps92
    go_wp2_with fail
    go_ret
    exact ⟨rfl, rfl⟩
theorem rightTime_any (n : Int) (w : World) :
    Calls Tryz.prog 93 #[.int .i64 n] w fun e w' => e = .returned (.bool (decide (-1099511627776 ≤ n ∧ n ≤ 1099511627776))) ∧ w = w' := by
  by_cases h1 : -1099511627776 ≤ n
  · have hd : decide (-1099511627776 ≤ n) = true := by simp [h1]
    have he : decide (-1099511627776 ≤ n ∧ n ≤ 1099511627776) = decide (n ≤ 1099511627776) := by simp [h1]
    rw [he]
    clear he h1
    go_enter Tryz.func93, Tryz.ntmps93
    go_wp2_with fail
    go_ret
    exact ⟨rfl, rfl⟩
  · have hd : decide (-1099511627776 ≤ n) = false := by simp; omega
    have he : decide (-1099511627776 ≤ n ∧ n ≤ 1099511627776) = false := by simp; omega
    rw [he]
    clear he h1
    go_enter Tryz.func93, Tryz.ntmps93
    go_wp2_with fail
    go_ret
    exact ⟨rfl, rfl⟩

set_option maxRecDepth 100000 in
set_option maxHeartbeats 1000000 in
theorem rvalid_many (base epoch : Int) (n : Nat) (A : Option Addr) (cap : Nat) (w : World) (hm : n ≤ 9223372036854775807) (hn : n = 0 ∨ 64 < n) :
    Calls Tryz.prog 45 #[batV base epoch A n cap] w fun e w' => e = .returned (.int .i64 104) ∧ Below w.heap.size w w' := by
  rcases hn with rfl | hn
  · go_enter Tryz.func45, Tryz.ntmps45
    go_wp2_with fail
    go_ret
    exact ⟨rfl, balloc (Below.refl _ _) _⟩
  · have q1 : ((n : Int) == 0) = false := by simp; omega
    have q2 : decide ((64 : Int) < (n : Int)) = true := by simp; omega
    clear hn
    go_enter Tryz.func45, Tryz.ntmps45
    go_wp2_with fail
    go_ret
    exact ⟨rfl, balloc (Below.refl _ _) _⟩

set_option maxRecDepth 100000 in
set_option maxHeartbeats 1000000 in
theorem rvalid_range (ba ep : Int) (n : Nat) (A : Option Addr) (cap : Nat) (w : World) (hb1 : -9223372036854775808 ≤ ba ∧ ba ≤ 9223372036854775807) (hn0 : n ≠ 0) (hn1 : n ≤ 64) (hr : ba < 0 ∨ 1099511627776 < ba + n ∨ ep < 0 ∨ 1073741824 < ep) :
    Calls Tryz.prog 45 #[batV ba ep A n cap] w fun e w' => e = .returned (.int .i64 105) ∧ Below w.heap.size w w' := by
  have hbb : Below w.heap.size w (w.alloc (.cells #[.int .i64 ba, .int .i64 ep, .slice A n cap] 36)) := balloc (Below.refl _ _) _
  have HB0 := hide hbb
  have q1 : ((n : Int) == 0) = false := by simp; omega
  have q2 : decide ((64 : Int) < (n : Int)) = false := by simp; omega
  clear hn0 hbb
  by_cases hw1 : 0 ≤ ba ∧ ba ≤ 1099511627776
  · have hd1 : decide (0 ≤ ba ∧ ba ≤ 1099511627776) = true := by simp [hw1]
    have hw0 : -9223372036854775808 ≤ ba + n ∧ ba + n ≤ 9223372036854775807 := by omega
    have hwr : wrap64 (ba + n) = ba + n := IntWalk.wrap64_in _ hw0
    by_cases hw2 : 1099511627776 < ba + n
    · have hd2 : decide (0 ≤ ba + (n : Int) ∧ ba + (n : Int) ≤ 1099511627776) = false := by simp; omega
      clear hr hw1 hw2 hb1
      go_enter Tryz.func45, Tryz.ntmps45
      go_wp2_with (go_at_call 91; refine (right_any _ _).mono ?_; rintro e w1 ⟨rfl, rfl⟩; first | rw [hd1] | rw [hd2])
      go_ret
      exact ⟨rfl, HB0.out⟩
    · have hd2 : decide (0 ≤ ba + (n : Int) ∧ ba + (n : Int) ≤ 1099511627776) = true := by simp; omega
      have hd3 : decide (0 ≤ ep ∧ ep ≤ 1073741824) = false := by simp; omega
      clear hr hw1 hw2 hb1
      go_enter Tryz.func45, Tryz.ntmps45
      go_wp2_with (first | (go_at_call 91; refine (right_any _ _).mono ?_; rintro e w1 ⟨rfl, rfl⟩; first | rw [hd1] | rw [hd2]) | (go_at_call 92; refine (rightEpoch_any _ _).mono ?_; rintro e w1 ⟨rfl, rfl⟩; rw [hd3]))
      go_ret
      exact ⟨rfl, HB0.out⟩
  · have hd1 : decide (0 ≤ ba ∧ ba ≤ 1099511627776) = false := by simp; omega
    clear hr hw1 hb1
    go_enter Tryz.func45, Tryz.ntmps45
    go_wp2_with (go_at_call 91; refine (right_any _ _).mono ?_; rintro e w1 ⟨rfl, rfl⟩; rw [hd1])
    go_ret
    exact ⟨rfl, HB0.out⟩

set_option maxRecDepth 100000 in
set_option maxHeartbeats 1000000 in
theorem rvalid_recs (ba ep : Int) (rs : List Rc.Rec) (A : Option Addr) (cap : Nat) (w : World) (hrec : Recs w A rs) (hn0 : rs.length ≠ 0) (hn1 : rs.length ≤ 64) (hw : 0 ≤ ba) (hw2 : ba + rs.length ≤ 1099511627776) (he : 0 ≤ ep ∧ ep ≤ 1073741824) :
    Calls Tryz.prog 45 #[batV ba ep A rs.length cap] w fun e w' => e = .returned (.int .i64 (if rs.all Rc.recOk = false then 105 else 0)) ∧ Below w.heap.size w w' := by
  generalize hV : (if rs.all Rc.recOk = false then 105 else 0 : Int) = V
  have HV := hide hV.symm
  clear hV
  have hbb : Below w.heap.size w (w.alloc (.cells #[.int .i64 ba, .int .i64 ep, .slice A rs.length cap] 36)) := balloc (Below.refl _ _) _
  have HB0 := hide hbb
  have HR := hide hrec
  have q1 : ((rs.length : Int) == 0) = false := by rw [beq_eq_false_iff_ne]; omega
  have q2 : decide ((64 : Int) < (rs.length : Int)) = false := by simp; omega
  have hd1 : decide (0 ≤ ba ∧ ba ≤ 1099511627776) = true := decide_eq_true (by omega)
  have hd2 : decide (0 ≤ ba + (rs.length : Int) ∧ ba + (rs.length : Int) ≤ 1099511627776) = true := decide_eq_true (by omega)
  have hd3 : decide (0 ≤ ep ∧ ep ≤ 1073741824) = true := by simp [he]
  have hwr : wrap64 (ba + (rs.length : Int)) = ba + (rs.length : Int) := IntWalk.wrap64_in _ (by omega)
  have hbw : -9223372036854775808 ≤ ba + (rs.length : Int) ∧ ba + (rs.length : Int) ≤ 9223372036854775807 := by omega
  clear hn0 hbb hrec hw hw2 he
  go_enter Tryz.func45, Tryz.ntmps45
  go_wp2_with (first | (go_at_call 91; refine (right_any _ _).mono ?_; rintro e w1 ⟨rfl, rfl⟩; first | rw [hd1] | rw [hd2]) | (go_at_call 92; refine (rightEpoch_any _ _).mono ?_; rintro e w1 ⟨rfl, rfl⟩; rw [hd3]))
  have hc2 : (w.alloc (.cells #[.int .i64 ba, .int .i64 ep, .slice A rs.length cap] 36)).cell? ⟨w.heap.size, 2, none⟩ = some (.slice A rs.length cap) := by rw [World.cell?_alloc_mark]; rfl
  have hzs : w.heap.size < (w.alloc (.cells #[.int .i64 ba, .int .i64 ep, .slice A rs.length cap] 36)).heap.size := by simp
  have HREF : Hid (Below (w.heap.size + 1) (w.alloc (.cells #[.int .i64 ba, .int .i64 ep, .slice A rs.length cap] 36)) (w.alloc (.cells #[.int .i64 ba, .int .i64 ep, .slice A rs.length cap] 36))) := hide (Below.refl _ _)
  generalize w.alloc (.cells #[.int .i64 ba, .int .i64 ep, .slice A rs.length cap] 36) = w0 at *
  go_loopw [3] (fun i wr => ∃ k : Nat, k ≤ rs.length ∧ i = .int .i64 k ∧ (rs.take k).all Rc.recOk = true ∧ Below (w.heap.size + 1) w0 wr) (fun i _ => rs.length - (intOf i).toNat)
  case atStart => exact ⟨0, Nat.zero_le _, rfl, by simp, HREF.out⟩
  case round =>
    obtain ⟨k, hk, rfl, hok, hb⟩ := hrel
    have HBK := hide hb
    have HOK := hide hok
    have hc2 := (hb.cell (p := ⟨w.heap.size, 2, none⟩) (by show w.heap.size < _; omega)).trans hc2
    have hbw2 := HB0.out.trans (hb.mono (by omega))
    have HBW2 := hide hbw2
    clear hb hok hbw2
    by_cases hlt : k < rs.length
    · rcases HR.out with h0 | ⟨b, off, rfl, hb0, hcl⟩
      · rw [h0] at hlt; simp at hlt
      obtain ⟨Ak, ck, Av, cv, c0, c1, c2, ha, hv⟩ := (hcl k hlt).ex
      have d0 := (HBW2.out.cell (p := ⟨b, off + k * 3, none⟩) hb0).trans c0
      have d1 := (HBW2.out.cell (p := ⟨b, off + k * 3 + 1, none⟩) hb0).trans c1
      have d2 := (HBW2.out.cell (p := ⟨b, off + k * 3 + 2, none⟩) hb0).trans c2
      have HAS := hide (all_take_succ rs k hlt)
      have HMEM : Hid (rs.getD k default ∈ rs) := by
        show _ ∈ _
        rw [show rs.getD k default = rs[k] from by simp [List.getD, hlt]]; exact List.getElem_mem hlt
      have hmk := Nat.le_trans ha.le ha.max
      have hmv := Nat.le_trans hv.le hv.max
      clear hcl c0 c1 c2 ha hv
      generalize rs.getD k default = x at *
      obtain ⟨t, ky, vl⟩ := x
      simp only at d0 d1 d2 hmk hmv
      have HBN := hide (HBK.out.trans ((balloc (Below.refl wr.heap.size wr) (.cells #[.int .i64 t, .slice Ak ky.length ck, .slice Av vl.length cv] 80)).mono (by have := HBK.out.size; omega)))
      have HBX := hide (HBW2.out.trans ((balloc (Below.refl wr.heap.size wr) (.cells #[.int .i64 t, .slice Ak ky.length ck, .slice Av vl.length cv] 80)).mono HBW2.out.size))
      by_cases hbad : Rc.recOk ⟨t, ky, vl⟩ = true
      · have HN1 : Hid ((rs.take (k + 1)).all Rc.recOk = true) := by
          show _ = _
          rw [HAS.out, HOK.out, hbad]; rfl
        simp only [Rc.recOk, decide_eq_true_eq] at hbad
        have hd4 : decide (-1099511627776 ≤ t ∧ t ≤ 1099511627776) = true := by simp; omega
        have hd5 : decide ((64 : Int) < (ky.length : Int)) = false := by simp; omega
        have hd6 : decide ((512 : Int) < (vl.length : Int)) = false := by simp; omega
        clear hbad HAS HMEM
        go_wp2_with (go_at_call 93; refine (rightTime_any _ _).mono ?_; rintro e w1 ⟨rfl, rfl⟩; rw [hd4])
        go_roundw
        case rel => exact ⟨k + 1, by omega, by go_num, HN1.out, HBN.out⟩
        case measure => simp [intOf]; omega
      · have HE : Hid (V = 105) := by
          show _ = _
          have : rs.all Rc.recOk = false := by
            rw [List.all_eq_false]
            exact ⟨_, HMEM.out, hbad⟩
          rw [HV.out, if_pos this]
        simp only [Rc.recOk, decide_eq_true_eq] at hbad
        clear HAS HMEM
        by_cases ht : -1099511627776 ≤ t ∧ t ≤ 1099511627776
        · have hd4 : decide (-1099511627776 ≤ t ∧ t ≤ 1099511627776) = true := by simp [ht]
          by_cases hkl : 64 < ky.length
          · have hd5 : decide ((64 : Int) < (ky.length : Int)) = true := by simp; omega
            clear hbad ht
            go_wp2_with (go_at_call 93; refine (rightTime_any _ _).mono ?_; rintro e w1 ⟨rfl, rfl⟩; rw [hd4])
            go_ret
            exact ⟨HE.out.symm ▸ rfl, HBX.out⟩
          · have hd5 : decide ((64 : Int) < (ky.length : Int)) = false := by simp; omega
            have hd6 : decide ((512 : Int) < (vl.length : Int)) = true := by simp; omega
            clear hbad ht
            go_wp2_with (go_at_call 93; refine (rightTime_any _ _).mono ?_; rintro e w1 ⟨rfl, rfl⟩; rw [hd4])
            go_ret
            exact ⟨HE.out.symm ▸ rfl, HBX.out⟩
        · have hd4 : decide (-1099511627776 ≤ t ∧ t ≤ 1099511627776) = false := by simp; omega
          clear hbad ht
          go_wp2_with (go_at_call 93; refine (rightTime_any _ _).mono ?_; rintro e w1 ⟨rfl, rfl⟩; rw [hd4])
          go_ret
          exact ⟨HE.out.symm ▸ rfl, HBX.out⟩
    · obtain rfl : k = rs.length := by omega
      have HE : Hid (V = 0) := by
        show _ = _
        have := HOK.out
        rw [List.take_length] at this
        rw [HV.out, this]; rfl
      go_wp2_with fail
      go_ret
      exact ⟨HE.out.symm ▸ rfl, HBW2.out⟩

theorem rvalid_any (b : Rc.Bat) (A : Option Addr) (cap n : Nat) (w : World) (h : IsBat w A cap b) (hn : b.recs.length = n) :
    Calls Tryz.prog 45 #[batV b.base b.epoch A n cap] w fun e w' => e = .returned (.int .i64 (Rc.bad b : Nat)) ∧ Below w.heap.size w w' := by
  subst hn
  have hm := Nat.le_trans h.le h.max
  unfold Rc.bad
  by_cases h1 : b.recs.length = 0 ∨ 64 < b.recs.length
  · rw [if_pos h1]
    exact rvalid_many b.base b.epoch b.recs.length A cap w hm h1
  · rw [if_neg h1]
    by_cases h2 : b.base < 0 ∨ 1099511627776 < b.base + b.recs.length ∨ b.epoch < 0 ∨ 1073741824 < b.epoch
    · rw [if_pos (by
        rcases h2 with hh | hh | hh | hh
        · exact .inl hh
        · exact .inr (.inl hh)
        · exact .inr (.inr (.inl hh))
        · exact .inr (.inr (.inr (.inl hh))))]
      exact rvalid_range b.base b.epoch b.recs.length A cap w h.base (by omega) (by omega) h2
    · refine (rvalid_recs b.base b.epoch b.recs A cap w h.recs (by omega) (by omega) (by omega) (by omega) (by omega)).mono fun e w' ⟨he, hb⟩ => ⟨?_, hb⟩
      rw [he]
      by_cases h3 : b.recs.all Rc.recOk = false
      · rw [if_pos h3, if_pos (.inr (.inr (.inr (.inr h3))))]; rfl
      · rw [if_neg h3, if_neg (fun hh => by
          rcases hh with hh | hh | hh | hh | hh
          · exact h2 (.inl hh)
          · exact h2 (.inr (.inl hh))
          · exact h2 (.inr (.inr (.inl hh)))
          · exact h2 (.inr (.inr (.inr hh)))
          · exact h3 hh)]; rfl
end Go.Proofs.YtcmgppacipdnaaaGreatDoor

namespace Go.Proofs.YtcmgppacipdnaaaGreatDoor
open Go.RowKit

set_option maxRecDepth 100000 in
theorem rnext_any (b : Rc.Bat) (A : Option Addr) (cap n : Nat) (w : World) (hn : b.recs.length = n) (h0 : 0 ≤ b.base) (h1 : b.base ≤ 1099511627776) (h2 : n ≤ 100000) :
    Calls Tryz.prog 18 #[batV b.base b.epoch A n cap] w fun e w' => e = .returned (.int .i64 (b.base + b.recs.length)) ∧ Below w.heap.size w w' := by
  subst hn
  generalize b.recs.length = m at *
  generalize b.base = ba at *
  generalize b.epoch = ep at *
  unfold batV
  have y0 : (w.alloc (.cells #[.int .i64 ba, .int .i64 ep, .slice A m cap] 36)).cell? ⟨w.heap.size, 0, none⟩ = some (.int .i64 ba) := by rw [World.cell?_alloc_mark]; rfl
  have y2 : (w.alloc (.cells #[.int .i64 ba, .int .i64 ep, .slice A m cap] 36)).cell? ⟨w.heap.size, 2, none⟩ = some (.slice A m cap) := by rw [World.cell?_alloc_mark]; rfl
  have hw : IntKind.i64.wrap (ba + (m : Int)) = ba + (m : Int) := by rw [IntKind.wrap_i64]; omega
  go_enter Tryz.func18, Tryz.ntmps18
  go_wp2_with fail
  go_ret
  exact ⟨rfl, balloc (Below.refl _ _) _⟩

set_option maxRecDepth 100000 in
set_option maxHeartbeats 1000000 in
theorem rsize1_any (b : Rc.Bat) (A : Option Addr) (cap n : Nat) (w : World) (h : IsBat w A cap b) (hg : Rc.Good b) (hn : b.recs.length = n) :
    Calls Tryz.prog 17 #[batV b.base b.epoch A n cap] w fun e w' => e = .returned (.int .i64 ((Rc.bytes b).length : Nat)) ∧ Below w.heap.size w w' := by
  have HV := hide (fun (W : World) (hw : Below w.heap.size w W) => rvalid_any b A cap n W (h.below hw (Nat.le_refl _)) hn)
  rw [(Rc.bad_good b).2 hg] at HV
  have HB := hide (fun (W : World) (hw : Below w.heap.size w W) => rbatch_any b A cap n W (h.below hw (Nat.le_refl _)) hg hn)
  clear h hg hn
  generalize Rc.bytes b = l at *
  generalize b.base = ba at *
  generalize b.epoch = ep at *
  unfold batV at *
  have y0 : (w.alloc (.cells #[.int .i64 ba, .int .i64 ep, .slice A n cap] 36)).cell? ⟨w.heap.size, 0, none⟩ = some (.int .i64 ba) := by rw [World.cell?_alloc_mark]; rfl
  have y1 : (w.alloc (.cells #[.int .i64 ba, .int .i64 ep, .slice A n cap] 36)).cell? ⟨w.heap.size, 1, none⟩ = some (.int .i64 ep) := by rw [World.cell?_alloc_mark]; rfl
  have y2 : (w.alloc (.cells #[.int .i64 ba, .int .i64 ep, .slice A n cap] 36)).cell? ⟨w.heap.size, 2, none⟩ = some (.slice A n cap) := by rw [World.cell?_alloc_mark]; rfl
  have hbz : w.heap.size < (w.alloc (.cells #[.int .i64 ba, .int .i64 ep, .slice A n cap] 36)).heap.size := by simp
  have HW1 : Hid (Below w.heap.size w (w.alloc (.cells #[.int .i64 ba, .int .i64 ep, .slice A n cap] 36))) := hide (balloc (Below.refl _ _) _)
  go_enter Tryz.func17, Tryz.ntmps17
  go_wp2_with (first
    | (go_at_call 45; refine (HV.out _ HW1.out).mono ?_; rintro e w2 ⟨rfl, hb2⟩; have HB2 := hide (HW1.out.trans (hb2.mono HW1.out.size)); have z0 := (hb2.cell (p := ⟨w.heap.size, 0, none⟩) hbz).trans y0; have z1 := (hb2.cell (p := ⟨w.heap.size, 1, none⟩) hbz).trans y1; have z2 := (hb2.cell (p := ⟨w.heap.size, 2, none⟩) hbz).trans y2; clear hb2)
    | (go_at_call 39; refine (HB.out _ HB2.out).mono ?_; rintro e w3 ⟨v, rfl, ho, hb3⟩; obtain ⟨A3, c3, rfl, -⟩ := ho.arg; have HB3 := hide (HB2.out.trans (hb3.mono HB2.out.size)); clear hb3 ho)
    | fail)
  go_ret
  exact ⟨rfl, HB3.out⟩
end Go.Proofs.YtcmgppacipdnaaaGreatDoor

namespace Go.Proofs.YtcmgppacipdnaaaGreatDoor
open Go.RowKit Go.Maps

namespace Ht
/-- Segments without a gap, none of them empty. -/
def Tight : Int → List Gr → Prop
  | _, [] => True
  | e, g :: gs => g.1 = e ∧ g.2 ≠ [] ∧ Tight (lastOff g.1 g.2) gs
def endT : Int → List Gr → Int
  | e, [] => e
  | _, g :: gs => endT (lastOff g.1 g.2) gs
theorem tight_snoc : ∀ (gs : List Gr) (e : Int) (g : Gr), Tight e (gs ++ [g]) ↔ Tight e gs ∧ g.1 = endT e gs ∧ g.2 ≠ []
  | [], e, g => by simp [Tight, endT]
  | x :: gs, e, g => by
    simp only [List.cons_append, Tight, endT, tight_snoc gs]
    constructor
    · rintro ⟨h1, h2, h3, h4⟩; exact ⟨⟨h1, h2, h3⟩, h4⟩
    · rintro ⟨⟨h1, h2, h3⟩, h4⟩; exact ⟨h1, h2, h3, h4⟩
theorem endT_snoc : ∀ (gs : List Gr) (e : Int) (g : Gr), endT e (gs ++ [g]) = lastOff g.1 g.2
  | [], e, g => rfl
  | x :: gs, e, g => by simp only [List.cons_append, endT, endT_snoc gs]
theorem grp_tight (sz base : Int) (cs : List Rc.Bat) (s0 : Sg.St) (hso : (Sg.last s0.edges).off = base) (hch : Sg.Chain s0 cs) : cs = [] ∨ Tight base (grp sz base cs) := by
  induction cs using snoc_ind with
  | nil => exact .inl rfl
  | snoc cs b ih =>
    have hch2 := Sg.Chain.append.1 hch
    obtain ⟨g0, o, ds, e, hlo, hne⟩ := grp_last sz base cs
    have hfol := hch2.2.1
    unfold Sg.follows at hfol
    rw [Bool.and_eq_true, decide_eq_true_eq, decide_eq_true_eq, chain_last hso] at hfol
    refine .inr ?_
    rw [grp_snoc, e]
    rcases ih hch2.1 with h0 | h
    · have hall := (grp_all sz base cs).1
      subst h0
      have e2 : g0 ++ [(o, ds)] = [(base, [])] := e.symm
      have e3 : ([] : List Gr) ++ [(base, ([] : List Rc.Bat))] = g0 ++ [(o, ds)] := e2.symm
      obtain ⟨e4, e5⟩ := List.append_inj' e3 rfl
      injection e5 with e5 _
      injection e5 with e5 e6
      subst e4 e5 e6
      rw [add_small (by simp [big, size])]
      exact ⟨rfl, by simp, trivial⟩
    · rw [e] at h
      have h2 := (tight_snoc g0 base (o, ds)).1 h
      cases hb : big sz ds b
      · rw [add_small hb, tight_snoc]
        exact ⟨h2.1, h2.2.1, by simp⟩
      · rw [add_big hb, tight_snoc]
        refine ⟨h, ?_, by simp⟩
        rw [endT_snoc]
        show b.base = lastOff o ds
        rw [hlo]; exact hfol.1
theorem lastOff_at (o : Int) (bs : List Rc.Bat) (k : Nat) (hk : k + 1 = bs.length) : lastOff o bs = bs[k].base + bs[k].recs.length := by
  obtain ⟨ds, b, rfl⟩ : ∃ ds b, bs = ds ++ [b] := by
    rcases List.eq_nil_or_concat bs with h | ⟨ds, b, h⟩
    · subst h; simp at hk
    · exact ⟨ds, b, by rw [h, List.concat_eq_append]⟩
  obtain rfl : k = ds.length := by simpa using hk
  rw [lastOff_snoc]
  simp
theorem all_take (gs : List Gr) (k : Nat) (hk : k < gs.length) : all (gs.take (k + 1)) = all (gs.take k) ++ gs[k].2 := by
  unfold all
  rw [List.take_succ_eq_append_getElem hk, List.flatMap_append]
  simp
end Ht
theorem Mz.head {d : Dk.St} {s : Sg.St} {room used : Int} {names : Dk.Dir} {base ev : Int} {x : Nat} {bs : List Rc.Bat} (h : Mz d s room used names base ev x bs) (hne : 0 < bs.length) : bs[0].base = base := by
  rw [Sg.ed_base (Sg.begin (Nm.seg base) base ev) rfl bs h.chain 0 hne, Sg.adds_ed _ _ 0 (by simp [Sg.begin])]
  rfl
theorem BRow.slice {w : World} {lo : Nat} {v : Value} {ps : List PBat} (h : BRow w lo v ps) : ∃ A c, v = .slice A ps.length c ∧ Bats w A (ps.map (·.b)) := by
  obtain ⟨A, c, e, -, -, hb⟩ := h.val
  exact ⟨A, c, e, hb⟩
end Go.Proofs.YtcmgppacipdnaaaGreatDoor

namespace Go.Proofs.YtcmgppacipdnaaaGreatDoor
open Go.RowKit Go.Maps Go.Sort Go.Shelf

set_option maxRecDepth 100000 in
set_option maxHeartbeats 1000000 in
theorem sgRead_out (w0 w : World) (S T : Nat → Prop) (n Bd X : Nat) (d : Dk.St) (s : Sg.St) (p : Nat → Addr) (h : SgW w0 S T n Bd d X s w) (hs : SentsG w0 p) (o most : Int) (hr : o < (Sg.ed s.edges 0).off ∨ (Sg.last s.edges).off ≤ o) :
    Calls Tryz.prog 55 #[.pointer (some ⟨X, 0, none⟩), .int .i64 o, .int .i64 most] w fun e w' => e = .returned (.tuple #[.slice none 0 0, errV (p 14)]) ∧ Below w.heap.size w w' := by
  have HBA := hide (fun (W : World) (hw : Below w.heap.size w W) => sgBase_any X Bd s T W (h.seg.below hw) h.ok)
  have HEN := hide (fun (W : World) (hw : Below w.heap.size w W) => sgEnd_any X Bd s T W (h.seg.below hw) h.ok)
  have HS : Hid (∀ W, Below w.heap.size w W → W.cell? ⟨0, 0, none⟩ = some (errV (p 14))) := hide (fun W hw => (hs.below (h.below.trans (hw.mono h.below.size))).cell 14 (by omega))
  clear h hs
  generalize (Sg.ed s.edges 0).off = lo at *
  generalize (Sg.last s.edges).off = hi at *
  by_cases hlo : o < lo
  · have d1 : decide (o < lo) = true := decide_eq_true hlo
    go_enter Tryz.func55, Tryz.ntmps55
    go_upto_region 2 with (first
      | (go_at_call 49; refine (HBA.out _ (balloc (Below.refl _ _) _)).mono ?_; rintro e w1 ⟨rfl, hb⟩; have HBW1 := hide ((balloc (Below.refl w.heap.size w) (.cells #[.int .i64 most] 3)).trans (hb.mono (by simp))); have g1 := HS.out w1 HBW1.out; clear hb)
      | fail)
    go_region
    go_wp2_with fail
    go_ret2
    exact ⟨rfl, HBW1.out.drew⟩
  · have d1 : decide (o < lo) = false := decide_eq_false hlo
    have d2 : decide (hi ≤ o) = true := decide_eq_true (by omega)
    go_enter Tryz.func55, Tryz.ntmps55
    go_upto_region 2 with (first
      | (go_at_call 49; refine (HBA.out _ (balloc (Below.refl _ _) _)).mono ?_; rintro e w1 ⟨rfl, hb⟩; have HBW1 := hide ((balloc (Below.refl w.heap.size w) (.cells #[.int .i64 most] 3)).trans (hb.mono (by simp))); clear hb)
      | (go_at_call 50; refine (HEN.out _ HBW1.out).mono ?_; rintro e w2 ⟨rfl, hb⟩; have HBW2 := hide (HBW1.out.trans (hb.mono HBW1.out.size)); have g2 := HS.out w2 HBW2.out; clear hb)
      | fail)
    go_region
    go_wp2_with fail
    go_ret2
    exact ⟨rfl, HBW2.out.drew⟩
end Go.Proofs.YtcmgppacipdnaaaGreatDoor
