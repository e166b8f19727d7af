/-
  The walk through RecTimes: the greatest time of a batch, where it ends.
  The walk through RecBack: a batch's bytes are read as it, whatever stands behind; cut off they end too early; a byte turned is told.
-/
import Derived.Test.YtfdppggdgdnnaaaGreatDoorZ3
import Derived.Test.YtfdppggdgdnnaaaGreatDoorZ7
import Derived.Test.YtfdppggdgdnnaaaGreatDoorZ12
import Derived.Test.YtfdppggdgdnnaaaGreatDoorZ1
import Derived.Test.YtfdppggdgdnnaaaGreatDoorZ35
namespace Go.Proofs.YtfdppggdgdnnaaaGreatDoor
open Go.RowKit Crc

/-- The record that a number of the argument makes. -/
def recOf (z : Int) : Rc.Rec := ⟨z % 2000 - 1000, [], []⟩
theorem recOf_ok (z : Int) : Rc.okR (recOf z) := by
  have h1 := Int.emod_nonneg z (show (2000 : Int) ≠ 0 by omega)
  have h2 := Int.emod_lt_of_pos z (show (0 : Int) < 2000 by omega)
  refine ⟨?_, ?_, by simp [recOf], by simp [recOf]⟩ <;> (show _ ≤ _; simp only [recOf]; omega)
theorem Rc.bytes_read0 (b : Rc.Bat) (g : Rc.Good b) : Rc.rcode (Rc.bytes b) = 0 ∧ Rc.rsize (Rc.bytes b) = (Rc.bytes b).length ∧ Rc.parse (Rc.rbody (Rc.bytes b)) = b := by
  have h := Rc.bytes_read b g []
  have h2 := Rc.bytes_rsize b g []
  rw [List.append_nil] at h h2
  exact ⟨h.1, h2, by rw [h.2.2]; exact (Rc.body_read b g).1⟩
/-- Read of a good batch's bytes. -/
theorem read_good (b : Rc.Bat) (g : Rc.Good b) (A : Option Addr) (cap n : Nat) (w : World) (p : Nat → Addr) (hn : (Rc.bytes b).length = n) (ha : Arg w A cap (Rc.bytes b)) (hs : Sents5 w p) (ht : Tabs w) :
    Calls Tryz.prog 119 #[.slice A n cap] w fun e w' => ∃ A' c', e = .returned (.tuple #[batV b.base b.epoch A' b.recs.length c', .int .i64 n, .nilIface]) ∧ NewBat w.heap.size w' A' c' b ∧ Below w.heap.size w w' := by
  obtain ⟨h0, h1, h2⟩ := Rc.bytes_read0 b g
  have hbl := Rc.body_len b g
  have hn1 := g.n1
  have hl := Rc.bytes_len b
  refine (read_any A cap n (Rc.bytes b) w p hn (by omega) ha hs ht).mono fun e w' ⟨⟨val, he, hy, _⟩, hb⟩ => ?_
  obtain ⟨A', c', hv, hnb⟩ := hy h0
  rw [h2] at hv hnb
  refine ⟨A', c', ?_, hnb, hb⟩
  rw [he, hv, h0, h1, hn]; rfl
theorem rtimes_good (zs : List Int) (base : Int) (h0 : zs ≠ []) (h1 : zs.length ≤ 64) : Rc.Good ⟨base % 549755813888, 0, zs.map recOf⟩ := by
  have m1 := Int.emod_nonneg base (show (549755813888 : Int) ≠ 0 by omega)
  have m2 := Int.emod_lt_of_pos base (show (0 : Int) < 549755813888 by omega)
  have hp := List.length_pos_iff.2 h0
  refine ⟨by simpa using hp, by simpa using h1, m1, ?_, by show (0 : Int) ≤ 0; omega, by show (0 : Int) ≤ _; omega, fun r hr => ?_⟩
  · show base % 549755813888 + ((zs.map recOf).length : Int) ≤ _
    rw [List.length_map]; omega
  · obtain ⟨z, _, rfl⟩ := List.mem_map.1 hr
    exact recOf_ok z

end Go.Proofs.YtfdppggdgdnnaaaGreatDoor

namespace Go.Proofs.YtfdppggdgdnnaaaGreatDoor
open Go.RowKit Crc

def Rc.light (r : Rc.Rec) : Bool := decide (r.k.length ≤ 100 ∧ r.v.length ≤ 600)

set_option maxRecDepth 100000 in
set_option maxHeartbeats 1000000 in
theorem light_any (base epoch : Int) (rs : List Rc.Rec) (A : Option Addr) (cap n : Nat) (w : World) (hn : rs.length = n) (hm : n ≤ 9223372036854775807) (hr : Recs w A rs) :
    Calls Tryz.prog 32 #[batV base epoch A n cap] w fun e w' => e = .returned (.bool (decide (rs.length ≤ 70) && rs.all Rc.light)) ∧ Below w.heap.size w w' := by
  subst hn
  have hbb : Below w.heap.size w (w.alloc (.cells #[.int .i64 base, .int .i64 epoch, .slice A rs.length cap] 41)) := balloc (Below.refl _ _) _
  have HB0 := hide hbb
  by_cases h70 : 70 < rs.length
  · have hE : (decide (rs.length ≤ 70) && rs.all Rc.light) = false := by simp; omega
    rw [hE]
    clear hE
    go_enter Tryz.func32, Tryz.ntmps32
    go_wp2_with fail
    go_ret
    exact ⟨rfl, HB0.out⟩
  · have hE : (decide (rs.length ≤ 70) && rs.all Rc.light) = rs.all Rc.light := by simp; omega
    rw [hE]
    have HR := hide (hr.below hbb (Nat.le_refl _))
    obtain ⟨m0, m1, m2⟩ := made3 w (.int .i64 base) (.int .i64 epoch) (.slice A rs.length cap) 41
    generalize hV : rs.all Rc.light = V
    have HV := hide hV.symm
    clear hE hr hV hbb
    go_enter Tryz.func32, Tryz.ntmps32
    go_upto_block 0 with fail
    generalize hW1 : w.alloc (.cells #[.int .i64 base, .int .i64 epoch, .slice A rs.length cap] 41) = w1 at *
    clear hW1
    go_wp2_with fail
    go_loop [3] (fun i => ∃ k : Nat, k ≤ rs.length ∧ i = .int .i64 k ∧ (rs.take k).all Rc.light = true) (fun i => rs.length - (intOf i).toNat)
    case atStart => exact ⟨0, Nat.zero_le _, rfl, by simp⟩
    case round =>
      obtain ⟨k, hk, rfl, hok⟩ := hrel
      have HOK := hide hok
      clear hok
      by_cases hlt : k < rs.length
      · rcases HR.out with h0 | ⟨b, off, rfl, hb0, hcl⟩
        · rw [h0] at hlt; simp at hlt
        obtain ⟨Ak, ck, Av, cv, d0, d1, d2, ha, hv⟩ := (hcl k hlt).ex
        have HAS : Hid ((rs.take (k + 1)).all Rc.light = ((rs.take k).all Rc.light && Rc.light (rs.getD k default))) := by
          show _ = _
          rw [List.take_succ_eq_append_getElem hlt, List.all_append]
          simp [List.getD, hlt]
        have HMEM : Hid (rs.getD k default ∈ rs) := by
          show _ ∈ _
          rw [show rs.getD k default = rs[k] from by simp [List.getD, hlt]]; exact List.getElem_mem hlt
        have hmk := Nat.le_trans ha.le ha.max
        have hmv := Nat.le_trans hv.le hv.max
        clear hcl ha hv
        generalize rs.getD k default = x at *
        obtain ⟨t, ky, vl⟩ := x
        simp only at d0 d1 d2 hmk hmv
        by_cases hkl : 100 < ky.length
        · have HE : Hid (V = false) := by
            show _ = _
            rw [HV.out, List.all_eq_false]
            exact ⟨_, HMEM.out, by simp [Rc.light]; omega⟩
          have hd : decide ((100 : Int) < (ky.length : Int)) = true := by simp; omega
          go_wp2_with fail
          go_ret
          exact ⟨by rw [HE.out]; rfl, HB0.out⟩
        · have hd : decide ((100 : Int) < (ky.length : Int)) = false := by simp; omega
          by_cases hvl : 600 < vl.length
          · have HE : Hid (V = false) := by
              show _ = _
              rw [HV.out, List.all_eq_false]
              exact ⟨_, HMEM.out, by simp [Rc.light]; omega⟩
            have hd2 : decide ((600 : Int) < (vl.length : Int)) = true := by simp; omega
            go_wp2_with fail
            go_ret
            exact ⟨by rw [HE.out]; rfl, HB0.out⟩
          · have hd2 : decide ((600 : Int) < (vl.length : Int)) = false := by simp; omega
            have HN : Hid ((rs.take (k + 1)).all Rc.light = true) := by
              show _ = _
              rw [HAS.out, HOK.out]
              simp [Rc.light]; omega
            go_wp2_with fail
            go_round
            case rel => exact ⟨k + 1, by omega, by go_num, HN.out⟩
            case measure => simp [intOf]; omega
      · obtain rfl : k = rs.length := by omega
        have HE : Hid (V = true) := by
          show _ = _
          have := HOK.out
          rw [List.take_length] at this
          rw [HV.out, this]
        go_wp2_with fail
        go_ret
        exact ⟨by rw [HE.out]; rfl, HB0.out⟩

theorem read_bad (l : List UInt8) (c : Nat) (hc : Rc.rcode l = c) (h0 : c ≠ 0) (A : Option Addr) (cap n : Nat) (w : World) (p : Nat → Addr) (hn : l.length = n) (hl : n ≤ 1000000) (ha : Arg w A cap l) (hs : Sents5 w p) (ht : Tabs w) :
    Calls Tryz.prog 119 #[.slice A n cap] w fun e w' => e = .returned (.tuple #[batV 0 0 none 0 0, .int .i64 0, errV (p (c - 101))]) ∧ Below w.heap.size w w' := by
  refine (read_any A cap n l w p hn hl ha hs ht).mono fun e w' ⟨⟨val, he, _, hno⟩, hb⟩ => ⟨?_, hb⟩
  have hs0 : Rc.rsize l = 0 := by unfold Rc.rsize; rw [if_neg (by omega)]
  have hE : errOf p (Rc.rcode l) = errV (p (c - 101)) := by unfold errOf; rw [hc, if_neg h0]
  rw [he, hno (by omega), hs0, hE]; rfl
theorem read_good' (b : Rc.Bat) (g : Rc.Good b) (rest : List UInt8) (hr : rest.length ≤ 900000) (A : Option Addr) (cap n : Nat) (w : World) (p : Nat → Addr) (hn : (Rc.bytes b ++ rest).length = n) (ha : Arg w A cap (Rc.bytes b ++ rest)) (hs : Sents5 w p) (ht : Tabs w) :
    Calls Tryz.prog 119 #[.slice A n cap] w fun e w' => ∃ A' c', e = .returned (.tuple #[batV b.base b.epoch A' b.recs.length c', .int .i64 ((Rc.bytes b).length : Nat), .nilIface]) ∧ NewBat w.heap.size w' A' c' b ∧ Below w.heap.size w w' := by
  obtain ⟨h0, h1, h2⟩ := Rc.bytes_read b g rest
  have h3 := Rc.bytes_rsize b g rest
  have hbl := Rc.body_len b g
  have hn1 := g.n1
  have hl := Rc.bytes_len b
  have hll : (Rc.bytes b ++ rest).length = (Rc.bytes b).length + rest.length := List.length_append
  refine (read_any A cap n (Rc.bytes b ++ rest) w p hn (by omega) ha hs ht).mono fun e w' ⟨⟨val, he, hy, _⟩, hb⟩ => ?_
  obtain ⟨A', c', hv, hnb⟩ := hy h0
  rw [h2, (Rc.body_read b g).1] at hv hnb
  refine ⟨A', c', ?_, hnb, hb⟩
  rw [he, hv, h0, h3]; rfl

attribute [local go_sem] x8
end Go.Proofs.YtfdppggdgdnnaaaGreatDoor
