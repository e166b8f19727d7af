/-
  The walk through package crc's Seal.
-/
import Derived.Test.YtoaioijgmbhhnaaDoorOf
import Derived.Outline
namespace Go.Proofs.YtoaioijgmbhhnaaDoor
open Go.RowKit Crc
attribute [local go_sem] BtoNat x32 n32 x8 and8_15 mod256 wrap8 xs32 Bd16toNat mul2

theorem div16b (c : BitVec 32) : U c / (65536 : Int) = U (c >>> 16) := by
  unfold U; rw [BitVec.toNat_ushiftRight, Nat.shiftRight_eq_div_pow]; simp
theorem div24b (c : BitVec 32) : U c / (16777216 : Int) = U (c >>> 24) := by
  unfold U; rw [BitVec.toNat_ushiftRight, Nat.shiftRight_eq_div_pow]; simp
theorem little_cells (c : BitVec 32) : (cells (little c)).toArray = #[.int .u8 (B (u8 c)), .int .u8 (U c / 256 % 256), .int .u8 (U c / 65536 % 256), .int .u8 (U c / 16777216)] := by
  have h := U_hi c
  have h0 := U_lo c
  have e : U c / 16777216 = U c / 16777216 % 256 := by omega
  rw [e, div256, div16b, div24b, mod256, mod256, mod256]; rfl

set_option maxRecDepth 100000 in
set_option maxHeartbeats 400000 in
theorem seal_any (A : Option Addr) (cap n : Nat) (l : List UInt8) (w : World) (hn : l.length = n) (hl : n ≤ 1000000) (hr : Reads w A l) (ht : Tabs w) (hw : 4 ≤ w.heap.size) :
    Calls Tryd.prog 70 #[.slice A n cap] w fun e w' => ∃ v, e = .returned v ∧ Own w' w.heap.size v (l ++ little (sum l)) ∧ Below w.heap.size w w' := by
  have HR := hide hr
  have HT := hide ht
  have HN := hide hn
  clear hr ht hn
  go_enter Tryd.func70, Tryd.ntmps70
  go_wp2_with (first
    | (at_make; refine wpList_mk rfl (.tmp 6) (.tmp 9) rfl n (n + 4) _ _ rfl rfl rfl (by omega) (by omega) (by omega) ?_; intro w1 hown1 hb1 hs1)
    | (refine wpList_cp (o := ⟨some 13, _, _, _, _, _⟩) rfl (.tmp 11) (.tmp 12) rfl w.heap.size _ l _ _ _ rfl hown1 A n cap rfl HN.out (HR.out.below hb1 (Nat.le_refl _)) ?_; intro w2 hown2 hg2 hs2))
  have hb2 : Below w.heap.size w w2 := hb1.grown hg2 (by omega) (by intro k hk; simp [Value.ownBlock] at hk; omega)
  have hz : w.heap.size < w2.heap.size := by omega
  have HB2 := hide hb2
  have HH : Hid (w1.heap.size = w.heap.size + 1 ∧ w2.heap.size = w1.heap.size) := ⟨hs1, hs2⟩
  have hown2' : Own w2 w.heap.size (.slice (some ⟨w.heap.size, 0, none⟩) n (n + 4)) l := by
    have e1 : l.take (List.replicate n (0 : UInt8)).length = l := by rw [List.length_replicate, ← HN.out, List.take_length]
    have e2 : (List.replicate n (0 : UInt8)).drop l.length = [] := by rw [HN.out]; simp
    have := hown2
    rwa [e1, e2, List.append_nil] at this
  have HO2 := hide hown2'
  clear hown1 hown2 hown2' hs1 hs2 hg2 hb2
  refine (of_at _ _ _ [⟨A, cap, l⟩] _ rfl (Nat.le_of_ble_eq_true rfl) ?_ ?_).mono ?_
  · exact readsAll_slice _ _ _ _ _ _ _ HN.out (by have := HH.out; omega) (HR.out.below HB2.out (Nat.le_refl _)) (by omega)
  · exact (HT.out.below HB2.out (Nat.le_refl _)).alloc (by omega) _
  rintro e w' ⟨rfl, k, rfl⟩
  rw [show flat [⟨A, cap, l⟩] = l from by simp [flat]]
  obtain ⟨S, hS⟩ : ∃ S, S = sum l := ⟨_, rfl⟩
  rw [← hS]
  have HS := hide hS
  clear hS
  have HC := hide (little_cells S)
  have HO := hide (little_len S)
  have d1 := U_lo S
  have d2 := U_hi S
  go_wp2_with (at_builtin; refine wpList_app (w := ((w2.alloc _).drewN k).alloc _) rfl (.tmp 17) (.tmp 29) rfl w.heap.size _ l (little S) rfl (((HO2.out.alloc _).drewN k).alloc _) _ 4 4 rfl HO.out (Reads.made _ _ _ _ _ _ (by simp) HC.out) (by rw [HN.out]; omega) (by simp; omega) ?_; intro v w3 hown3 hg3 hv3)
  go_ret
  refine ⟨v, rfl, by rw [← HS.out]; exact hown3, ?_⟩
  refine ((below_drewN (HB2.out.alloc (by omega) _) k).alloc (by simp; omega) _).grown hg3 (by simp; omega) ?_
  intro g hg
  have e : w.heap.size = g := Option.some.inj hg
  omega
end Go.Proofs.YtoaioijgmbhhnaaDoor
