/-
  The walk through the reference's Little: so many bytes of a number, the lowest first.
  The walk through the reference's Batch: a batch's bytes.
-/
import Derived.Test.YtcmgppacipdnaaaGreatDoorQVFixed
import Derived.Test.YtcmgppacipdnaaaGreatDoorQVRef
import Derived.Test.YtcmgppacipdnaaaGreatDoorQRcL
import Derived.Test.YtcmgppacipdnaaaGreatDoorQRcB
import Derived.Deep.RegionHeld3
import Derived.Deep.DeepCutAuto
namespace Go.Proofs.YtcmgppacipdnaaaGreatDoor
open Go.RowKit

theorem lq1 (n : Nat) : (n : Int) / 256 % 256 = B (UInt8.ofNat (n / 256)) := mod256n (n / 256)
theorem lq2 (n : Nat) : (n : Int) / 65536 % 256 = B (UInt8.ofNat (n / 65536)) := mod256n (n / 65536)
theorem lq3 (n : Nat) : (n : Int) / 16777216 % 256 = B (UInt8.ofNat (n / 16777216)) := mod256n (n / 16777216)
theorem lq4 (n : Nat) : (n : Int) / 4294967296 % 256 = B (UInt8.ofNat (n / 4294967296)) := mod256n (n / 4294967296)
theorem lq5 (n : Nat) : (n : Int) / 1099511627776 % 256 = B (UInt8.ofNat (n / 1099511627776)) := mod256n (n / 1099511627776)
theorem lq6 (n : Nat) : (n : Int) / 281474976710656 % 256 = B (UInt8.ofNat (n / 281474976710656)) := mod256n (n / 281474976710656)
theorem lq7 (n : Nat) : (n : Int) / 72057594037927936 % 256 = B (UInt8.ofNat (n / 72057594037927936)) := mod256n (n / 72057594037927936)
attribute [local go_sem] lq1 lq2 lq3 lq4 lq5 lq6 lq7

set_option maxRecDepth 100000 in
set_option maxHeartbeats 2000000 in
theorem refLittle_any (n k : Nat) (w : World) (hn : n < 18446744073709551616) (hk : k ≤ 8) :
    Calls Tryz.prog 82 #[.int .u64 n, .int .i64 k] w fun e w' => ∃ v, e = .returned v ∧ Own w' w.heap.size v (Rc.le k n) ∧ Below w.heap.size w w' := by
  go_enter Tryz.func82, Tryz.ntmps82
  go_wp2_with fail
  go_loopw [5, 6] (fun v i wr => ∃ j : Nat, j ≤ k ∧ i = .int .i64 j ∧ Own wr w.heap.size v (Rc.le j n) ∧ Below w.heap.size w wr) (fun _ i _ => k - (intOf i).toNat)
  case atStart => exact ⟨0, Nat.zero_le _, rfl, Own.nil _ _, Below.refl _ _⟩
  case round =>
    obtain ⟨j, hj, rfl, ho, hb⟩ := hrel
    have HOK := hide ho
    have HBK := hide hb
    have HBS : Hid (w.heap.size ≤ wr.heap.size) := hb.size
    clear ho hb
    by_cases hlt : j < k
    · have hj8 : j < 8 := by omega
      match j, hj8 with
      | 0, _ =>
        have hkp : (0 : Int) < (k : Int) := by omega
        have HSN : Hid (Rc.le 1 n = Rc.le 0 n ++ [UInt8.ofNat (n)]) := hide (Rc.le_snoc 0 n |>.trans (by simp))
        have HL : Hid ((Rc.le 0 n).length = 0) := hide (Rc.le_len _ _)
        go_wp2_with (at_builtin; refine wpList_app (w := wr.alloc _) rfl (.tmp 12) (.tmp 19) rfl w.heap.size u5 (Rc.le 0 n) [UInt8.ofNat (n)] rfl (HOK.out.alloc _) _ 1 1 rfl rfl (Reads.made _ _ _ _ _ _ (by simp) rfl) (by rw [HL.out]; simp) (by simp; exact Nat.le_succ_of_le HBS.out) ?_; intro v5 w5 hown5 hg5 hv5)
        have hbn : Below w.heap.size w w5 := (balloc HBK.out _).grown hg5 (by simp; exact Nat.le_succ_of_le HBS.out) (fun g hg => (HOK.out.lt g hg).1)
        have HOW := hide hown5
        have HBN := hide hbn
        clear hown5 hg5 hv5 hbn
        go_wp2_with fail
        go_roundw
        case rel => exact ⟨1, by omega, rfl, by rw [HSN.out]; exact HOW.out, HBN.out⟩
        case measure => simp [intOf]; omega
      | 1, _ =>
        have hkp : (1 : Int) < (k : Int) := by omega
        have HSN : Hid (Rc.le 2 n = Rc.le 1 n ++ [UInt8.ofNat (n / 256)]) := hide (Rc.le_snoc 1 n)
        have HL : Hid ((Rc.le 1 n).length = 1) := hide (Rc.le_len _ _)
        go_wp2_with (at_builtin; refine wpList_app (w := wr.alloc _) rfl (.tmp 12) (.tmp 19) rfl w.heap.size u5 (Rc.le 1 n) [UInt8.ofNat (n / 256)] rfl (HOK.out.alloc _) _ 1 1 rfl rfl (Reads.made _ _ _ _ _ _ (by simp) rfl) (by rw [HL.out]; simp) (by simp; exact Nat.le_succ_of_le HBS.out) ?_; intro v5 w5 hown5 hg5 hv5)
        have hbn : Below w.heap.size w w5 := (balloc HBK.out _).grown hg5 (by simp; exact Nat.le_succ_of_le HBS.out) (fun g hg => (HOK.out.lt g hg).1)
        have HOW := hide hown5
        have HBN := hide hbn
        clear hown5 hg5 hv5 hbn
        go_wp2_with fail
        go_roundw
        case rel => exact ⟨2, by omega, rfl, by rw [HSN.out]; exact HOW.out, HBN.out⟩
        case measure => simp [intOf]; omega
      | 2, _ =>
        have hkp : (2 : Int) < (k : Int) := by omega
        have HSN : Hid (Rc.le 3 n = Rc.le 2 n ++ [UInt8.ofNat (n / 65536)]) := hide (Rc.le_snoc 2 n)
        have HL : Hid ((Rc.le 2 n).length = 2) := hide (Rc.le_len _ _)
        go_wp2_with (at_builtin; refine wpList_app (w := wr.alloc _) rfl (.tmp 12) (.tmp 19) rfl w.heap.size u5 (Rc.le 2 n) [UInt8.ofNat (n / 65536)] rfl (HOK.out.alloc _) _ 1 1 rfl rfl (Reads.made _ _ _ _ _ _ (by simp) rfl) (by rw [HL.out]; simp) (by simp; exact Nat.le_succ_of_le HBS.out) ?_; intro v5 w5 hown5 hg5 hv5)
        have hbn : Below w.heap.size w w5 := (balloc HBK.out _).grown hg5 (by simp; exact Nat.le_succ_of_le HBS.out) (fun g hg => (HOK.out.lt g hg).1)
        have HOW := hide hown5
        have HBN := hide hbn
        clear hown5 hg5 hv5 hbn
        go_wp2_with fail
        go_roundw
        case rel => exact ⟨3, by omega, rfl, by rw [HSN.out]; exact HOW.out, HBN.out⟩
        case measure => simp [intOf]; omega
      | 3, _ =>
        have hkp : (3 : Int) < (k : Int) := by omega
        have HSN : Hid (Rc.le 4 n = Rc.le 3 n ++ [UInt8.ofNat (n / 16777216)]) := hide (Rc.le_snoc 3 n)
        have HL : Hid ((Rc.le 3 n).length = 3) := hide (Rc.le_len _ _)
        go_wp2_with (at_builtin; refine wpList_app (w := wr.alloc _) rfl (.tmp 12) (.tmp 19) rfl w.heap.size u5 (Rc.le 3 n) [UInt8.ofNat (n / 16777216)] rfl (HOK.out.alloc _) _ 1 1 rfl rfl (Reads.made _ _ _ _ _ _ (by simp) rfl) (by rw [HL.out]; simp) (by simp; exact Nat.le_succ_of_le HBS.out) ?_; intro v5 w5 hown5 hg5 hv5)
        have hbn : Below w.heap.size w w5 := (balloc HBK.out _).grown hg5 (by simp; exact Nat.le_succ_of_le HBS.out) (fun g hg => (HOK.out.lt g hg).1)
        have HOW := hide hown5
        have HBN := hide hbn
        clear hown5 hg5 hv5 hbn
        go_wp2_with fail
        go_roundw
        case rel => exact ⟨4, by omega, rfl, by rw [HSN.out]; exact HOW.out, HBN.out⟩
        case measure => simp [intOf]; omega
      | 4, _ =>
        have hkp : (4 : Int) < (k : Int) := by omega
        have HSN : Hid (Rc.le 5 n = Rc.le 4 n ++ [UInt8.ofNat (n / 4294967296)]) := hide (Rc.le_snoc 4 n)
        have HL : Hid ((Rc.le 4 n).length = 4) := hide (Rc.le_len _ _)
        go_wp2_with (at_builtin; refine wpList_app (w := wr.alloc _) rfl (.tmp 12) (.tmp 19) rfl w.heap.size u5 (Rc.le 4 n) [UInt8.ofNat (n / 4294967296)] rfl (HOK.out.alloc _) _ 1 1 rfl rfl (Reads.made _ _ _ _ _ _ (by simp) rfl) (by rw [HL.out]; simp) (by simp; exact Nat.le_succ_of_le HBS.out) ?_; intro v5 w5 hown5 hg5 hv5)
        have hbn : Below w.heap.size w w5 := (balloc HBK.out _).grown hg5 (by simp; exact Nat.le_succ_of_le HBS.out) (fun g hg => (HOK.out.lt g hg).1)
        have HOW := hide hown5
        have HBN := hide hbn
        clear hown5 hg5 hv5 hbn
        go_wp2_with fail
        go_roundw
        case rel => exact ⟨5, by omega, rfl, by rw [HSN.out]; exact HOW.out, HBN.out⟩
        case measure => simp [intOf]; omega
      | 5, _ =>
        have hkp : (5 : Int) < (k : Int) := by omega
        have HSN : Hid (Rc.le 6 n = Rc.le 5 n ++ [UInt8.ofNat (n / 1099511627776)]) := hide (Rc.le_snoc 5 n)
        have HL : Hid ((Rc.le 5 n).length = 5) := hide (Rc.le_len _ _)
        go_wp2_with (at_builtin; refine wpList_app (w := wr.alloc _) rfl (.tmp 12) (.tmp 19) rfl w.heap.size u5 (Rc.le 5 n) [UInt8.ofNat (n / 1099511627776)] rfl (HOK.out.alloc _) _ 1 1 rfl rfl (Reads.made _ _ _ _ _ _ (by simp) rfl) (by rw [HL.out]; simp) (by simp; exact Nat.le_succ_of_le HBS.out) ?_; intro v5 w5 hown5 hg5 hv5)
        have hbn : Below w.heap.size w w5 := (balloc HBK.out _).grown hg5 (by simp; exact Nat.le_succ_of_le HBS.out) (fun g hg => (HOK.out.lt g hg).1)
        have HOW := hide hown5
        have HBN := hide hbn
        clear hown5 hg5 hv5 hbn
        go_wp2_with fail
        go_roundw
        case rel => exact ⟨6, by omega, rfl, by rw [HSN.out]; exact HOW.out, HBN.out⟩
        case measure => simp [intOf]; omega
      | 6, _ =>
        have hkp : (6 : Int) < (k : Int) := by omega
        have HSN : Hid (Rc.le 7 n = Rc.le 6 n ++ [UInt8.ofNat (n / 281474976710656)]) := hide (Rc.le_snoc 6 n)
        have HL : Hid ((Rc.le 6 n).length = 6) := hide (Rc.le_len _ _)
        go_wp2_with (at_builtin; refine wpList_app (w := wr.alloc _) rfl (.tmp 12) (.tmp 19) rfl w.heap.size u5 (Rc.le 6 n) [UInt8.ofNat (n / 281474976710656)] rfl (HOK.out.alloc _) _ 1 1 rfl rfl (Reads.made _ _ _ _ _ _ (by simp) rfl) (by rw [HL.out]; simp) (by simp; exact Nat.le_succ_of_le HBS.out) ?_; intro v5 w5 hown5 hg5 hv5)
        have hbn : Below w.heap.size w w5 := (balloc HBK.out _).grown hg5 (by simp; exact Nat.le_succ_of_le HBS.out) (fun g hg => (HOK.out.lt g hg).1)
        have HOW := hide hown5
        have HBN := hide hbn
        clear hown5 hg5 hv5 hbn
        go_wp2_with fail
        go_roundw
        case rel => exact ⟨7, by omega, rfl, by rw [HSN.out]; exact HOW.out, HBN.out⟩
        case measure => simp [intOf]; omega
      | 7, _ =>
        have hkp : (7 : Int) < (k : Int) := by omega
        have HSN : Hid (Rc.le 8 n = Rc.le 7 n ++ [UInt8.ofNat (n / 72057594037927936)]) := hide (Rc.le_snoc 7 n)
        have HL : Hid ((Rc.le 7 n).length = 7) := hide (Rc.le_len _ _)
        have h7 : (n : Int) / 72057594037927936 = B (UInt8.ofNat (n / 72057594037927936)) := by have := mod256n (n / 72057594037927936); omega
        go_wp2_with (at_builtin; refine wpList_app (w := wr.alloc _) rfl (.tmp 12) (.tmp 19) rfl w.heap.size u5 (Rc.le 7 n) [UInt8.ofNat (n / 72057594037927936)] rfl (HOK.out.alloc _) _ 1 1 rfl rfl (Reads.made _ _ _ _ _ _ (by simp) rfl) (by rw [HL.out]; simp) (by simp; exact Nat.le_succ_of_le HBS.out) ?_; intro v5 w5 hown5 hg5 hv5)
        have hbn : Below w.heap.size w w5 := (balloc HBK.out _).grown hg5 (by simp; exact Nat.le_succ_of_le HBS.out) (fun g hg => (HOK.out.lt g hg).1)
        have HOW := hide hown5
        have HBN := hide hbn
        clear hown5 hg5 hv5 hbn
        go_wp2_with fail
        go_roundw
        case rel => exact ⟨8, by omega, rfl, by rw [HSN.out]; exact HOW.out, HBN.out⟩
        case measure => simp [intOf]; omega
      | j + 8, h => omega
    · obtain rfl : j = k := by omega
      go_wp2_with fail
      go_ret
      exact ⟨_, rfl, HOK.out, HBK.out⟩
end Go.Proofs.YtcmgppacipdnaaaGreatDoor

namespace Go.Proofs.YtcmgppacipdnaaaGreatDoor
open Go.RowKit Crc

theorem rlittle8 (n : Nat) (w : World) (hn : n < 18446744073709551616) : Calls Tryz.prog 82 #[.int .u64 n, .int .i64 8] w fun e w' => ∃ v, e = .returned v ∧ Own w' w.heap.size v (Rc.le 8 n) ∧ Below w.heap.size w w' := refLittle_any n 8 w hn (by omega)
theorem rlittle4 (n : Nat) (w : World) (hn : n < 18446744073709551616) : Calls Tryz.prog 82 #[.int .u64 n, .int .i64 4] w fun e w' => ∃ v, e = .returned v ∧ Own w' w.heap.size v (Rc.le 4 n) ∧ Below w.heap.size w w' := refLittle_any n 4 w hn (by omega)
theorem rlittle2 (n : Nat) (w : World) (hn : n < 18446744073709551616) : Calls Tryz.prog 82 #[.int .u64 n, .int .i64 2] w fun e w' => ∃ v, e = .returned v ∧ Own w' w.heap.size v (Rc.le 2 n) ∧ Below w.heap.size w w' := refLittle_any n 2 w hn (by omega)

section
variable {w : World} {o : Oper} {a : Act} {Q : Exit → Act → World → Prop}
/-- append(s, x...), s the call's own bytes, x whatever reads as bytes: a step of a region that draws. -/
theorem step_add {K : Act → World → Prop} (s x : Operand) (ho : o.op = .call { callee := .builtin .append, args := #[s, x], argTypes := #[67, 67] })
    (base : Nat) (v : Value) (l m : List UInt8) (hs : a.eval s = v) (hown : Own w base v l) (A : Option Addr) (n c : Nat) (hx : a.eval x = .slice A n c) (hn : m.length = n) (hr : Reads w A m)
    (hlen : l.length + n ≤ 1073741824) (hbase : base ≤ w.heap.size)
    (h : ∀ v' w', Own w' base v' (l ++ m) → w.grownBy w' v.ownBlock → (v'.ownBlock = v.ownBlock ∨ v'.ownBlock = some w.heap.size) → K (a.put o.dst v') w') : o.wp Tryz.prog a w K Q := by
  subst hn
  obtain ⟨i, hi, hz, hs1, hby⟩ := info_parts byte_info
  have key : ∃ v' w', (Builtin.append_ #[67, 67] o.type #[v, .slice A m.length c]).run Tryz.prog w = .ok v' w' ∧ Own w' base v' (l ++ m) ∧ w.grownBy w' v.ownBlock ∧ (v'.ownBlock = v.ownBlock ∨ v'.ownBlock = some w.heap.size) := by
    cases A with
    | none =>
      have h0 : m = [] := by
        rcases hr with h | ⟨_, _, h, _⟩
        · exact h
        · cases h
      subst h0
      refine ⟨v, w, ?_, by simpa using hown, World.grownBy.refl w _, .inl rfl⟩
      have u := Tryz.underlying67
      rcases hown.2 with ⟨rfl, _⟩ | ⟨g, cap, cur, rfl, _, _, hnc, _⟩
      · simp [Builtin.append_, run_underlying u, sizeOf, typeInfo, hi, Builtin.lenOf, Builtin.firstCells]
      · simp [Builtin.append_, run_underlying u, sizeOf, typeInfo, hi, Builtin.lenOf, Builtin.firstCells, hnc, storeCells]
    | some ad =>
      obtain ⟨v', w', hrun, h2, h3, _, h5⟩ := run_append_own_at (P := Tryz.prog) w base 67 o.type 5 i _ 1 1 Tryz.underlying67 hi hz hs1 hby rfl (by omega) v l.length (cells l) hown ad m.length c (cells m) (by rw [cells_len]; omega) hr.news (cells_one m)
        (by simp only [maxLen]; omega) (by omega) hbase
      refine ⟨v', w', hrun, ?_, h3, h5⟩
      unfold Own
      rw [List.length_append, show cells (l ++ m) = cells l ++ cells m from by simp [cells]]
      exact h2
  obtain ⟨v', w', hrun, h2, h3, h4⟩ := key
  unfold Oper.wp execOp
  simp only [ho, resolve, invoke, builtin, Sem.run_bind, Sem.run_pure, Result.andThen_ok, List.map_toArray, List.map_cons, List.map_nil, hs, hx, hrun]
  exact h v' w' h2 h3 h4
end

set_option maxRecDepth 100000 in
set_option maxHeartbeats 2000000 in
theorem rbatch_any (b : Rc.Bat) (A : Option Addr) (cap n : Nat) (w : World) (h : IsBat w A cap b) (hg : Rc.Good b) (hn : b.recs.length = n) :
    Calls Tryz.prog 39 #[batV b.base b.epoch A n cap] w fun e w' => ∃ v, e = .returned v ∧ Own w' w.heap.size v (Rc.bytes b) ∧ Below w.heap.size w w' := by
  subst hn
  obtain ⟨ba, hba⟩ := Int.eq_ofNat_of_zero_le hg.base0
  obtain ⟨ep, hep⟩ := Int.eq_ofNat_of_zero_le hg.ep0
  have hba1 := hg.base1
  have hep1 := hg.ep1
  have hn1 := hg.n1
  have hn0 := hg.n0
  rw [hba, hep]
  rw [hba] at hba1
  rw [hep] at hep1
  have HBODY : Hid (Rc.body b = (((Rc.le 8 ba ++ Rc.le 4 ep) ++ Rc.le 2 b.recs.length) ++ Vi.put (Vi.zz (Rc.t0 b))) ++ Rc.recsB (Rc.t0 b) b.recs) := by
    show _ = _
    unfold Rc.body Rc.hd
    rw [hba, hep]; rfl
  have hbl := Rc.body_len b hg
  have HBL := hide hbl
  have HG := hide hg
  have hrec := h.recs
  obtain ⟨W0, hW0⟩ : ∃ W0, W0 = w.alloc (.cells #[.int .i64 ba, .int .i64 ep, .slice A b.recs.length cap] 36) := ⟨_, rfl⟩
  have hb0 : Below w.heap.size w W0 := hW0 ▸ balloc (Below.refl _ _) _
  have hz0 : W0.heap.size = w.heap.size + 1 := by rw [hW0]; simp
  obtain ⟨m0, m1, m2⟩ := made3 w (.int .i64 ba) (.int .i64 ep) (.slice A b.recs.length cap) 36
  rw [← hW0] at m0 m1 m2
  have HR := hide (hrec.below hb0 (Nat.le_refl _))
  have HB0 := hide hb0
  have HL8 := hide (fun W => rlittle8 ba W (by omega))
  have HL4 := hide (fun W => rlittle4 ep W (by omega))
  have hxl : w.heap.size < W0.heap.size := by omega
  have hw8 : IntKind.u64.wrap (ba : Int) = (ba : Int) := by rw [IntKind.wrap_u64]; omega
  have hw4 : IntKind.u64.wrap (ep : Int) = (ep : Int) := by rw [IntKind.wrap_u64]; omega
  clear h hg hbl hb0 hrec hba hep
  go_enter Tryz.func39, Tryz.ntmps39
  go_upto_region 1 with fail
  rw [← hW0]
  clear hW0
  go_region_held3 (fun w' => w'.cell? ⟨w.heap.size, 0, none⟩ = some (.int .i64 ba) ∧ w'.cell? ⟨w.heap.size, 1, none⟩ = some (.int .i64 ep)) (go_keep)
    (first
      | (go_at_call 82; (with_reducible refine (HL8.out _).mono ?_); rintro e w1 ⟨v1, rfl, ho1, hb1⟩; have hs1 : w1.cell? ⟨w.heap.size, 0, none⟩ = some (.int .i64 ba) ∧ w1.cell? ⟨w.heap.size, 1, none⟩ = some (.int .i64 ep) := ⟨(hb1.cell (p := ⟨w.heap.size, 0, none⟩) hxl).trans m0, (hb1.cell (p := ⟨w.heap.size, 1, none⟩) hxl).trans m1⟩)
      | (go_at_call 82; (with_reducible refine (HL4.out _).mono ?_); rintro e w2 ⟨v2, rfl, ho2, hb2⟩; have hs2 : w2.cell? ⟨w.heap.size, 0, none⟩ = some (.int .i64 ba) ∧ w2.cell? ⟨w.heap.size, 1, none⟩ = some (.int .i64 ep) := ⟨(hb2.cell (p := ⟨w.heap.size, 0, none⟩) (Nat.lt_of_lt_of_le hxl hb1.size)).trans hs1.1, (hb2.cell (p := ⟨w.heap.size, 1, none⟩) (Nat.lt_of_lt_of_le hxl hb1.size)).trans hs1.2⟩; obtain ⟨A2, c2, rfl, ha2⟩ := ho2.arg)
      | (have _t := ho2; refine step_add (.tmp 11) (.tmp 15) (by rfl) W0.heap.size v1 (Rc.le 8 ba) (Rc.le 4 ep) (by rfl) (ho1.below hb2 (Nat.le_refl _)) A2 _ c2 (by rfl) rfl ha2.reads (by simp [Rc.le_len]) (by have h1 := hb1.size; have h2 := hb2.size; exact Nat.le_trans h1 h2) ?_; intro v3 w3 hown3 hg3 hv3; have hs3 : w3.cell? ⟨w.heap.size, 0, none⟩ = some (.int .i64 ba) ∧ w3.cell? ⟨w.heap.size, 1, none⟩ = some (.int .i64 ep) := ⟨hg3.cell hs2.1 (fun e => Nat.not_le.2 hxl (ho1.lt _ e.symm).1), hg3.cell hs2.2 (fun e => Nat.not_le.2 hxl (ho1.lt _ e.symm).1)⟩)
      | fail)
  have hb12 : Below W0.heap.size W0 w2 := ((Below.refl W0.heap.size W0).drew.trans hb1).trans (hb2.mono hb1.size)
  have hb3 := hb12.grown hg3 hb12.size (fun k hk => (ho1.lt k hk).1)
  have hb3' : Below (w.heap.size + 1) W0 w3 := hz0 ▸ hb3
  have HB3 := hide hb3'
  have ho3 : Own w3 (w.heap.size + 1) v3 (Rc.le 8 ba ++ Rc.le 4 ep) := hz0 ▸ hown3
  have HO3 := hide ho3
  have d3 := (hb3'.cell (p := ⟨w.heap.size, 2, none⟩) (by show w.heap.size < _; omega)).trans m2
  have hz3 := hb3'.size
  have HL2 := hide (fun W => rlittle2 b.recs.length W (by omega))
  clear hb12 hb3 hb3' ho3 hown3 hg3 hv3 hs1 hs2 hs3 ho1 hb1 ho2 hb2 ha2 HL8 HL4 hw8 hw4 m0 m1
  go_wp2_with fail
  refine (HL2.out _).mono ?_
  rintro e w4 ⟨v4, rfl, ho4, hb4⟩
  have HO4 := hide (HO3.out.below hb4 (Nat.le_refl _))
  have HB4 := hide (HB3.out.trans (hb4.mono (by omega)))
  obtain ⟨A4, c4, rfl, ha4⟩ := ho4.arg
  have HA4 := hide ha4.reads
  have hl4 : (Rc.le 2 b.recs.length).length = 2 := Rc.le_len _ _
  have hl3 : (Rc.le 8 ba ++ Rc.le 4 ep).length = 12 := by simp [Rc.le_len]
  have hz4 := HB4.out.size
  clear ho4 hb4 ha4 HL2 HO3 HB3 d3
  rw [hl4]
  go_upto_region 3 with (at_builtin; refine wpList_app (w := w4) rfl (.tmp 17) (.tmp 22) rfl (w.heap.size + 1) v3 (Rc.le 8 ba ++ Rc.le 4 ep) (Rc.le 2 b.recs.length) rfl HO4.out A4 2 c4 rfl hl4 HA4.out (by omega) (by omega) ?_; intro v5 w5 hown5 hg5 hv5)
  have HO5 := hide hown5
  have hb5 := HB4.out.trans ((Grown.app hg5 hv5).below HO4.out (Nat.le_refl _) (by omega))
  have HB5 := hide hb5
  have d5 := (hb5.cell (p := ⟨w.heap.size, 2, none⟩) (by show w.heap.size < _; omega)).trans m2
  have hz5 := hb5.size
  have hr5 := HR.out.below hb5 (Nat.le_of_eq hz0)
  have hd5 : ((Rc.le 8 ba ++ Rc.le 4 ep) ++ Rc.le 2 b.recs.length).length = 14 := by rw [List.length_append, hl3, hl4]
  clear hown5 hg5 hv5 hb5 HO4 HB4 HA4 hl3 hl4
  generalize (Rc.le 8 ba ++ Rc.le 4 ep) ++ Rc.le 2 b.recs.length = hd at *
  rcases hr5 with h0 | ⟨bb, off, rfl, hb0, hcl⟩
  · rw [h0] at hn0; simp at hn0
  obtain ⟨Ak, ck, Av, cv, c0, -⟩ := (hcl 0 hn0).ex
  rw [Nat.zero_mul, Nat.add_zero] at c0
  change w5.cell? ⟨bb, off, none⟩ = some (.int .i64 (Rc.t0 b)) at c0
  obtain ⟨ht1, ht2⟩ := HG.out.t0
  have hzp : (Vi.put (Vi.zz (Rc.t0 b))).length = Vi.size (Vi.zz (Rc.t0 b)) := rfl
  have hz10 := Vi.size_le10 (Vi.zz_lt (Rc.t0 b) (by omega) (by omega))
  have HP5 := hide (refPutInt_any (Rc.t0 b) w5 (by omega) (by omega))
  clear hcl
  go_wp2_with fail
  refine HP5.out.mono ?_
  rintro e w6 ⟨v6, rfl, ho6, hb6⟩
  obtain ⟨A6, c6, rfl, ha6⟩ := ho6.arg
  have HO6 := hide (HO5.out.below hb6 (Nat.le_refl _))
  have HB6 := hide (HB5.out.trans (hb6.mono (by omega)))
  have HA6 := hide ha6.reads
  have c0' := (hb6.cell (p := ⟨bb, off, none⟩) hb0).trans c0
  have d6 := (hb6.cell (p := ⟨w.heap.size, 2, none⟩) (by show w.heap.size < _; omega)).trans d5
  have hz6 := hb6.size
  rw [hzp]
  clear ha6 ho6 hb6 HP5 c0 d5 HB5 HO5
  generalize hzb : Vi.put (Vi.zz (Rc.t0 b)) = pz at *
  have HZB := hide hzb
  clear hzb
  generalize Vi.size (Vi.zz (Rc.t0 b)) = sz at *
  go_upto_region 4 with (at_builtin; refine wpList_app (w := w6) rfl (.tmp 24) (.tmp 30) rfl (w.heap.size + 1) _ hd pz rfl HO6.out A6 sz c6 rfl hzp HA6.out (by omega) (by omega) ?_; intro v7 w7 hown7 hg7 hv7)
  have HO7 := hide hown7
  have hb7 := HB6.out.trans ((Grown.app hg7 hv7).below HO6.out (Nat.le_refl _) (by omega))
  have HB7 := hide hb7
  have d7 := (hb7.cell (p := ⟨w.heap.size, 2, none⟩) (by show w.heap.size < _; omega)).trans m2
  have hz7 := hb7.size
  have c07 : w7.cell? ⟨bb, off, none⟩ = some (.int .i64 (Rc.t0 b)) := by
    rcases HR.out.below hb7 (Nat.le_of_eq hz0) with h0 | ⟨b', off', e', hb', hcl⟩
    · rw [h0] at hn0; simp at hn0
    · injection e' with e'
      injection e' with e1 e2
      subst e1 e2
      obtain ⟨_, _, _, _, c0, -⟩ := (hcl 0 hn0).ex
      rw [Nat.zero_mul, Nat.add_zero] at c0
      exact c0
  have hl7 : (hd ++ pz).length ≤ 24 := by rw [List.length_append]; omega
  clear hown7 hg7 hv7 hb7 HO6 HB6 HA6 c0' d6
  generalize hd ++ pz = pre at *
  generalize ht0 : Rc.t0 b = T at *
  generalize hrs : b.recs = rs at *
  have HGR : Hid (∀ r ∈ rs, -1099511627776 ≤ r.t ∧ r.t ≤ 1099511627776 ∧ r.k.length ≤ 64 ∧ r.v.length ≤ 512) := hide (hrs ▸ HG.out.recs)
  clear hrs ht0 HG
  go_wp2_with fail
  go_loopw [3, 4, 5] (fun v t i wr => ∃ k : Nat, k ≤ rs.length ∧ i = .int .i64 k ∧ t = .int .i64 (Rc.lastT T (rs.take k)) ∧ Own wr (w.heap.size + 1) v (pre ++ Rc.recsB T (rs.take k)) ∧ (pre ++ Rc.recsB T (rs.take k)).length ≤ 24 + 606 * k ∧ Below (w.heap.size + 1) W0 wr) (fun _ _ i _ => rs.length - (intOf i).toNat)
  case atStart => exact ⟨0, Nat.zero_le _, rfl, rfl, by simpa [Rc.recsB] using HO7.out, by simpa [Rc.recsB] using hl7, HB7.out⟩
  case round =>
    obtain ⟨k, hk, rfl, rfl, ho, hll, hb⟩ := hrel
    have HOK := hide ho
    have HBK := hide hb
    have HZK : Hid (w.heap.size + 1 ≤ wr.heap.size) := hide (by have := hb.size; omega)
    have d8 := (hb.cell (p := ⟨w.heap.size, 2, none⟩) (by show w.heap.size < _; omega)).trans m2
    clear ho hb
    by_cases hlt : k < rs.length
    · rcases HR.out with h0 | ⟨b', off', e', hb0', hcl⟩
      · rw [h0] at hlt; simp at hlt
      injection e' with e'
      injection e' with e1 e2
      subst e1 e2
      obtain ⟨Ak, ck, Av, cv, c0, c1, c2, ha, hv⟩ := (hcl k hlt).ex
      have hbl : bb < w.heap.size + 1 := by omega
      have d0 := (HBK.out.cell (p := ⟨bb, off + k * 3, none⟩) hbl).trans c0
      have d1 := (HBK.out.cell (p := ⟨bb, off + k * 3 + 1, none⟩) hbl).trans c1
      have d2 := (HBK.out.cell (p := ⟨bb, off + k * 3 + 2, none⟩) hbl).trans c2
      have hok := HGR.out (rs.getD k default) (by rw [show rs.getD k default = rs[k] from by simp [List.getD, hlt]]; exact List.getElem_mem hlt)
      have hlo := Rc.lastT_ok T (rs.take k) (fun r hr => HGR.out r (List.mem_of_mem_take hr)) ⟨ht1, ht2⟩
      have hrl := Rc.recB_len (Rc.lastT T (rs.take k)) (rs.getD k default) hok hlo
      have HT1 : Hid (rs.take (k + 1) = rs.take k ++ [rs.getD k default]) := by
        show _ = _
        rw [List.take_succ_eq_append_getElem hlt]; simp [List.getD, hlt]
      have HT2 : Hid (Rc.lastT T (rs.take (k + 1)) = (rs.getD k default).t) := by
        show _ = _
        rw [HT1.out, Rc.lastT_snoc]
      have HT3 : Hid (pre ++ Rc.recsB T (rs.take (k + 1)) = (pre ++ Rc.recsB T (rs.take k)) ++ Rc.recB (Rc.lastT T (rs.take k)) (rs.getD k default)) := by
        show _ = _
        rw [HT1.out, Rc.recsB_snoc, List.append_assoc]
      have HKA := hide (fun W (hw : Below (w.heap.size + 1) wr W) => ha.below (HBK.out.trans hw) (Nat.le_of_eq hz0))
      have HVA := hide (fun W (hw : Below (w.heap.size + 1) wr W) => hv.below (HBK.out.trans hw) (Nat.le_of_eq hz0))
      clear hcl c0 c1 c2 ha hv HT1 c07
      generalize rs.getD k default = x at *
      generalize hpk : pre ++ Rc.recsB T (rs.take k) = pk at *
      generalize hlk : Rc.lastT T (rs.take k) = lk at *
      have HPK := hide hpk
      clear hpk hlk
      obtain ⟨t, ky, vl⟩ := x
      simp only at d0 d1 d2 hok HKA HVA
      go_upto_region 9 with fail
      obtain ⟨k0, k1, k2⟩ := made3 wr (.int .i64 t) (.slice Ak ky.length ck) (.slice Av vl.length cv) 80
      have hba : Below wr.heap.size wr (wr.alloc (.cells #[.int .i64 t, .slice Ak ky.length ck, .slice Av vl.length cv] 80)) := balloc (Below.refl _ _) _
      have hga : wr.heap.size < (wr.alloc (.cells #[.int .i64 t, .slice Ak ky.length ck, .slice Av vl.length cv] 80)).heap.size := by simp
      have HOA := hide (HOK.out.below hba (Nat.le_refl _))
      have HBA : Hid (Below (w.heap.size + 1) wr (wr.alloc (.cells #[.int .i64 t, .slice Ak ky.length ck, .slice Av vl.length cv] 80))) := hide (hba.mono HZK.out)
      have HNE := hide (show u3.ownBlock ≠ some wr.heap.size from fun e => by have := (HOK.out.lt _ e).2; omega)
      have HZA := hide HZK.out
      clear d0 d1 d2 hba HOK d8
      generalize wr.alloc (.cells #[.int .i64 t, .slice Ak ky.length ck, .slice Av vl.length cv] 80) = wa at *
      generalize wr.heap.size = ga at *
      have hsub : IntKind.i64.wrap (t - lk) = t - lk := by rw [IntKind.wrap_i64]; omega
      have HPI := hide (refPutInt_any (t - lk) wa (by omega) (by omega))
      have hzz : (Vi.put (Vi.zz (t - lk))).length = Vi.size (Vi.zz (t - lk)) := rfl
      have hz10 := Vi.size_le10 (Vi.zz_lt (t - lk) (by omega) (by omega))
      have HRB : Hid (pk ++ Rc.recB lk ⟨t, ky, vl⟩ = ((((pk ++ Vi.put (Vi.zz (t - lk))) ++ Vi.put ky.length) ++ ky) ++ Vi.put vl.length) ++ vl) := by
        show _ = _
        unfold Rc.recB Rc.eT
        simp only [List.append_assoc]
      have hek : (Vi.put ky.length).length ≤ 10 := Vi.size_le10 (by omega)
      have hev : (Vi.put vl.length).length ≤ 10 := Vi.size_le10 (by omega)
      have HRL := hide hrl
      clear hrl
      go_upto_region 10 with fail
      refine HPI.out.mono ?_
      rintro e wb ⟨v6, rfl, ho6, hb6⟩
      obtain ⟨A6, c6, rfl, ha6⟩ := ho6.arg
      have HOB := hide (HOA.out.below hb6 (Nat.le_refl _))
      have HGB := hide (Grown.of_below hb6 u3)
      have HA6 := hide ha6.reads
      have hzb := hb6.size
      rw [hzz]
      clear ha6 hb6 ho6 HPI
      generalize Vi.put (Vi.zz (t - lk)) = pd at *
      generalize Vi.size (Vi.zz (t - lk)) = sd at *
      go_upto_region 10 with (at_builtin; refine wpList_app (w := wb) rfl (.tmp 49) (.tmp 54) rfl (w.heap.size + 1) _ pk pd rfl HOB.out A6 sd c6 rfl hzz HA6.out (by omega) (by have := HZA.out; omega) ?_; intro vc wc hownc hgc hvc)
      have HOC := hide hownc
      have hgc' := HGB.out.trans (Grown.app hgc hvc)
      have HGC := hide hgc'
      have f1 := (hgc'.cell (o := 1) hga HNE.out).trans k1
      have hzc := hgc'.size
      have hlc : (pk ++ pd).length ≤ 100000 := by rw [List.length_append]; omega
      have K0 := hide k0
      have K1 := hide k1
      have K2 := hide k2
      have HPN := hide (refPut_any ky.length wc (by omega))
      clear hownc hgc hvc hgc' k0 k1 k2 HOB HGB HA6
      generalize hpp : Vi.put ky.length = pn at *
      have HPP := hide hpp
      clear hpp
      generalize pk ++ pd = p2 at *
      go_upto_region 11 with fail
      refine HPN.out.mono ?_
      rintro e wd ⟨v8, rfl, ho8, hb8⟩
      obtain ⟨A8, c8, rfl, ha8⟩ := ho8.arg
      have HOD := hide (HOC.out.below hb8 (Nat.le_refl _))
      have HGD := hide (HGC.out.trans (Grown.of_below hb8 _))
      have HA8 := hide ha8.reads
      have hzd := hb8.size
      clear ha8 ho8 hb8 HPN HOC HGC f1
      generalize hpl : pn.length = ln at *
      go_upto_region 11 with (at_builtin; refine wpList_app (w := wd) rfl (.tmp 56) (.tmp 61) rfl (w.heap.size + 1) _ p2 pn rfl HOD.out A8 ln c8 rfl hpl HA8.out (by omega) (by have := HZA.out; omega) ?_; intro ve we howne hge hve)
      have HOE := hide howne
      have hge' := HGD.out.trans (Grown.app hge hve)
      have HGE := hide hge'
      have g1 := (hge'.cell (o := 1) hga HNE.out).trans K1.out
      have hze := hge'.size
      have HKE := hide (HKA.out _ (HBA.out.trans (hge'.below HOA.out (Nat.le_refl _) (by have := HZA.out; omega))))
      have hle2 : (p2 ++ pn).length ≤ 200000 := by rw [List.length_append]; omega
      clear howne hge hve hge' HOD HGD HA8
      generalize p2 ++ pn = p3 at *
      go_upto_region 12 with (at_builtin; refine wpList_app (w := we) rfl (.tmp 63) (.tmp 65) rfl (w.heap.size + 1) _ p3 ky rfl HOE.out Ak ky.length ck rfl rfl HKE.out.reads (by omega) (by have := HZA.out; omega) ?_; intro vf wf hownf hgf hvf)
      have HOF := hide hownf
      have hgf' := HGE.out.trans (Grown.app hgf hvf)
      have HGF := hide hgf'
      have q2 := (hgf'.cell (o := 2) hga HNE.out).trans K2.out
      have hzf := hgf'.size
      have hlf : (p3 ++ ky).length ≤ 300000 := by rw [List.length_append]; omega
      have HPV := hide (refPut_any vl.length wf (by omega))
      clear hownf hgf hvf hgf' HOE HGE HKE g1
      generalize hpp : Vi.put vl.length = pm at *
      have HPM := hide hpp
      clear hpp
      generalize p3 ++ ky = p4 at *
      go_upto_region 13 with fail
      refine HPV.out.mono ?_
      rintro e wg ⟨v9, rfl, ho9, hb9⟩
      obtain ⟨A9, c9, rfl, ha9⟩ := ho9.arg
      have HOG := hide (HOF.out.below hb9 (Nat.le_refl _))
      have HGG := hide (HGF.out.trans (Grown.of_below hb9 _))
      have HA9 := hide ha9.reads
      have hzg := hb9.size
      clear ha9 ho9 hb9 HPV HOF HGF q2
      generalize hpl2 : pm.length = lm at *
      go_upto_region 13 with (at_builtin; refine wpList_app (w := wg) rfl (.tmp 67) (.tmp 72) rfl (w.heap.size + 1) _ p4 pm rfl HOG.out A9 lm c9 rfl hpl2 HA9.out (by omega) (by have := HZA.out; omega) ?_; intro vh wh hownh hgh hvh)
      have HOH := hide hownh
      have hgh' := HGG.out.trans (Grown.app hgh hvh)
      have HGH := hide hgh'
      have q2 := (hgh'.cell (o := 2) hga HNE.out).trans K2.out
      have hzh := hgh'.size
      have HVE := hide (HVA.out _ (HBA.out.trans (hgh'.below HOA.out (Nat.le_refl _) (by have := HZA.out; omega))))
      have hlh : (p4 ++ pm).length ≤ 400000 := by rw [List.length_append]; omega
      clear hownh hgh hvh hgh' HOG HGG HA9
      generalize p4 ++ pm = p5 at *
      go_upto_region 14 with (at_builtin; refine wpList_app (w := wh) rfl (.tmp 74) (.tmp 76) rfl (w.heap.size + 1) _ p5 vl rfl HOH.out Av vl.length cv rfl rfl HVE.out.reads (by omega) (by have := HZA.out; omega) ?_; intro vi wi howni hgi hvi)
      have HOI := hide howni
      have hgi' := HGH.out.trans (Grown.app hgi hvi)
      have q0 := (hgi'.cell (o := 0) hga HNE.out).trans K0.out
      have HBI := hide (HBK.out.trans (HBA.out.trans (hgi'.below HOA.out (Nat.le_refl _) (by have := HZA.out; omega))))
      have hle : (pre ++ Rc.recsB T (rs.take (k + 1))).length ≤ 24 + 606 * (k + 1) := by
        rw [HT3.out, List.length_append]; have := HRL.out; omega
      have HLE := hide hle
      clear howni hgi hvi hgi' HOH HGH HVE q2 hle
      go_wp2_with fail
      refine ⟨⟨k + 1, by omega, by go_num, by rw [HT2.out], ?_, HLE.out, HBI.out⟩, by simp [intOf]; omega⟩
      rw [HT3.out, HRB.out]; exact HOI.out
    · obtain rfl : k = rs.length := by omega
      have HTT : Hid (rs.take rs.length = rs) := hide (List.take_length)
      have hob := HOK.out
      rw [HTT.out, ← HBODY.out] at hob
      obtain ⟨Ab, cb, rfl, hab⟩ := hob.arg
      have hz9 := HBK.out.size
      have HL4 := hide (rlittle4 (Rc.body b).length wr (by have := HBL.out; omega))
      have HBY : Hid (Rc.bytes b = (Rc.le 4 (Rc.body b).length ++ Rc.le 4 (Rc.sumN (Rc.body b))) ++ Rc.body b) := hide rfl
      have hblu := HBL.out.2
      have hsn1 := Rc.sumN_lt (Rc.body b)
      have HSU := hide (fun W (hr : Reads W Ab (Rc.body b)) => refSum_any Ab cb (Rc.body b).length (Rc.body b) W rfl (by have := HBL.out; omega) hr)
      have HUE : Hid (U (sum (Rc.body b)) = ((Rc.sumN (Rc.body b) : Nat) : Int)) := hide rfl
      have HRB2 := hide (fun W (hb : Below wr.heap.size wr W) => hab.reads.below hb (Nat.le_refl _))
      clear c07 hob hab hll HOK
      generalize Rc.body b = bd at *
      rw [HUE.out] at HSU
      generalize Rc.sumN bd = sn at *
      go_wp2_with fail
      refine HL4.out.mono ?_
      rintro e wa ⟨va, rfl, hoa, hba⟩
      have HOA := hide hoa
      have HBA := hide hba
      have HSA := hide (HSU.out wa (HRB2.out wa hba))
      clear hoa hba HL4
      go_wp2_with fail
      refine HSA.out.mono ?_
      rintro e wb ⟨rfl, rfl⟩
      have HLS := hide (rlittle4 sn wa (by omega))
      go_wp2_with fail
      refine HLS.out.mono ?_
      rintro e wc ⟨vc, rfl, hoc, hbc⟩
      obtain ⟨Ac, cc, rfl, hac⟩ := hoc.arg
      have HOC := hide (HOA.out.below hbc (Nat.le_refl _))
      have HBC := hide (HBA.out.trans (hbc.mono HBA.out.size))
      have HAC := hide hac.reads
      have hl4 : (Rc.le 4 sn).length = 4 := Rc.le_len _ _
      have hl4' : (Rc.le 4 bd.length).length = 4 := Rc.le_len _ _
      have hzc := HBC.out.size
      rw [hl4]
      clear hoc hbc hac HLS HSA HSU HOA HBA
      go_upto_region 16 with (at_builtin; refine wpList_app (w := wc) rfl (.tmp 83) (.tmp 87) rfl wr.heap.size _ (Rc.le 4 bd.length) (Rc.le 4 sn) rfl HOC.out Ac 4 cc rfl hl4 HAC.out (by omega) (by omega) ?_; intro vd wd hownd hgd hvd)
      have HOD := hide hownd
      have hbd := HBC.out.trans ((Grown.app hgd hvd).below HOC.out (Nat.le_refl _) (by omega))
      have HBD := hide hbd
      have HRD := hide (HRB2.out wd hbd)
      have hzd := hbd.size
      have hl8 : (Rc.le 4 bd.length ++ Rc.le 4 sn).length = 8 := by rw [List.length_append, hl4, hl4']
      clear hownd hgd hvd hbd HOC HBC HAC hl4 hl4'
      generalize Rc.le 4 bd.length ++ Rc.le 4 sn = h8 at *
      clear d8
      go_wp2_with (at_builtin; refine wpList_app (w := wd) rfl (.tmp 89) (.tmp 90) rfl wr.heap.size _ h8 bd rfl HOD.out Ab bd.length cb rfl rfl HRD.out (by omega) (by omega) ?_; intro ve we howne hge hve)
      go_ret
      refine ⟨_, rfl, ?_, HB0.out.trans ((HBK.out.trans ((HBD.out.trans ((Grown.app hge hve).below HOD.out (Nat.le_refl _) hzd)).mono (by omega))).mono (by omega))⟩
      rw [HBY.out]
      exact howne.mono (by omega)
end Go.Proofs.YtcmgppacipdnaaaGreatDoor
