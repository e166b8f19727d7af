/-
  make of records and of bytes: what lies there.
  The walk through the statements' own Row: batches that follow one another.
  Batches by numbers, all of one epoch: Row where epochs do not rise.
-/
import Derived.Test.YtfdppggdgdnnaaaGreatDoorZ3
import Derived.Test.YtfdppggdgdnnaaaGreatDoorZ12
import Derived.Test.YtfdppggdgdnnaaaGreatDoorZ7
namespace Go.Proofs.YtfdppggdgdnnaaaGreatDoor
open Go.RowKit

theorem cell_alloc_at (w : World) (C : Array Value) (t : TypeId) (n j : Nat) (hn : n = w.heap.size) : (w.alloc (.cells C t)).cell? ⟨n, j, none⟩ = C[j]? := by
  subst hn; exact World.cell?_alloc_mark _ _ _ _ _
theorem madeCells_get (z : Array Value) (n i : Nat) (h : i < n) : (madeCells z n)[i]? = some (z[i % z.size]!) := by
  unfold madeCells
  rw [Array.getElem?_map, Array.getElem?_range]
  simp [h]
theorem make_recs (N : Nat) (hN : N ≤ 1000) : ∃ CS : Array Value, (∀ k j, k < N → j < 3 → CS[k * 3 + j]? = (#[.int .i64 0, .slice none 0 0, .slice none 0 0] : Array Value)[j]?) ∧
    ∀ W, (Instr.makeSlice 39 (.int .i64 (N : Int)) (.int .i64 (N : Int))).run Tryz.prog W = .ok (.slice (some ⟨W.heap.size, 0, none⟩) N N) (W.alloc (.cells CS 81)) := by
  obtain ⟨i, hi, hz, hs1, hby⟩ := info_parts record_info
  refine ⟨madeCells #[.int .i64 0, .slice none 0 0, .slice none 0 0] (N * 3), fun k j hk hj => ?_, fun W => ?_⟩
  · rw [madeCells_get _ _ _ (by omega)]
    have e : (k * 3 + j) % (#[.int .i64 0, .slice none 0 0, .slice none 0 0] : Array Value).size = j := by
      show (k * 3 + j) % 3 = j
      omega
    rw [e]
    match j, hj with
    | 0, _ => rfl
    | 1, _ => rfl
    | 2, _ => rfl
  · have h := run_make (P := Tryz.prog) W 39 81 i _ Tryz.underlying39 hi hz .i64 .i64 (N : Int) (N : Int) (by omega) (by omega) (by rw [hby]; omega) (by omega)
    rw [h, hs1]
    rfl
theorem make_bytes (N : Nat) (hN : N ≤ 1000) : ∃ CS : Array Value, (∀ k, k < N → CS[k]? = some (.int .u8 0)) ∧
    ∀ W, (Instr.makeSlice 32 (.int .i64 (N : Int)) (.int .i64 (N : Int))).run Tryz.prog W = .ok (.slice (some ⟨W.heap.size, 0, none⟩) N N) (W.alloc (.cells CS 5)) := by
  obtain ⟨i, hi, hz, hs1, hby⟩ := info_parts byte_info
  refine ⟨madeCells #[.int .u8 0] (N * 1), fun k hk => ?_, fun W => ?_⟩
  · rw [madeCells_get _ _ _ (by omega)]
    have e : k % (#[.int .u8 0] : Array Value).size = 0 := by
      show k % 1 = 0
      omega
    rw [e]
    rfl
  · have h := run_make (P := Tryz.prog) W 32 5 i _ Tryz.underlying32 hi hz .i64 .i64 (N : Int) (N : Int) (by omega) (by omega) (by rw [hby]; omega) (by omega)
    rw [h, hs1]
    rfl
theorem Arg.zeros {w : World} {g N : Nat} (hN : N ≤ 1000) (hg : g < w.heap.size) (h : ∀ k, k < N → w.cell? ⟨g, k, none⟩ = some (.int .u8 0)) : Arg w (some ⟨g, 0, none⟩) N (List.replicate N 0) := by
  refine ⟨by simp, by omega, fun e => (by cases e), .inr ⟨g, 0, rfl, hg, fun k hk => ?_⟩⟩
  rw [List.length_replicate] at hk
  rw [Nat.zero_add, h k hk]
  simp [List.getD, hk, B]
end Go.Proofs.YtfdppggdgdnnaaaGreatDoor

namespace Go.Proofs.YtfdppggdgdnnaaaGreatDoor
open Go.RowKit

theorem Bld.num1 {w0 w : World} {B lo : Nat} {base ep : Int} {v : Value} {qs : List PRec} (h : Bld w0 w B lo base ep v qs) (x : Int) : Bld w0 (w.setCell ⟨B, 1, none⟩ (.int .i64 x)) B lo base x v qs := by
  have hb := grown_set w B 1 (.int .i64 x)
  have ol := h.ol
  have ob := h.ob
  have hs := hb.size
  have hs2 := h.os
  have h4 : ∀ k, k ≠ 1 → (w.setCell ⟨B, 1, none⟩ (.int .i64 x)).cell? ⟨B, k, none⟩ = w.cell? ⟨B, k, none⟩ := fun k hk => World.cell?_setCell_other _ _ _ _ (by simp)
  exact ⟨(h4 0 (by omega)).trans h.c0, World.cell?_setCell_same _ _ _ h.c1, (h4 2 (by omega)).trans h.c2, fun k => (World.frozen?_setCell _ _ _ _).trans (h.f k), ob, ol, by omega, h.row.keep hb (by omega), h.below.grown hb h.below.size (fun k hk => by injection hk with hk; omega)⟩

theorem row_succ' {w : World} {base : Nat} {e : TypeId} {size n : Nat} {v : Value} {xs : List Value} (h : w.ownsRow base e size v (n + 1) xs) : ∃ g cap, v = .slice (some ⟨g, 0, none⟩) (n + 1) cap := by
  rcases h.2 with ⟨_, h0⟩ | ⟨g, cap, _, e, _⟩
  · omega
  · exact ⟨g, cap, e⟩
theorem row_new (w : World) (N : Nat) (hN : N < 9) (CS : Array Value) (hcs : ∀ k, k < N → CS[k]? = some (.int .u8 0)) (t : Int) (lo : Nat) (v : Value) (hlo : lo ≤ w.heap.size) (hv : ∀ k, v.ownBlock = some k → k < w.heap.size) (W3 : World)
    (hW : W3 = ((w.alloc (.cells #[.int .u8 (97 + (N : Int))] 5)).alloc (.cells CS 5)).alloc (.cells #[.int .i64 t, .slice (some ⟨w.heap.size, 0, none⟩) 1 1, .slice (some ⟨w.heap.size + 1, 0, none⟩) N N] 81)) :
    Below w.heap.size w W3 ∧ W3.heap.size = w.heap.size + 3 ∧ (W3.cell? ⟨w.heap.size + 1 + 1, 0, none⟩ = some (.int .i64 t) ∧ W3.cell? ⟨w.heap.size + 1 + 1, 1, none⟩ = some (.slice (some ⟨w.heap.size, 0, none⟩) 1 1) ∧ W3.cell? ⟨w.heap.size + 1 + 1, 2, none⟩ = some (.slice (some ⟨w.heap.size + 1, 0, none⟩) N N)) ∧
    Txt W3 lo v (some ⟨w.heap.size, 0, none⟩) 1 [UInt8.ofNat (97 + N)] ∧ Txt W3 lo v (some ⟨w.heap.size + 1, 0, none⟩) N (List.replicate N 0) := by
  have s1 : (w.alloc (.cells #[.int .u8 (97 + (N : Int))] 5)).heap.size = w.heap.size + 1 := by simp
  have s2 : ((w.alloc (.cells #[.int .u8 (97 + (N : Int))] 5)).alloc (.cells CS 5)).heap.size = w.heap.size + 1 + 1 := by simp
  have s3 : W3.heap.size = w.heap.size + 3 := by rw [hW]; simp
  have hb : Below w.heap.size w W3 := by rw [hW]; exact balloc (balloc (balloc (Below.refl _ _) _) _) _
  have k0 : W3.cell? ⟨w.heap.size, 0, none⟩ = some (.int .u8 (97 + (N : Int))) := by
    rw [hW, World.cell?_alloc_lt _ _ _ (by rw [s2]; show w.heap.size < _; omega), World.cell?_alloc_lt _ _ _ (by rw [s1]; show w.heap.size < _; omega), World.cell?_alloc_mark]; rfl
  have k1 : ∀ k, k < N → W3.cell? ⟨w.heap.size + 1, k, none⟩ = some (.int .u8 0) := fun k hk => by
    rw [hW, World.cell?_alloc_lt _ _ _ (by rw [s2]; show w.heap.size + 1 < _; omega), cell_alloc_at _ _ _ _ _ s1.symm]; exact hcs k hk
  have k2 : ∀ k, W3.cell? ⟨w.heap.size + 1 + 1, k, none⟩ = (#[.int .i64 t, .slice (some ⟨w.heap.size, 0, none⟩) 1 1, .slice (some ⟨w.heap.size + 1, 0, none⟩) N N] : Array Value)[k]? := fun k => by
    rw [hW, cell_alloc_at _ _ _ _ _ s2.symm]
  refine ⟨hb, s3, ⟨k2 0, k2 1, k2 2⟩, ⟨⟨Nat.le_refl _, by simp, fun e => (by cases e), .inr ⟨w.heap.size, 0, rfl, by omega, fun k hk => ?_⟩⟩, fun _ b off e => ?_⟩, ⟨Arg.zeros (by omega) (by omega) k1, fun _ b off e => ?_⟩⟩
  · obtain rfl : k = 0 := by simp at hk; exact hk
    rw [Nat.zero_add, k0]
    simp [B]
    omega
  · injection e with e
    injection e with e1
    subst e1
    exact ⟨hlo, fun h => by have := hv _ h; omega⟩
  · injection e with e
    injection e with e1
    subst e1
    exact ⟨by omega, fun h => by have := hv _ h; omega⟩

namespace Rw
/-- A record of such a batch; such a batch; all of them. -/
def kv (z : Int) (k : Nat) : Nat := num (IntKind.i64.wrap (z + k)) 9
def rc (i : Nat) (z : Int) (k : Nat) : Rc.Rec := ⟨100 * (i : Int) + k, [UInt8.ofNat (97 + kv z k)], List.replicate (kv z k) 0⟩
def many (z : Int) : Nat := num z 5 + 1
def bt (at_ : Int) (i : Nat) (ev : Nat) (z : Int) : Rc.Bat := ⟨at_, 1 + ((i / ev : Nat) : Int), (List.range (many z)).map (rc i z)⟩
def go (at_ : Int) (i : Nat) (ev : Nat) : List Int → List Rc.Bat
  | [] => []
  | z :: zs => bt at_ i ev z :: go (at_ + many z) (i + 1) ev zs
theorem kv_lt (z : Int) (k : Nat) : kv z k < 9 := num_lt _ _ (by omega)
theorem many_bd (z : Int) : 1 ≤ many z ∧ many z ≤ 5 := by
  unfold many
  have := num_lt z 5 (by omega)
  omega
theorem go_len (zs : List Int) : ∀ at_ i ev, (go at_ i ev zs).length = zs.length := by
  induction zs with
  | nil => intros; rfl
  | cons z zs ih => intro at_ i ev; simp [go, ih]
/-- Each may be, is small, and lies where it does. -/
theorem go_ok (zs : List Int) : ∀ (at_ : Int) (i ev : Nat), 0 ≤ at_ → at_ + 5 * zs.length ≤ 1000000 → i + zs.length ≤ 100 → ∀ b ∈ go at_ i ev zs, Rc.Good b ∧ b.recs.length ≤ 5 ∧ ∀ r ∈ b.recs, r.k.length ≤ 64 ∧ r.v.length ≤ 512 := by
  induction zs with
  | nil => intro at_ i ev _ _ _ b hb; simp [go] at hb
  | cons z zs ih =>
    intro at_ i ev h0 h1 h2 b hb
    have hm := many_bd z
    rw [List.length_cons] at h1 h2
    rcases List.mem_cons.1 hb with rfl | hb
    · have hl : (bt at_ i ev z).recs.length = many z := by simp [bt]
      have hr : ∀ r ∈ (bt at_ i ev z).recs, -1099511627776 ≤ r.t ∧ r.t ≤ 1099511627776 ∧ r.k.length ≤ 64 ∧ r.v.length ≤ 512 := by
        intro r hr
        obtain ⟨k, hk, rfl⟩ := List.mem_map.1 hr
        have hk' := List.mem_range.1 hk
        have := kv_lt z k
        refine ⟨?_, ?_, by simp [rc], by simp [rc]; omega⟩
        · show -1099511627776 ≤ 100 * (i : Int) + (k : Int); omega
        · show 100 * (i : Int) + (k : Int) ≤ 1099511627776; omega
      have hd : i / ev ≤ i := Nat.div_le_self _ _
      refine ⟨⟨by omega, by omega, h0, ?_, ?_, ?_, hr⟩, by omega, fun r h => ⟨(hr r h).2.2.1, (hr r h).2.2.2⟩⟩
      · rw [hl]; show at_ + (many z : Int) ≤ _; omega
      · show (0 : Int) ≤ 1 + ((i / ev : Nat) : Int)
        generalize i / ev = q at *
        omega
      · show 1 + ((i / ev : Nat) : Int) ≤ _
        generalize i / ev = q at *
        omega
    · exact ih (at_ + many z) (i + 1) ev (by omega) (by omega) (by omega) b hb
end Rw

set_option maxRecDepth 100000 in
set_option maxHeartbeats 4000000 in
theorem row_any (base : Nat) (A : Option Addr) (cap n ev : Nat) (zs : List Int) (w : World) (hn : zs.length = n) (hn2 : n ≤ 20) (hb : base ≤ 100) (hev : 0 < ev) (hev2 : ev ≤ 100) (hA : Ints w A zs) (hz : ∀ k, k < zs.length → -9223372036854775808 ≤ zs.getD k 0 ∧ zs.getD k 0 ≤ 9223372036854775807) :
    Calls Tryz.prog 12 #[.int .i64 base, .slice A n cap, .int .i64 ev] w fun e w' => (∃ A c, e = .returned (.slice A n c) ∧ n ≤ c ∧ c ≤ 9223372036854775807 ∧ Bats w' A (Rw.go base 0 ev zs)) ∧ Below w.heap.size w w' := by
  subst hn
  have HA := hide hA
  have HZ := hide hz
  clear hA hz
  go_enter Tryz.func12, Tryz.ntmps12
  go_wp2_with fail
  go_loopw [7, 8, 9] (fun v at_ i wr => ∃ (k : Nat) (a : Nat) (qs : List PBat), k ≤ zs.length ∧ i = .int .i64 k ∧ at_ = .int .i64 a ∧ a ≤ base + 5 * k ∧ BRow wr w.heap.size v qs ∧ qs.length = k ∧ Below w.heap.size w wr ∧ qs.map (·.b) ++ Rw.go a k ev (zs.drop k) = Rw.go base 0 ev zs) (fun _ _ i _ => zs.length - (intOf i).toNat)
  case atStart => exact ⟨0, base, [], Nat.zero_le _, rfl, rfl, by omega, BRow.nil _ _, rfl, Below.refl _ _, by simp⟩
  case round =>
    obtain ⟨k, a, qs, hk, rfl, rfl, ha, hrow, hql, hb, hgo⟩ := hrel
    have HRW := hide hrow
    have HBK := hide hb
    have HGO := hide hgo
    have HQL := hide hql
    clear hrow hb hgo hql
    obtain ⟨Av, cv, rfl, -, -, -⟩ := HRW.out.val
    by_cases hlt : k < zs.length
    · rcases HA.out with e0 | ⟨b, off, rfl, hb0, hcl⟩
      · rw [e0] at hlt; simp at hlt
      have hcell : wr.cell? ⟨b, off + k, none⟩ = some (.int .i64 (zs.getD k 0)) := (HBK.out.cell (p := ⟨b, off + k, none⟩) hb0).trans (hcl k hlt)
      obtain ⟨bd1, bd2⟩ := HZ.out k hlt
      have HDR : Hid (zs.drop k = zs.getD k 0 :: zs.drop (k + 1)) := by
        show _ = _
        rw [List.drop_eq_getElem_cons hlt]; simp [List.getD, hlt]
      have HCEL := hide (hcl k hlt)
      have HB0L := hide hb0
      clear hcl
      generalize zs.getD k 0 = z at *
      have hbl : b < wr.heap.size := Nat.lt_of_lt_of_le hb0 HBK.out.size
      go_upto_region 7 with fail
      have hbld := Bld.new (Below.refl wr.heap.size wr) (a : Int) 1 41
      have HBD := hide hbld
      obtain ⟨BB, hBB⟩ : ∃ BB, BB = wr.heap.size := ⟨_, rfl⟩
      rw [← hBB] at HBD ⊢
      have HBB := hide hBB
      have y0 := HBD.out.c1
      have y1 := HBD.out.f 1
      have HW4 : Hid (Below wr.heap.size wr (wr.alloc (.cells #[.int .i64 (a : Int), .int .i64 1, .slice none 0 0] 41))) := hide (balloc (Below.refl _ _) _)
      clear hbld hBB
      generalize wr.alloc (.cells #[.int .i64 (a : Int), .int .i64 1, .slice none 0 0] 41) = w4 at *
      have hdk : k / ev ≤ k := Nat.div_le_self _ _
      have hdv : (k : Int).tdiv (ev : Int) = ((k / ev : Nat) : Int) := by rw [Int.tdiv_eq_ediv_of_nonneg (by omega)]; rfl
      have HDK := hide hdk
      go_upto_region 9 with fail
      have hep : wrap64 (1 + wrap64 ((k : Int) / (ev : Int))) = 1 + ((k / ev : Nat) : Int) := by
        rw [show (k : Int) / (ev : Int) = ((k / ev : Nat) : Int) from rfl]
        generalize k / ev = q at *
        have hq : -9223372036854775808 ≤ (q : Int) ∧ (q : Int) ≤ 9223372036854775807 := by omega
        rw [IntWalk.wrap64_in (q : Int) hq, IntWalk.wrap64_in (1 + (q : Int)) (by omega)]
      rw [hep]
      have HB5 := hide (HBD.out.num1 (1 + ((k / ev : Nat) : Int)))
      have HW5 := hide (HW4.out.trans ((Below.refl _ _).setCell (p := ⟨BB, 1, none⟩) (by show _ ≤ BB; rw [HBB.out]; exact Nat.le_refl _) (.int .i64 (1 + ((k / ev : Nat) : Int)))))
      clear hep hdv hdk y0 y1 HBD HW4
      generalize hepo : 1 + ((k / ev : Nat) : Int) = ep at *
      have HEP := hide hepo
      clear hepo
      generalize w4.setCell ⟨BB, 1, none⟩ (.int .i64 ep) = w5 at *
      have hc5 := (HW5.out.cell (p := ⟨b, off + k, none⟩) hbl).trans hcell
      have HNM := hide (fun W => num_at z 5 5 W rfl (by omega) (by omega) bd1 bd2)
      have hm5 := num_lt z 5 (by omega)
      go_wp2_with fail
      refine (HNM.out _).mono ?_
      rintro e w6 ⟨rfl, rfl⟩
      have HMN : Hid (Rw.many z = num z 5 + 1) := hide rfl
      generalize num z 5 = nz at *
      clear HNM hcell
      go_upto_block 2 with fail
      go_cut [12] (fun _ wx => ∃ v ps, Bld wr wx BB (BB + 1) a ep v ps ∧ ps.map (·.r) = (List.range (nz + 1)).map (Rw.rc k z))
      case first =>
        go_wp2_with fail
        go_loopw [12] (fun i wi => ∃ (j : Nat) (v : Value) (ps : List PRec), j ≤ nz + 1 ∧ i = .int .i64 j ∧ Bld wr wi BB (BB + 1) a ep v ps ∧ ps.map (·.r) = (List.range j).map (Rw.rc k z)) (fun i _ => nz + 1 - (intOf i).toNat)
        case atStart => exact ⟨0, _, [], Nat.zero_le _, rfl, HB5.out, by simp⟩
        case round =>
          obtain ⟨j, v, ps, hj, rfl, hbld, hps⟩ := hrel
          have HBL := hide hbld
          have HPS := hide hps
          have hpl : ps.length = j := by
            have := congrArg List.length hps
            rwa [List.length_map, List.length_map, List.length_range] at this
          have HPL := hide hpl
          clear hps hpl
          by_cases hlj : j < nz + 1
          · have hci := (hbld.below.cell (p := ⟨b, off + k, none⟩) hbl).trans ((HBK.out.cell (p := ⟨b, off + k, none⟩) HB0L.out).trans HCEL.out)
            have HNV := hide (fun W => num_at (IntKind.i64.wrap (z + j)) 9 9 W rfl (by omega) (by omega) (by rw [IntKind.wrap_i64]; omega) (by rw [IntKind.wrap_i64]; omega))
            have hkv : num (IntKind.i64.wrap (z + j)) 9 = Rw.kv z j := rfl
            rw [hkv, IntWalk.i64_left] at HNV
            have hkl := Rw.kv_lt z j
            have HRC : Hid (Rw.rc k z j = ⟨100 * (k : Int) + j, [UInt8.ofNat (97 + Rw.kv z j)], List.replicate (Rw.kv z j) 0⟩) := hide rfl
            generalize Rw.kv z j = N at *
            obtain ⟨CS, hcs, hmk⟩ := make_bytes N (by omega)
            obtain ⟨Ab, cb, rfl, -, -, -⟩ := hbld.row.val
            have z0 := hbld.c2
            have z1 := hbld.f 2
            have hos := hbld.os
            clear hbld hkv
            go_wp2_with fail
            refine (HNV.out _).mono ?_
            rintro e w9 ⟨rfl, rfl⟩
            clear HNV
            go_upto_region 15 with fail
            obtain ⟨W3, hW3⟩ : ∃ W3, W3 = ((wr.alloc (.cells #[.int .u8 (97 + (N : Int))] 5)).alloc (.cells CS 5)).alloc (.cells #[.int .i64 (100 * (k : Int) + (j : Int)), .slice (some ⟨wr.heap.size, 0, none⟩) 1 1, .slice (some ⟨wr.heap.size + 1, 0, none⟩) N N] 81) := ⟨_, rfl⟩
            obtain ⟨hb3, hz3, ⟨x0, x1, x2⟩, ht1, ht2⟩ := row_new wr N hkl CS hcs (100 * (k : Int) + (j : Int)) (BB + 1) (.slice Ab ps.length cb) hos (fun q hq => (HBL.out.row.own.lt q hq).2) W3 hW3
            rw [← hW3]
            have HB3 := hide (HBL.out.quiet hb3)
            have z0 := HB3.out.c2
            have z1 := HB3.out.f 2
            have HT1 := hide ht1
            have HT2 := hide ht2
            have hos3 := HB3.out.os
            obtain ⟨i0, hi, hz, hs1, hby⟩ := info_parts record_info
            clear hW3 hb3 hz3 ht1 ht2 hcs hmk hos
            have HBAL : Hid (Below W3.heap.size W3 (W3.alloc (.cells #[.int .i64 (100 * (k : Int) + (j : Int)), .slice (some ⟨wr.heap.size, 0, none⟩) 1 1, .slice (some ⟨wr.heap.size + 1, 0, none⟩) N N] 81))) := hide (balloc (Below.refl _ _) _)
            have hlr : (List.replicate N (0 : UInt8)).length = N := List.length_replicate
            have HLR := hide hlr
            have HPC : Hid (PRec.cells ⟨⟨100 * (k : Int) + (j : Int), [UInt8.ofNat (97 + N)], List.replicate N 0⟩, some ⟨wr.heap.size, 0, none⟩, 1, some ⟨wr.heap.size + 1, 0, none⟩, N⟩ = [.int .i64 (100 * (k : Int) + (j : Int)), .slice (some ⟨wr.heap.size, 0, none⟩) 1 1, .slice (some ⟨wr.heap.size + 1, 0, none⟩) N N]) := by
              show _ = _
              unfold PRec.cells
              rw [HLR.out]; rfl
            clear hlr
            go_wp2_with (at_builtin; refine wpList_append_own_at (w := W3.alloc _) rfl (.tmp 61) (.tmp 63) 39 rfl (BB + 1) 81 i0 _ 3 56 Tryz.underlying39 hi hz hs1 hby rfl (by omega) (.slice Ab ps.length cb) ps.length (ps.flatMap PRec.cells) rfl (HB3.out.row.own.alloc _) ⟨W3.heap.size, 0, none⟩ 1 1 (PRec.cells ⟨⟨100 * (k : Int) + (j : Int), [UInt8.ofNat (97 + N)], List.replicate N 0⟩, some ⟨wr.heap.size, 0, none⟩, 1, some ⟨wr.heap.size + 1, 0, none⟩, N⟩) rfl rfl (by rw [HPC.out]; exact cells_three _ _ _ _ _) (PRec.cells_one _) (by have := HPL.out; simp only [maxLen]; omega) (by have := HPL.out; omega) (by simp; omega) ?_; intro v5 wd hown5 hg5 hnil5 hat5; obtain ⟨g5, c5, rfl⟩ := row_succ' hown5; have ymid := HB3.out.mid HBAL.out hg5; have y2 := ymid.1; have y3 := ymid.2; have HPUSH := hide (HB3.out.push (q := ⟨⟨100 * (k : Int) + (j : Int), [UInt8.ofNat (97 + N)], List.replicate N 0⟩, some ⟨wr.heap.size, 0, none⟩, 1, some ⟨wr.heap.size + 1, 0, none⟩, N⟩) HT1.out HT2.out HBAL.out hg5 hat5 hown5); clear hown5 hg5 hnil5 hat5 ymid)
            refine ⟨⟨j + 1, _, _, by omega, by go_num, HPUSH.out, ?_⟩, by simp [intOf]; omega⟩
            rw [List.map_append, HPS.out, List.range_succ, List.map_append, List.map_singleton, List.map_singleton, HRC.out]
          · obtain rfl : j = nz + 1 := by omega
            go_wp2_with fail
            go_meet
            exact ⟨_, ps, HBL.out, HPS.out⟩
      case rest =>
        obtain ⟨v, ps, hbld, hps⟩ := hcut
        have HBL := hide hbld
        have HPS := hide hps
        obtain ⟨Ab, cb, rfl, hpc, hpm, -⟩ := hbld.row.val
        have c0 := hbld.c0
        have c1 := hbld.c1
        have c2 := hbld.c2
        have hbw := hbld.below
        have HBW := hide hbw
        have HR6 := hide (HRW.out.below hbw)
        have hd6 : k / ev ≤ k := Nat.div_le_self _ _
        have hep1 : 0 ≤ ep ∧ ep ≤ 1000 := by
          rw [← HEP.out]
          generalize k / ev = q at *
          omega
        have HNEW := hide (hbld.row.newBat (a : Int) ep (by omega) (by omega))
        have hpl : (ps.map (·.r)).length = ps.length := List.length_map _
        have HPL := hide hpl
        have HBAL : Hid (Below wc.heap.size wc (wc.alloc (.cells #[.int .i64 (a : Int), .int .i64 ep, .slice Ab ps.length cb] 41))) := hide (balloc (Below.refl _ _) _)
        have HZW : Hid (w.heap.size ≤ wc.heap.size) := hide (Nat.le_trans HBK.out.size hbw.size)
        have HPC : Hid (PBat.cells ⟨⟨(a : Int), ep, ps.map (·.r)⟩, Ab, cb⟩ = [.int .i64 (a : Int), .int .i64 ep, .slice Ab ps.length cb]) := by
          show _ = _
          unfold PBat.cells
          rw [HPL.out]
        obtain ⟨i0, hi, hz, hs1, hby⟩ := info_parts batch_info
        clear hbld hps hbw hpl hd6
        go_wp2_with (at_builtin; refine wpList_append_own_at (w := wc.alloc _) rfl (.tmp 69) (.tmp 71) 26 rfl w.heap.size 41 i0 _ 3 40 Tryz.underlying26 hi hz hs1 hby rfl (by omega) (.slice Av qs.length cv) qs.length (qs.flatMap PBat.cells) rfl (HR6.out.own.alloc _) ⟨wc.heap.size, 0, none⟩ 1 1 (PBat.cells ⟨⟨(a : Int), ep, ps.map (·.r)⟩, Ab, cb⟩) rfl rfl (by rw [HPC.out]; exact cells_three _ _ _ _ _) (PBat.cells_one _) (by have := HQL.out; simp only [maxLen]; omega) (by have := HQL.out; omega) (by have := HZW.out; simp; omega) ?_; intro v5 wd hown5 hg5 hnil5 hat5; have HROW5 := hide (HR6.out.app (q := ⟨⟨(a : Int), ep, ps.map (·.r)⟩, Ab, cb⟩) (by have := HBK.out.size; have := HBB.out; omega) HNEW.out (Above.refl _ _) (fun q hq => by have := (HRW.out.own.lt q hq).2; have := HBB.out; omega) HBAL.out hg5 hat5 hown5); have HB5 := hide ((HBK.out.trans (HBW.out.mono HBK.out.size)).trans ((HBAL.out.mono HZW.out).trans ((Below.refl w.heap.size _).grown hg5 (by have := HZW.out; simp; omega) (fun q hq => (HRW.out.own.lt q hq).1)))); clear hown5 hg5 hnil5 hat5)
        refine ⟨⟨k + 1, a + (nz + 1), _, by omega, by go_num, by go_num, by omega, HROW5.out, by rw [List.length_append, HQL.out]; rfl, HB5.out, ?_⟩, by simp [intOf]; omega⟩
        rw [← HGO.out, HDR.out, List.map_append, List.append_assoc, Rw.go]
        have e1 : Rw.bt (a : Int) k ev z = ⟨(a : Int), ep, ps.map (·.r)⟩ := by
          unfold Rw.bt
          rw [HPS.out, HMN.out, ← HEP.out]
        have e2 : ((a : Int) + (Rw.many z : Int)) = ((a + (nz + 1) : Nat) : Int) := by
          rw [HMN.out]; omega
        rw [e1, e2]
        rfl
    · obtain rfl : k = zs.length := by omega
      obtain ⟨Ax, cx, hv, hc1, hc2, hbx⟩ := HRW.out.val
      injection hv with hv1 hv2 hv3
      subst hv1 hv3
      have HBX := hide hbx
      clear hbx
      have HEN : Hid (qs.map (·.b) = Rw.go base 0 ev zs) := by
        show _ = _
        rw [← HGO.out, List.drop_length]
        simp [Rw.go]
      go_wp2_with fail
      go_ret
      refine ⟨⟨Av, cv, by rw [HQL.out]; rfl, by rw [← HQL.out]; exact hc1, hc2, by rw [← HEN.out]; exact HBX.out⟩, HBK.out⟩
end Go.Proofs.YtfdppggdgdnnaaaGreatDoor

namespace Go.Proofs.YtfdppggdgdnnaaaGreatDoor
open Go.RowKit

set_option maxRecDepth 100000 in
set_option maxHeartbeats 4000000 in
theorem rowZ_any (base : Nat) (A : Option Addr) (cap n : Nat) (zs : List Int) (w : World) (hn : zs.length = n) (hn2 : n ≤ 20) (hb : base ≤ 1073741824) (hA : Ints w A zs) (hz : ∀ k, k < zs.length → -9223372036854775808 ≤ zs.getD k 0 ∧ zs.getD k 0 ≤ 9223372036854775807) :
    Calls Tryz.prog 12 #[.int .i64 base, .slice A n cap, .int .i64 0] w fun e w' => (∃ A c, e = .returned (.slice A n c) ∧ n ≤ c ∧ c ≤ 9223372036854775807 ∧ Bats w' A (Rw.go base 0 0 zs) ∧ ∃ qs, BRow w' w.heap.size (.slice A n c) qs ∧ qs.map (·.b) = Rw.go base 0 0 zs) ∧ Below w.heap.size w w' := by
  subst hn
  have HA := hide hA
  have HZ := hide hz
  clear hA hz
  go_enter Tryz.func12, Tryz.ntmps12
  go_wp2_with fail
  go_loopw [7, 8, 9] (fun v at_ i wr => ∃ (k : Nat) (a : Nat) (qs : List PBat), k ≤ zs.length ∧ i = .int .i64 k ∧ at_ = .int .i64 a ∧ a ≤ base + 5 * k ∧ BRow wr w.heap.size v qs ∧ qs.length = k ∧ Below w.heap.size w wr ∧ qs.map (·.b) ++ Rw.go a k 0 (zs.drop k) = Rw.go base 0 0 zs) (fun _ _ i _ => zs.length - (intOf i).toNat)
  case atStart => exact ⟨0, base, [], Nat.zero_le _, rfl, rfl, by omega, BRow.nil _ _, rfl, Below.refl _ _, by simp⟩
  case round =>
    obtain ⟨k, a, qs, hk, rfl, rfl, ha, hrow, hql, hb, hgo⟩ := hrel
    have HRW := hide hrow
    have HBK := hide hb
    have HGO := hide hgo
    have HQL := hide hql
    clear hrow hb hgo hql
    obtain ⟨Av, cv, rfl, -, -, -⟩ := HRW.out.val
    by_cases hlt : k < zs.length
    · rcases HA.out with e0 | ⟨b, off, rfl, hb0, hcl⟩
      · rw [e0] at hlt; simp at hlt
      have hcell : wr.cell? ⟨b, off + k, none⟩ = some (.int .i64 (zs.getD k 0)) := (HBK.out.cell (p := ⟨b, off + k, none⟩) hb0).trans (hcl k hlt)
      obtain ⟨bd1, bd2⟩ := HZ.out k hlt
      have HDR : Hid (zs.drop k = zs.getD k 0 :: zs.drop (k + 1)) := by
        show _ = _
        rw [List.drop_eq_getElem_cons hlt]; simp [List.getD, hlt]
      have HCEL := hide (hcl k hlt)
      have HB0L := hide hb0
      clear hcl
      generalize zs.getD k 0 = z at *
      have hbl : b < wr.heap.size := Nat.lt_of_lt_of_le hb0 HBK.out.size
      go_upto_region 7 with fail
      have hbld := Bld.new (Below.refl wr.heap.size wr) (a : Int) 1 41
      have HBD := hide hbld
      obtain ⟨BB, hBB⟩ : ∃ BB, BB = wr.heap.size := ⟨_, rfl⟩
      rw [← hBB] at HBD ⊢
      have HBB := hide hBB
      have y0 := HBD.out.c1
      have y1 := HBD.out.f 1
      have HW4 : Hid (Below wr.heap.size wr (wr.alloc (.cells #[.int .i64 (a : Int), .int .i64 1, .slice none 0 0] 41))) := hide (balloc (Below.refl _ _) _)
      clear hbld hBB
      generalize wr.alloc (.cells #[.int .i64 (a : Int), .int .i64 1, .slice none 0 0] 41) = w4 at *
      obtain ⟨ep, hepo⟩ : ∃ ep : Int, 1 + ((k / 0 : Nat) : Int) = ep := ⟨_, rfl⟩
      have HEP := hide hepo
      have he1 : ep = 1 := by rw [← hepo]; simp
      have HE1 := hide he1
      have HB5 : Hid (Bld wr w4 BB (BB + 1) (a : Int) ep (.slice none 0 0) []) := hide (by rw [HE1.out]; exact HBD.out)
      have HW5 := hide HW4.out
      clear y0 y1 HBD HW4 hepo he1
      generalize w4 = w5 at *
      have hc5 := (HW5.out.cell (p := ⟨b, off + k, none⟩) hbl).trans hcell
      have HNM := hide (fun W => num_at z 5 5 W rfl (by omega) (by omega) bd1 bd2)
      have hm5 := num_lt z 5 (by omega)
      go_wp2_with fail
      refine (HNM.out _).mono ?_
      rintro e w6 ⟨rfl, rfl⟩
      have HMN : Hid (Rw.many z = num z 5 + 1) := hide rfl
      generalize num z 5 = nz at *
      clear HNM hcell
      go_upto_block 2 with fail
      go_cut [12] (fun _ wx => ∃ v ps, Bld wr wx BB (BB + 1) a ep v ps ∧ ps.map (·.r) = (List.range (nz + 1)).map (Rw.rc k z))
      case first =>
        go_wp2_with fail
        go_loopw [12] (fun i wi => ∃ (j : Nat) (v : Value) (ps : List PRec), j ≤ nz + 1 ∧ i = .int .i64 j ∧ Bld wr wi BB (BB + 1) a ep v ps ∧ ps.map (·.r) = (List.range j).map (Rw.rc k z)) (fun i _ => nz + 1 - (intOf i).toNat)
        case atStart => exact ⟨0, _, [], Nat.zero_le _, rfl, HB5.out, by simp⟩
        case round =>
          obtain ⟨j, v, ps, hj, rfl, hbld, hps⟩ := hrel
          have HBL := hide hbld
          have HPS := hide hps
          have hpl : ps.length = j := by
            have := congrArg List.length hps
            rwa [List.length_map, List.length_map, List.length_range] at this
          have HPL := hide hpl
          clear hps hpl
          by_cases hlj : j < nz + 1
          · have hci := (hbld.below.cell (p := ⟨b, off + k, none⟩) hbl).trans ((HBK.out.cell (p := ⟨b, off + k, none⟩) HB0L.out).trans HCEL.out)
            have HNV := hide (fun W => num_at (IntKind.i64.wrap (z + j)) 9 9 W rfl (by omega) (by omega) (by rw [IntKind.wrap_i64]; omega) (by rw [IntKind.wrap_i64]; omega))
            have hkv : num (IntKind.i64.wrap (z + j)) 9 = Rw.kv z j := rfl
            rw [hkv, IntWalk.i64_left] at HNV
            have hkl := Rw.kv_lt z j
            have HRC : Hid (Rw.rc k z j = ⟨100 * (k : Int) + j, [UInt8.ofNat (97 + Rw.kv z j)], List.replicate (Rw.kv z j) 0⟩) := hide rfl
            generalize Rw.kv z j = N at *
            obtain ⟨CS, hcs, hmk⟩ := make_bytes N (by omega)
            obtain ⟨Ab, cb, rfl, -, -, -⟩ := hbld.row.val
            have z0 := hbld.c2
            have z1 := hbld.f 2
            have hos := hbld.os
            clear hbld hkv
            go_wp2_with fail
            refine (HNV.out _).mono ?_
            rintro e w9 ⟨rfl, rfl⟩
            clear HNV
            go_upto_region 15 with fail
            obtain ⟨W3, hW3⟩ : ∃ W3, W3 = ((wr.alloc (.cells #[.int .u8 (97 + (N : Int))] 5)).alloc (.cells CS 5)).alloc (.cells #[.int .i64 (100 * (k : Int) + (j : Int)), .slice (some ⟨wr.heap.size, 0, none⟩) 1 1, .slice (some ⟨wr.heap.size + 1, 0, none⟩) N N] 81) := ⟨_, rfl⟩
            obtain ⟨hb3, hz3, ⟨x0, x1, x2⟩, ht1, ht2⟩ := row_new wr N hkl CS hcs (100 * (k : Int) + (j : Int)) (BB + 1) (.slice Ab ps.length cb) hos (fun q hq => (HBL.out.row.own.lt q hq).2) W3 hW3
            rw [← hW3]
            have HB3 := hide (HBL.out.quiet hb3)
            have z0 := HB3.out.c2
            have z1 := HB3.out.f 2
            have HT1 := hide ht1
            have HT2 := hide ht2
            have hos3 := HB3.out.os
            obtain ⟨i0, hi, hz, hs1, hby⟩ := info_parts record_info
            clear hW3 hb3 hz3 ht1 ht2 hcs hmk hos
            have HBAL : Hid (Below W3.heap.size W3 (W3.alloc (.cells #[.int .i64 (100 * (k : Int) + (j : Int)), .slice (some ⟨wr.heap.size, 0, none⟩) 1 1, .slice (some ⟨wr.heap.size + 1, 0, none⟩) N N] 81))) := hide (balloc (Below.refl _ _) _)
            have hlr : (List.replicate N (0 : UInt8)).length = N := List.length_replicate
            have HLR := hide hlr
            have HPC : Hid (PRec.cells ⟨⟨100 * (k : Int) + (j : Int), [UInt8.ofNat (97 + N)], List.replicate N 0⟩, some ⟨wr.heap.size, 0, none⟩, 1, some ⟨wr.heap.size + 1, 0, none⟩, N⟩ = [.int .i64 (100 * (k : Int) + (j : Int)), .slice (some ⟨wr.heap.size, 0, none⟩) 1 1, .slice (some ⟨wr.heap.size + 1, 0, none⟩) N N]) := by
              show _ = _
              unfold PRec.cells
              rw [HLR.out]; rfl
            clear hlr
            go_wp2_with (at_builtin; refine wpList_append_own_at (w := W3.alloc _) rfl (.tmp 61) (.tmp 63) 39 rfl (BB + 1) 81 i0 _ 3 56 Tryz.underlying39 hi hz hs1 hby rfl (by omega) (.slice Ab ps.length cb) ps.length (ps.flatMap PRec.cells) rfl (HB3.out.row.own.alloc _) ⟨W3.heap.size, 0, none⟩ 1 1 (PRec.cells ⟨⟨100 * (k : Int) + (j : Int), [UInt8.ofNat (97 + N)], List.replicate N 0⟩, some ⟨wr.heap.size, 0, none⟩, 1, some ⟨wr.heap.size + 1, 0, none⟩, N⟩) rfl rfl (by rw [HPC.out]; exact cells_three _ _ _ _ _) (PRec.cells_one _) (by have := HPL.out; simp only [maxLen]; omega) (by have := HPL.out; omega) (by simp; omega) ?_; intro v5 wd hown5 hg5 hnil5 hat5; obtain ⟨g5, c5, rfl⟩ := row_succ' hown5; have ymid := HB3.out.mid HBAL.out hg5; have y2 := ymid.1; have y3 := ymid.2; have HPUSH := hide (HB3.out.push (q := ⟨⟨100 * (k : Int) + (j : Int), [UInt8.ofNat (97 + N)], List.replicate N 0⟩, some ⟨wr.heap.size, 0, none⟩, 1, some ⟨wr.heap.size + 1, 0, none⟩, N⟩) HT1.out HT2.out HBAL.out hg5 hat5 hown5); clear hown5 hg5 hnil5 hat5 ymid)
            refine ⟨⟨j + 1, _, _, by omega, by go_num, HPUSH.out, ?_⟩, by simp [intOf]; omega⟩
            rw [List.map_append, HPS.out, List.range_succ, List.map_append, List.map_singleton, List.map_singleton, HRC.out]
          · obtain rfl : j = nz + 1 := by omega
            go_wp2_with fail
            go_meet
            exact ⟨_, ps, HBL.out, HPS.out⟩
      case rest =>
        obtain ⟨v, ps, hbld, hps⟩ := hcut
        have HBL := hide hbld
        have HPS := hide hps
        obtain ⟨Ab, cb, rfl, hpc, hpm, -⟩ := hbld.row.val
        have c0 := hbld.c0
        have c1 := hbld.c1
        have c2 := hbld.c2
        have hbw := hbld.below
        have HBW := hide hbw
        have HR6 := hide (HRW.out.below hbw)
        have hep1 : 0 ≤ ep ∧ ep ≤ 1000 := by
          rw [HE1.out]
          omega
        have HNEW := hide (hbld.row.newBat (a : Int) ep (by omega) (by omega))
        have hpl : (ps.map (·.r)).length = ps.length := List.length_map _
        have HPL := hide hpl
        have HBAL : Hid (Below wc.heap.size wc (wc.alloc (.cells #[.int .i64 (a : Int), .int .i64 ep, .slice Ab ps.length cb] 41))) := hide (balloc (Below.refl _ _) _)
        have HZW : Hid (w.heap.size ≤ wc.heap.size) := hide (Nat.le_trans HBK.out.size hbw.size)
        have HPC : Hid (PBat.cells ⟨⟨(a : Int), ep, ps.map (·.r)⟩, Ab, cb⟩ = [.int .i64 (a : Int), .int .i64 ep, .slice Ab ps.length cb]) := by
          show _ = _
          unfold PBat.cells
          rw [HPL.out]
        obtain ⟨i0, hi, hz, hs1, hby⟩ := info_parts batch_info
        clear hbld hps hbw hpl
        go_wp2_with (at_builtin; refine wpList_append_own_at (w := wc.alloc _) rfl (.tmp 69) (.tmp 71) 26 rfl w.heap.size 41 i0 _ 3 40 Tryz.underlying26 hi hz hs1 hby rfl (by omega) (.slice Av qs.length cv) qs.length (qs.flatMap PBat.cells) rfl (HR6.out.own.alloc _) ⟨wc.heap.size, 0, none⟩ 1 1 (PBat.cells ⟨⟨(a : Int), ep, ps.map (·.r)⟩, Ab, cb⟩) rfl rfl (by rw [HPC.out]; exact cells_three _ _ _ _ _) (PBat.cells_one _) (by have := HQL.out; simp only [maxLen]; omega) (by have := HQL.out; omega) (by have := HZW.out; simp; omega) ?_; intro v5 wd hown5 hg5 hnil5 hat5; have HROW5 := hide (HR6.out.app (q := ⟨⟨(a : Int), ep, ps.map (·.r)⟩, Ab, cb⟩) (by have := HBK.out.size; have := HBB.out; omega) HNEW.out (Above.refl _ _) (fun q hq => by have := (HRW.out.own.lt q hq).2; have := HBB.out; omega) HBAL.out hg5 hat5 hown5); have HB5 := hide ((HBK.out.trans (HBW.out.mono HBK.out.size)).trans ((HBAL.out.mono HZW.out).trans ((Below.refl w.heap.size _).grown hg5 (by have := HZW.out; simp; omega) (fun q hq => (HRW.out.own.lt q hq).1)))); clear hown5 hg5 hnil5 hat5)
        refine ⟨⟨k + 1, a + (nz + 1), _, by omega, by go_num, by go_num, by omega, HROW5.out, by rw [List.length_append, HQL.out]; rfl, HB5.out, ?_⟩, by simp [intOf]; omega⟩
        rw [← HGO.out, HDR.out, List.map_append, List.append_assoc, Rw.go]
        have e1 : Rw.bt (a : Int) k 0 z = ⟨(a : Int), ep, ps.map (·.r)⟩ := by
          unfold Rw.bt
          rw [HPS.out, HMN.out, ← HEP.out]
        have e2 : ((a : Int) + (Rw.many z : Int)) = ((a + (nz + 1) : Nat) : Int) := by
          rw [HMN.out]; omega
        rw [e1, e2]
        rfl
    · obtain rfl : k = zs.length := by omega
      obtain ⟨Ax, cx, hv, hc1, hc2, hbx⟩ := HRW.out.val
      injection hv with hv1 hv2 hv3
      subst hv1 hv3
      have HBX := hide hbx
      clear hbx
      have HEN : Hid (qs.map (·.b) = Rw.go base 0 0 zs) := by
        show _ = _
        rw [← HGO.out, List.drop_length]
        simp [Rw.go]
      go_wp2_with fail
      go_ret
      refine ⟨⟨Av, cv, by rw [HQL.out]; rfl, by rw [← HQL.out]; exact hc1, hc2, by rw [← HEN.out]; exact HBX.out, qs, by rw [← HQL.out]; exact HRW.out, HEN.out⟩, HBK.out⟩
end Go.Proofs.YtfdppggdgdnnaaaGreatDoor
