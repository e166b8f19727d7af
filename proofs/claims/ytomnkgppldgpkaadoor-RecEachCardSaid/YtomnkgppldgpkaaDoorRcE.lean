/-
  The walk through rec's Each: batches with records and bytes of the call's own, kept in a cell that the closure holds.
-/
import Derived.Test.YtomnkgppldgpkaaDoorRcD
import Derived.Test.YtomnkgppldgpkaaDoorRcA
namespace Go.Proofs.YtomnkgppldgpkaaDoor
open Go.RowKit

instance : Inhabited Rc.Bat := ⟨⟨0, 0, []⟩⟩
theorem make_bats (N : Nat) (hN : N ≤ 1000) : ∃ CS : Array Value, (∀ k j, k < N → j < 3 → CS[k * 3 + j]? = (#[.int .i64 0, .int .i64 0, .slice none 0 0] : Array Value)[j]?) ∧
    ∀ W, (Instr.makeSlice 33 (.int .i64 (N : Int)) (.int .i64 (N : Int))).run Tryd.prog W = .ok (.slice (some ⟨W.heap.size, 0, none⟩) N N) (W.alloc (.cells CS 26)) := by
  have hbi : (Tryd.prog.info? 26).map (fun i => (i.zero, i.size, i.bytes)) = some (some (.agg #[.int .i64 0, .int .i64 0, .slice none 0 0]), 3, 40) := batch_info
  obtain ⟨i, hi, hz, hs1, hby⟩ := info_parts hbi
  refine ⟨madeCells #[.int .i64 0, .int .i64 0, .slice none 0 0] (N * 3), fun k j hk hj => ?_, fun W => ?_⟩
  · rw [madeCells_get _ _ _ (by omega)]
    have e : (k * 3 + j) % (#[.int .i64 0, .int .i64 0, .slice none 0 0] : Array Value).size = j := by
      show (k * 3 + j) % 3 = j
      omega
    rw [e]
    match j, hj with
    | 0, _ => rfl
    | 1, _ => rfl
    | 2, _ => rfl
  · have h := run_make (P := Tryd.prog) W 33 26 i _ Tryd.underlying33 hi hz .i64 .i64 (N : Int) (N : Int) (by omega) (by omega) (by rw [hby]; omega) (by omega)
    rw [h, hs1]
    rfl

/-- What the loop of Each has laid: k batches, the rest empty. -/
structure ClB (w wr : World) (g : Nat) (bs : List Rc.Bat) (k : Nat) : Prop where
  below : Below w.heap.size w wr
  lt : g < wr.heap.size
  fz : ∀ j, wr.frozen? ⟨g, j, none⟩ = false
  done : ∀ j, j < k → ∃ A c, wr.cell? ⟨g, j * 3, none⟩ = some (.int .i64 (bs.getD j default).base) ∧ wr.cell? ⟨g, j * 3 + 1, none⟩ = some (.int .i64 (bs.getD j default).epoch) ∧ wr.cell? ⟨g, j * 3 + 2, none⟩ = some (.slice A (bs.getD j default).recs.length c) ∧ FarBat wr (g + 1) A c (bs.getD j default)
  todo : ∀ j, k ≤ j → j < bs.length → (wr.cell? ⟨g, j * 3, none⟩ = some (.int .i64 0) ∧ wr.cell? ⟨g, j * 3 + 1, none⟩ = some (.int .i64 0) ∧ wr.cell? ⟨g, j * 3 + 2, none⟩ = some (.slice none 0 0))
theorem ClB.next {w wr w' : World} {g : Nat} {bs : List Rc.Bat} {k : Nat} (h : ClB w wr g bs k) (hk : k < bs.length) (hw : w.heap.size ≤ g) (hb : Below wr.heap.size wr w') {A : Option Addr} {c : Nat}
    (ha : FarBat w' (g + 1) A c (bs.getD k default)) :
    ClB w (set3 w' g (k * 3) (.int .i64 (bs.getD k default).base) (.int .i64 (bs.getD k default).epoch) (.slice A (bs.getD k default).recs.length c)) g bs (k + 1) := by
  have hsz := hb.size
  have hlt := h.lt
  have hle := h.below.size
  obtain ⟨t0, t1, t2⟩ := h.todo k (Nat.le_refl _) hk
  have u0 := (hb.cell (p := ⟨g, k * 3, none⟩) hlt).trans t0
  have u1 := (hb.cell (p := ⟨g, k * 3 + 1, none⟩) hlt).trans t1
  have u2 := (hb.cell (p := ⟨g, k * 3 + 2, none⟩) hlt).trans t2
  generalize hx0 : Value.int .i64 (bs.getD k default).base = x0
  generalize hx1 : Value.int .i64 (bs.getD k default).epoch = x1
  generalize hx2 : Value.slice A (bs.getD k default).recs.length c = x2
  obtain ⟨s0, s1, s2⟩ := set3_cell w' g (k * 3) x0 x1 x2 (by rw [u0]; rfl) (by rw [u1]; rfl) (by rw [u2]; rfl)
  have hoth : ∀ j i, j ≠ k → i ≤ 2 → (set3 w' g (k * 3) x0 x1 x2).cell? ⟨g, j * 3 + i, none⟩ = wr.cell? ⟨g, j * 3 + i, none⟩ := fun j i hj hi => by
    unfold set3
    rw [World.cell?_setCell_other _ _ _ _ (by intro e; injection e with _ e; omega), World.cell?_setCell_other _ _ _ _ (by intro e; injection e with _ e; omega), World.cell?_setCell_other _ _ _ _ (by intro e; injection e with _ e; omega)]
    exact hb.cell (p := ⟨g, j * 3 + i, none⟩) hlt
  refine ⟨((((h.below.trans (hb.mono hle)).setCell (p := ⟨g, k * 3, none⟩) hw _).setCell (p := ⟨g, k * 3 + 1, none⟩) hw _).setCell (p := ⟨g, k * 3 + 2, none⟩) hw _), by simp [set3]; omega, fun j => ?_, fun j hj => ?_, fun j hj hjl => ?_⟩
  · simp only [set3, World.frozen?_setCell]
    exact (hb.frozen (p := ⟨g, j, none⟩) hlt).trans (h.fz j)
  · by_cases hjk : j < k
    · obtain ⟨A1, c1, d0, d1, d2, hf⟩ := h.done j hjk
      exact ⟨A1, c1, (hoth j 0 (by omega) (by omega)).trans d0, (hoth j 1 (by omega) (by omega)).trans d1, (hoth j 2 (by omega) (by omega)).trans d2, (((hf.below hb (Nat.le_refl _)).set g _ x0 (by omega)).set g _ x1 (by omega)).set g _ x2 (by omega)⟩
    · obtain rfl : j = k := by omega
      exact ⟨A, c, by rw [hx0]; exact s0, by rw [hx1]; exact s1, by rw [hx2]; exact s2, ((ha.set g _ x0 (by omega)).set g _ x1 (by omega)).set g _ x2 (by omega)⟩
  · obtain ⟨t0, t1, t2⟩ := h.todo j (by omega) hjl
    exact ⟨(hoth j 0 (by omega) (by omega)).trans t0, (hoth j 1 (by omega) (by omega)).trans t1, (hoth j 2 (by omega) (by omega)).trans t2⟩
/-- Batches at block g, all of their memory from block lo on. -/
structure FarBats (w : World) (lo g : Nat) (bs : List Rc.Bat) : Prop where
  at_ : lo ≤ g
  lt : g < w.heap.size
  el : ∀ k, k < bs.length → ∃ A c, w.cell? ⟨g, k * 3, none⟩ = some (.int .i64 (bs.getD k default).base) ∧ w.cell? ⟨g, k * 3 + 1, none⟩ = some (.int .i64 (bs.getD k default).epoch) ∧ w.cell? ⟨g, k * 3 + 2, none⟩ = some (.slice A (bs.getD k default).recs.length c) ∧ FarRecs w lo A (bs.getD k default).recs
theorem ClB.far {w wr : World} {bs : List Rc.Bat} {g : Nat} (h : ClB w wr g bs bs.length) : FarBats wr g g bs :=
  ⟨Nat.le_refl _, h.lt, fun k hk => by
    obtain ⟨A, c, d0, d1, d2, hf⟩ := h.done k hk
    exact ⟨A, c, d0, d1, d2, hf.recs.mono (by omega)⟩⟩
theorem ClB.bats {w wr : World} {g : Nat} {bs : List Rc.Bat} (h : ClB w wr g bs bs.length) : Bats wr (some ⟨g, 0, none⟩) bs := by
  refine .inr ⟨g, 0, rfl, h.lt, fun k hk => ?_⟩
  obtain ⟨A, c, d0, d1, d2, hf⟩ := h.done k hk
  have e : bs.getD k default = bs[k] := by simp [List.getD, hk]
  rw [e] at d0 d1 d2 hf
  rw [Nat.zero_add]
  exact ⟨A, c, d0, d1, d2, hf.bat⟩

set_option maxRecDepth 100000 in
set_option maxHeartbeats 1000000 in
theorem each_any (bs : List Rc.Bat) (A : Option Addr) (cap n : Nat) (w : World) (hn : bs.length = n) (hl : n ≤ 1000) (hib : Bats w A bs) (hsm : ∀ b ∈ bs, b.recs.length ≤ 1000 ∧ ∀ r ∈ b.recs, r.k.length ≤ 1000000 ∧ r.v.length ≤ 1000000) :
    Calls Tryd.prog 14 #[.slice A n cap] w fun e w' => e = .returned (.func (.func 32) #[] #[.pointer (some ⟨w.heap.size + 1, 0, none⟩)]) ∧ w'.cell? ⟨w.heap.size + 1, 0, none⟩ = some (.slice (some ⟨w.heap.size, 0, none⟩) n n) ∧ w.heap.size + 2 ≤ w'.heap.size ∧ FarBats w' w.heap.size w.heap.size bs ∧ Below w.heap.size w w' := by
  obtain ⟨CS, hcs, hmk⟩ := make_bats n hl
  obtain ⟨W1, hW1⟩ : ∃ W1, W1 = w.alloc (.cells CS 26) := ⟨_, rfl⟩
  obtain ⟨W2, hW2⟩ : ∃ W2, W2 = W1.alloc (.cells #[.slice (some ⟨w.heap.size, 0, none⟩) n n] 33) := ⟨_, rfl⟩
  have z1 : W1.heap.size = w.heap.size + 1 := by rw [hW1]; simp
  have z2 : W2.heap.size = w.heap.size + 2 := by rw [hW2]; simp [z1]
  have b1 : Below w.heap.size w W1 := hW1 ▸ balloc (Below.refl _ _) _
  have b2 : Below W1.heap.size W1 W2 := hW2 ▸ balloc (Below.refl _ _) _
  have b12 := b1.trans (b2.mono b1.size)
  have hg : ∀ k j, k < n → j < 3 → W2.cell? ⟨w.heap.size, k * 3 + j, none⟩ = (#[.int .i64 0, .int .i64 0, .slice none 0 0] : Array Value)[j]? := fun k j hk hj => by
    rw [← hcs k j hk hj, b2.cell (p := ⟨w.heap.size, k * 3 + j, none⟩) (by show w.heap.size < _; omega), hW1, World.cell?_alloc_mark]
  have hfz : ∀ j, W2.frozen? ⟨w.heap.size, j, none⟩ = false := fun j => by rw [b2.frozen (p := ⟨w.heap.size, j, none⟩) (by show w.heap.size < _; omega), hW1]; simp [go_sem]
  have HCL : Hid (ClB w W2 w.heap.size bs 0) := hide ⟨b12, by omega, hfz, fun j hj => by omega, fun j _ hj => ⟨hg j 0 (by omega) (by omega), hg j 1 (by omega) (by omega), hg j 2 (by omega) (by omega)⟩⟩
  have k2 : W2.cell? ⟨w.heap.size + 1, 0, none⟩ = some (.slice (some ⟨w.heap.size, 0, none⟩) n n) := by
    rw [hW2, ← z1, World.cell?_alloc_mark]; rfl
  have k2f : W2.frozen? ⟨w.heap.size + 1, 0, none⟩ = false := by
    rw [hW2, ← z1]; simp [go_sem]
  have HW1 := hide hW1
  have HW2 := hide hW2
  have HIB := hide hib
  have HN := hide hn
  have HSM := hide hsm
  have HK2 := hide k2
  have HK2F := hide k2f
  have hmk2 := hmk w
  clear hW1 hW2 hcs hmk b1 b2 b12 hg hfz hib hn hsm k2 k2f
  go_enter Tryd.func14, Tryd.ntmps14
  go_upto_block 0 with fail
  rw [← HW1.out, ← HW2.out]
  clear HW1 HW2 hmk2
  go_wp2_with fail
  go_loopw [11] (fun i wr => ∃ k : Nat, k ≤ n ∧ i = .int .i64 k ∧ ClB w wr w.heap.size bs k ∧ (wr.cell? ⟨w.heap.size + 1, 0, none⟩ = some (.slice (some ⟨w.heap.size, 0, none⟩) n n) ∧ wr.frozen? ⟨w.heap.size + 1, 0, none⟩ = false) ∧ w.heap.size + 2 ≤ wr.heap.size) (fun i _ => n - (intOf i).toNat)
  case atStart => exact ⟨0, Nat.zero_le _, rfl, HCL.out, ⟨HK2.out, HK2F.out⟩, by omega⟩
  case round =>
    obtain ⟨k, hk, rfl, hcl, ⟨hkc, hkf⟩, hsz⟩ := hrel
    clear HCL HK2 HK2F
    by_cases hlt : k < n
    · have hkl : k < bs.length := by have := HN.out; omega
      rcases HIB.out with e0 | ⟨bb, off, rfl, hb0, hrc⟩
      · rw [e0] at hkl; simp at hkl
      obtain ⟨Ab, cb, d0, d1, d2, hib⟩ := (hrc k hkl).ex
      have e0 := (hcl.below.cell (p := ⟨bb, off + k * 3, none⟩) hb0).trans d0
      have e1 := (hcl.below.cell (p := ⟨bb, off + k * 3 + 1, none⟩) hb0).trans d1
      have e2 := (hcl.below.cell (p := ⟨bb, off + k * 3 + 2, none⟩) hb0).trans d2
      have hbw : bb < wr.heap.size := Nat.lt_of_lt_of_le hb0 hcl.below.size
      have hs2 := HSM.out _ (List.getElem_mem hkl)
      have HIB2 := hide (hib.below hcl.below (Nat.le_refl _))
      have HNX := hide (fun (w7 : World) (A7 : Option Addr) (c1 : Nat) (hb : Below wr.heap.size wr w7) => hcl.next (A := A7) (c := c1) hkl (Nat.le_refl _) hb)
      have hfz := hcl.fz
      obtain ⟨t0, t1, t2⟩ := hcl.todo k (Nat.le_refl _) hkl
      rw [show bs.getD k default = bs[k] from by simp [List.getD, hkl]] at HNX
      clear hcl hrc d0 d1 d2 hib
      generalize bs[k] = b at *
      go_upto_region 5 with fail
      obtain ⟨m0, m1, m2⟩ := made3 wr (.int .i64 b.base) (.int .i64 b.epoch) (.slice Ab b.recs.length cb) 26
      have hba : Below wr.heap.size wr (wr.alloc (.cells #[.int .i64 b.base, .int .i64 b.epoch, .slice Ab b.recs.length cb] 26)) := balloc (Below.refl _ _) _
      have hkc1 := (hba.cell (p := ⟨w.heap.size + 1, 0, none⟩) (by show w.heap.size + 1 < _; omega)).trans hkc
      have hwa : (wr.alloc (.cells #[.int .i64 b.base, .int .i64 b.epoch, .slice Ab b.recs.length cb] 26)).heap.size = wr.heap.size + 1 := by simp
      generalize wr.alloc (.cells #[.int .i64 b.base, .int .i64 b.epoch, .slice Ab b.recs.length cb] 26) = wa at *
      have HCR := hide (fun W (hw : Below wa.heap.size wa W) => cloneBatch_any b Ab cb b.recs.length W rfl hs2.1 ((HIB2.out.below hba (Nat.le_refl _)).below hw (Nat.le_refl _)) hs2.2)
      have HBA := hide hba
      have hfst : Below wa.heap.size wa wa.drew := (Below.refl _ _).drew
      have hgl : w.heap.size < wr.heap.size := by omega
      have haz := HBA.out.size
      have f0 := (HBA.out.cell (p := ⟨w.heap.size, k * 3, none⟩) hgl).trans t0
      have f1 := (HBA.out.cell (p := ⟨w.heap.size, k * 3 + 1, none⟩) hgl).trans t1
      have f2 := (HBA.out.cell (p := ⟨w.heap.size, k * 3 + 2, none⟩) hgl).trans t2
      have g0 := (HBA.out.frozen (p := ⟨w.heap.size, k * 3, none⟩) hgl).trans (hfz _)
      have g1 := (HBA.out.frozen (p := ⟨w.heap.size, k * 3 + 1, none⟩) hgl).trans (hfz _)
      have g2 := (HBA.out.frozen (p := ⟨w.heap.size, k * 3 + 2, none⟩) hgl).trans (hfz _)
      clear hba HIB2 e0 e1 e2
      have hne1 : ¬ (w.heap.size = wr.heap.size) := by omega
      have hne2 : ¬ (wr.heap.size = w.heap.size) := by omega
      go_region_held3 (fun w' => w'.cell? ⟨w.heap.size + 1, 0, none⟩ = some (.slice (some ⟨w.heap.size, 0, none⟩) n n) ∧ w'.cell? ⟨wr.heap.size, 0, none⟩ = some (.int .i64 b.base) ∧ w'.cell? ⟨wr.heap.size, 1, none⟩ = some (.int .i64 b.epoch) ∧ w'.cell? ⟨wr.heap.size, 2, none⟩ = some (.slice Ab b.recs.length cb)) (go_keep)
        (first
          | (go_at_call 31; (with_reducible refine (HCR.out _ hfst).mono ?_); rintro e w7 ⟨A7, c1, rfl, hf7, hb7⟩; have hkk7 : w7.cell? ⟨w.heap.size + 1, 0, none⟩ = some (.slice (some ⟨w.heap.size, 0, none⟩) n n) ∧ w7.cell? ⟨wr.heap.size, 0, none⟩ = some (.int .i64 b.base) ∧ w7.cell? ⟨wr.heap.size, 1, none⟩ = some (.int .i64 b.epoch) ∧ w7.cell? ⟨wr.heap.size, 2, none⟩ = some (.slice Ab b.recs.length cb) := ⟨(hb7.cell (p := ⟨w.heap.size + 1, 0, none⟩) (by show w.heap.size + 1 < wa.heap.size; omega)).trans hkc1, (hb7.cell (p := ⟨wr.heap.size, 0, none⟩) (by show wr.heap.size < wa.heap.size; omega)).trans m0, (hb7.cell (p := ⟨wr.heap.size, 1, none⟩) (by show wr.heap.size < wa.heap.size; omega)).trans m1, (hb7.cell (p := ⟨wr.heap.size, 2, none⟩) (by show wr.heap.size < wa.heap.size; omega)).trans m2⟩; have u0 := (hb7.cell (p := ⟨w.heap.size, k * 3, none⟩) (by show w.heap.size < wa.heap.size; omega)).trans f0; have u1 := (hb7.cell (p := ⟨w.heap.size, k * 3 + 1, none⟩) (by show w.heap.size < wa.heap.size; omega)).trans f1; have u2 := (hb7.cell (p := ⟨w.heap.size, k * 3 + 2, none⟩) (by show w.heap.size < wa.heap.size; omega)).trans f2; have z0 := (hb7.frozen (p := ⟨w.heap.size, k * 3, none⟩) (by show w.heap.size < wa.heap.size; omega)).trans g0; have z1 := (hb7.frozen (p := ⟨w.heap.size, k * 3 + 1, none⟩) (by show w.heap.size < wa.heap.size; omega)).trans g1; have z2 := (hb7.frozen (p := ⟨w.heap.size, k * 3 + 2, none⟩) (by show w.heap.size < wa.heap.size; omega)).trans g2)
          | fail)
      have hbz := HBA.out.size
      have hb := (HBA.out.trans (hfst.mono HBA.out.size)).trans (hb7.mono HBA.out.size)
      have HCN := hide (HNX.out w7 A7 c1 hb (hf7.mono (by show w.heap.size + 1 ≤ wa.heap.size; omega)))
      have hkc7 := (hb.cell (p := ⟨w.heap.size + 1, 0, none⟩) (by show w.heap.size + 1 < _; omega)).trans hkc
      have hkf7 := (hb.frozen (p := ⟨w.heap.size + 1, 0, none⟩) (by show w.heap.size + 1 < _; omega)).trans hkf
      have HKC : Hid ((set3 w7 w.heap.size (k * 3) (.int .i64 b.base) (.int .i64 b.epoch) (.slice A7 b.recs.length c1)).cell? ⟨w.heap.size + 1, 0, none⟩ = some (.slice (some ⟨w.heap.size, 0, none⟩) n n)) := hide (by
        unfold set3
        rw [World.cell?_setCell_other _ _ _ _ (by intro e; injection e with e _; omega), World.cell?_setCell_other _ _ _ _ (by intro e; injection e with e _; omega), World.cell?_setCell_other _ _ _ _ (by intro e; injection e with e _; omega)]
        exact hkc7)
      have HKF := hide hkf7
      have hzs := hb.size
      clear hb7 hb t0 t1 t2 hfz m0 m1 m2 HNX hf7 hkc hkf hkf7 hkc1 HBA HCR hkc7 hkk7 u0 u1 u2 z0 z1 z2 f0 f1 f2 g0 g1 g2 hfst
      go_wp2_with fail
      go_round
      case rel => exact ⟨k + 1, by omega, by go_num, HCN.out, ⟨HKC.out, by simp only [World.frozen?_setCell]; exact HKF.out⟩, by simp; omega⟩
      case measure => simp [intOf]; omega
    · obtain rfl : k = n := by omega
      have hbt : FarBats wr w.heap.size w.heap.size bs := by
        have e := HN.out
        subst e
        exact hcl.far
      have hbl := hcl.below
      clear hcl
      go_wp2_with fail
      go_ret
      exact ⟨rfl, hkc, hsz, hbt, hbl⟩
end Go.Proofs.YtomnkgppldgpkaaDoor
