/-
  Package seg: Synced.
-/
import Derived.Test.YtfdppggdgdnnaaaGreatDoorZ19
import Derived.Test.YtfdppggdgdnnaaaGreatDoorZ32
namespace Go.Proofs.YtfdppggdgdnnaaaGreatDoor
open Go.RowKit Go.Shelf Go.Sort

set_option maxRecDepth 100000 in
theorem synced1_any (B : Nat) (n a b c d : Int) (w : World) (cB : w.cell? ⟨B, 0, none⟩ = some (.int .i64 n)) :
    Calls Tryz.prog 80 #[.agg #[.int .i64 a, .int .i64 b, .int .i64 c, .int .i64 d], .pointer (some ⟨B, 0, none⟩)] w fun e w' => e = .returned (.bool (decide (n < b))) ∧ w' = w.alloc (.cells #[.int .i64 a, .int .i64 b, .int .i64 c, .int .i64 d] 106) := by
  have hB : B < w.heap.size := World.block_lt_of_cell? _ _ cB
  have c2 : (w.alloc (.cells #[.int .i64 a, .int .i64 b, .int .i64 c, .int .i64 d] 106)).cell? ⟨B, 0, none⟩ = some (.int .i64 n) := ((balloc (Below.refl w.heap.size w) _).cell (p := ⟨B, 0, none⟩) hB).trans cB
  go_enter Tryz.func80, Tryz.ntmps80
  go_wp2_with fail
  go_ret
  exact ⟨rfl, rfl⟩

/-- What Synced goes by: what the disk says, or, without power, what was synced. -/
def sgSyncedN (d : Dk.St) (s : Sg.St) : Int := if (d.find s.file).1 = none then d.syncedOf s.file else s.synced
/-- What Synced answers. -/
def sgSynced (d : Dk.St) (s : Sg.St) : Int := (Sg.ed s.edges (Sg.cnt s.edges (fun e => decide (sgSyncedN d s < e.pos)) - 1)).off
/-- A new box of a number. -/
def heldNum (lo : Nat) (z : Int) : Held (fun a b : World => Below a.heap.size a b) :=
  ⟨fun v w => ∃ B, lo ≤ B ∧ v = .pointer (some ⟨B, 0, none⟩) ∧ w.heap[B]? = some (.cells #[.int .i64 z] 3 (0, 0)),
   fun _ _ _ ⟨B, h1, h2, h3⟩ hg => ⟨B, h1, h2, (hg.block B (Array.getElem?_eq_some_iff.1 h3).1).trans h3⟩⟩

set_option maxRecDepth 100000 in
set_option maxHeartbeats 2000000 in
theorem sgSynced_any (w0 w : World) (S T : Nat → Prop) (n Bd X : Nat) (d : Dk.St) (s : Sg.St) (p : Nat → Addr) (h : SgW w0 S T n Bd d X s w) (hs : SentsG w0 p)
    (hmono : ∀ a b, a ≤ b → b < s.edges.length → (Sg.ed s.edges a).pos ≤ (Sg.ed s.edges b).pos) (hc : 1 ≤ Sg.cnt s.edges (fun e => decide (sgSyncedN d s < e.pos))) :
    Calls Tryz.prog 37 #[.pointer (some ⟨X, 0, none⟩)] w fun e w' => e = .returned (.int .i64 (sgSynced d s)) ∧ Below w.heap.size w w' := by
  obtain ⟨v, hl⟩ := h.seg
  obtain ⟨A, c, rfl, he, c0, c1, -, c3, c4⟩ := hl.cells
  have HS := hide (fun (W : World) (hw : Below w.heap.size w W) => (h.disk.grow hw).synced p hs.d s.file h.nm)
  have HU := hide (fun (W : World) (hw : Below w.heap.size w W) (B : Nat) (z : Int) (hcz : W.cell? ⟨B, 0, none⟩ = some (.int .i64 z)) => until_any X Bd 80 #[.pointer (some ⟨B, 0, none⟩)] (fun e => decide (z < e.pos)) s T W (h.seg.below hw) h.ok (enters_of Tryz.func80 (by kernel_rfl) rfl)
    (fun W2 hw2 e _ => (synced1_any B z e.off e.pos e.ep e.time W2 ((hw2.cell (p := ⟨B, 0, none⟩) (World.block_lt_of_cell? _ _ hcz)).trans hcz)).mono fun r w' ⟨h1, h2⟩ => ⟨h1, 0, #[.cells #[.int .i64 e.off, .int .i64 e.pos, .int .i64 e.ep, .int .i64 e.time] 106], by rw [h2]; rfl⟩)
    (fun a b hab hb ha => decide_eq_true (by have := of_decide_eq_true ha; have := hmono a b hab hb; omega)))
  have HE := hide he
  have hX := hl.lt
  have HL := hide hl
  unfold sgSynced
  obtain ⟨r, hr⟩ : ∃ r, r = (d.find s.file).1 := ⟨_, rfl⟩
  obtain ⟨ny, hny⟩ : ∃ ny, ny = d.syncedOf s.file := ⟨_, rfl⟩
  have hN : sgSyncedN d s = if r = none then ny else s.synced := by rw [hr, hny]; rfl
  rw [← hr, ← hny] at HS
  rw [hN] at hc ⊢
  clear hr hny hN h hl hs he hmono
  generalize encStr s.file = fv at *
  obtain ⟨er, her⟩ : ∃ er, er = errR p r := ⟨_, rfl⟩
  rw [← her] at HS
  have HER := hide her
  clear her
  obtain ⟨z, hz⟩ : ∃ z, z = if r = none then ny else s.synced := ⟨_, rfl⟩
  rw [← hz] at hc ⊢
  obtain ⟨k, hk⟩ : ∃ k, k = Sg.cnt s.edges (fun e => decide (z < e.pos)) - 1 := ⟨_, rfl⟩
  rw [← hk]
  have hcl := cnt_le s.edges (fun e => decide (z < e.pos))
  obtain ⟨m, hm⟩ : ∃ m, m = s.edges.length := ⟨_, rfl⟩
  obtain ⟨g, rfl, hg, e0, -, -, -⟩ := HE.out.at_ k (by omega)
  obtain ⟨o, ho⟩ : ∃ o, o = (Sg.ed s.edges k).off := ⟨_, rfl⟩
  rw [← ho] at e0 ⊢
  rw [← hm] at c3
  have hkm : k < m := by omega
  have hle := HE.out.le
  have hmx := HE.out.mx
  rw [← hm] at hle
  have HU2 := hide (fun (W : World) (hw : Below w.heap.size w W) (B : Nat) (hcz : W.cell? ⟨B, 0, none⟩ = some (.int .i64 z)) => HU.out W hw B z hcz)
  have hcw : (Sg.cnt s.edges (fun e => decide (z < e.pos)) : Int) - 1 = (k : Int) := by omega
  rw [hcw] at HU2
  clear HU hcw hc hcl hk ho hm HE HL
  go_enter Tryz.func37, Tryz.ntmps37
  go_upto_region 1 with fail
  refine wp_region_V (G0 := fun a b : World => Below a.heap.size a b) (G1 := fun a b : World => Below a.heap.size a b) (J := fun W => Below w.heap.size w W) ⟨fun w => Below.refl _ w, fun h k => h.trans (k.mono h.size)⟩ (fun _ _ h hb => h.trans (hb.mono h.size)) 13 [6, 7, 8, 9, 10, 11, 12, 13, 14, 5, 15, 16, 3, 9999, 4] [6, 7, 8, 9, 10, 11, 12, 13, 14, 5, 15, 16, 3, 4] [0, 1, 2, 3, 4, 5, 6, 7, 8, 9, 10, 12] []
    (fun d => match d with | 6 => .is (.pointer (some ⟨X, 0, none⟩)) | 7 => .is (.pointer (some ⟨X, 0, none⟩)) | 8 => .is (.pointer (some ⟨X, 0, none⟩)) | 9 => .is (.pointer (some ⟨Bd, 0, none⟩)) | 10 => .is (.pointer (some ⟨X, 0, none⟩)) | 11 => .is (.pointer (some ⟨X, 0, none⟩)) | 12 => .is (.pointer (some ⟨X, 1, none⟩)) | 13 => .is fv | 14 => .is (.tuple #[.int .i64 ny, er]) | 5 => .is (.tuple #[.int .i64 ny, er]) | 15 => .is (.int .i64 ny) | 16 => .is er | 3 => heldNum w.heap.size 0 | 4 => .is er | _ => .any)
    (fun d => match d with | 3 => heldNum w.heap.size ny | 5 => .is (.tuple #[.int .i64 ny, er]) | 16 => .is er | 4 => .is er | _ => .any) (by kernel_rfl) (by kernel_rfl) (by kernel_rfl) (.inr (fun _ _ => trivial)) ?_ ?_
  · simp only [StepsV]
    refine ⟨?_, ?_, ?_, ?_, ?_, ?_, ?_, ?_, ?_, ?_, ?_, ?_, ?_, ?_, ?_, trivial⟩
    all_goals first | rw [if_pos (by decide)] | (rw [if_neg (by decide)]; first | rw [if_pos (by decide)] | (rw [if_neg (by decide)]; first | rw [if_pos (by decide)] | (rw [if_neg (by decide)]; refine ⟨?_, ?_⟩)))
    all_goals
      intro ev wb hb hev hd
      have ev0 : ev (.tmp 0) = .pointer (some ⟨X, 0, none⟩) := hev _ (by simp)
      have evf : ∀ f, ev (.func f) = .func (.func f) #[] #[] := fun f => hev _ (by simp)
      have evc : ∀ c, ev (.const c) = c := fun c => hev _ (by simp)
      clear hev
      simp [DepsV, Held.is, Held.any] at hd
      try
        have HBb : Hid (Below w.heap.size w wb) := hide ((Below.refl _ _).drew.trans hb)
        have v0 := (HBb.out.cell (p := ⟨X, 0, none⟩) hX).trans c0
        have v1 := (HBb.out.cell (p := ⟨X, 1, none⟩) hX).trans c1
      try (simp [OpGuardU, undef, OpRuns, execOp, go_sem, Held.is, Held.any, Below.refl, *]; done)
    · simp [OpGuardU, OpRuns, execOp, go_sem, Held.is, *]
      exact (HS.out wb HBb.out).mono fun e w'' ⟨he, q, hq⟩ => ⟨he, by rw [hq]; exact below_drewN (Below.refl _ _) q⟩
    · simp [OpGuardU, OpRuns, execOp, go_sem, *]
      exact ⟨balloc (Below.refl _ _) _, wb.heap.size, HBb.out.size, rfl, heap_alloc_new wb _⟩
    · obtain ⟨⟨B, hB1, e3, hB3⟩, e15, -⟩ := hd
      have z3 : wb.cell? ⟨B, 0, none⟩ = some (.int .i64 0) := box_cell hB3 0
      have f3 : wb.frozen? ⟨B, 0, none⟩ = false := box_free hB3 0
      simp [OpGuardU, undef, OpRuns, execOp, go_sem, e3, e15, z3, f3]
      exact ⟨HBb.out.setCell (p := ⟨B, 0, none⟩) hB1 _, trivial, fun _ => trivial, fun _ => trivial, fun _ => trivial, fun _ => trivial, fun _ => trivial, fun _ => trivial, fun _ => trivial, fun _ => trivial, fun _ => trivial, fun h => h, fun _ => trivial, fun h => h, fun _ => ⟨B, hB1, rfl, heap_setCell_same wb B 0 _ _ _ hB3⟩, fun h => h⟩
  · intro f wd hJ hf
    obtain ⟨B, hB1, e3, hB3⟩ := hf 3 (by simp)
    have e4 : f 4 = er := hf 4 (by simp)
    have HJ := hide (show Below w.heap.size w wd from hJ)
    clear hf hJ
    simp only [puts, Act.put, List.setIfInBounds_toArray, List.set_cons_succ, List.set_cons_zero]
    rw [e3, e4]
    clear e3 e4
    generalize f 5 = z5
    generalize f 6 = z6
    generalize f 7 = z7
    generalize f 8 = z8
    generalize f 9 = z9
    generalize f 10 = z10
    generalize f 11 = z11
    generalize f 12 = z12
    generalize f 13 = z13
    generalize f 14 = z14
    generalize f 15 = z15
    generalize f 16 = z16
    clear f
    cases r with
    | none =>
      simp only [errR, if_true] at *
      have her := HER.out
      obtain rfl := her
      subst hz
      go_upto_region 4 with fail
      obtain ⟨wy, hwy⟩ : ∃ wy, wy = wd := ⟨_, rfl⟩
      have HY : Hid (Below w.heap.size w wy) := hide (hwy ▸ HJ.out)
      have hBy : wy.heap[B]? = some (.cells #[.int .i64 z] 3 (0, 0)) := hwy ▸ hB3
      rw [← hwy]
      clear hwy hB3 HJ
      have HXw : X < wy.heap.size := Nat.lt_of_lt_of_le hX HY.out.size
      have x3 := (HY.out.cell (p := ⟨X, 3, none⟩) hX).trans c3
      have q0 := (HY.out.cell (p := ⟨g, k * 4, none⟩) hg).trans e0
      have hgw : g < wy.heap.size := Nat.lt_of_lt_of_le hg HY.out.size
      refine wp_region_guardU (G := fun a b : World => Below a.heap.size a b) ⟨fun w => Below.refl _ w, fun h k => h.trans (k.mono h.size)⟩ [23, 24, 25, 26, 27, 28, 29, 30, 31, 32, 2] (fun d => match d with | 23 => .is (.pointer (some ⟨X, 0, none⟩)) | 24 => .is (.pointer (some ⟨X, 0, none⟩)) | 25 => .is (.pointer (some ⟨X, 3, none⟩)) | 26 => .is (.slice (some ⟨g, 0, none⟩) m c) | 27 => .is (.pointer (some ⟨X, 0, none⟩)) | 28 => .is (.func (.func 80) #[] #[.pointer (some ⟨B, 0, none⟩)]) | 29 => .is (.int .i64 k) | 30 => .is (.pointer (some ⟨g, k * 4, none⟩)) | 31 => .is (.pointer (some ⟨g, k * 4, none⟩)) | 32 => .is (.int .i64 o) | 2 => .is (.int .i64 o) | _ => .is undef) (by kernel_rfl) (by kernel_rfl) (by kernel_rfl) ?_ ?_
      · simp only [StepsGU]
        refine ⟨?_, ?_, ?_, ?_, ?_, ?_, ?_, ?_, ?_, ?_, ?_, trivial⟩
        all_goals
          intro ev wb hb hev hd
          have ev0 : ev (.tmp 0) = .pointer (some ⟨X, 0, none⟩) := hev _ (by simp)
          have ev3 : ev (.tmp 3) = .pointer (some ⟨B, 0, none⟩) := hev _ (by simp)
          have evf : ∀ f, ev (.func f) = .func (.func f) #[] #[] := fun f => hev _ (by simp)
          have evc : ∀ c, ev (.const c) = c := fun c => hev _ (by simp)
          have HBb := hide (show Below wy.heap.size wy wb from (Below.refl _ _).drew.trans hb)
          have v3 := (HBb.out.cell (p := ⟨X, 3, none⟩) HXw).trans x3
          have v0 := (HBb.out.cell (p := ⟨g, k * 4, none⟩) hgw).trans q0
          clear hev hb
          simp [DepsG, Held.is] at hd
          try (simp [OpGuardU, OpRuns, execOp, go_sem, Held.is, Below.refl, *]; done)
        simp [OpGuardU, OpRuns, execOp, go_sem, Held.is, *]
        exact HU2.out wb (HY.out.trans (HBb.out.mono HY.out.size)) B ((HBb.out.cell (p := ⟨B, 0, none⟩) (Array.getElem?_eq_some_iff.1 hBy).1).trans (box_cell hBy 0))
      · intro f wd hb hf
        have e2 : f 2 = .int .i64 o := hf 2 (by simp)
        have HBd := hide (show Below wy.heap.size wy wd from (Below.refl _ _).drew.trans hb)
        clear hf hb
        simp only [puts, Act.put, List.setIfInBounds_toArray, List.set_cons_succ, List.set_cons_zero]
        rw [e2]
        clear e2
        go_wp2_with fail
        go_ret
        exact ⟨rfl, HY.out.trans (HBd.out.mono HY.out.size)⟩
    | some j =>
      have hnn := neq_nilD (p j)
      have hz2 : z = s.synced := by rw [hz, if_neg (by simp)]
      clear hz
      simp only [errR] at *
      unfold errV at *
      have her := HER.out
      obtain rfl := her
      have x4 := (HJ.out.cell (p := ⟨X, 4, none⟩) hX).trans c4
      rw [← hz2] at x4
      have b0 : wd.cell? ⟨B, 0, none⟩ = some (.int .i64 ny) := box_cell hB3 0
      have f0 : wd.frozen? ⟨B, 0, none⟩ = false := box_free hB3 0
      clear hz2
      go_upto_region 4 with fail
      obtain ⟨wy, hwy⟩ : ∃ wy, wy = wd.setCell ⟨B, 0, none⟩ (.int .i64 z) := ⟨_, rfl⟩
      have HY : Hid (Below w.heap.size w wy) := hide (hwy ▸ HJ.out.setCell (p := ⟨B, 0, none⟩) hB1 _)
      have hBy : wy.heap[B]? = some (.cells #[.int .i64 z] 3 (0, 0)) := hwy ▸ heap_setCell_same wd B 0 _ _ _ hB3
      rw [← hwy]
      clear hwy hB3 HJ x4 b0 f0
      have HXw : X < wy.heap.size := Nat.lt_of_lt_of_le hX HY.out.size
      have x3 := (HY.out.cell (p := ⟨X, 3, none⟩) hX).trans c3
      have q0 := (HY.out.cell (p := ⟨g, k * 4, none⟩) hg).trans e0
      have hgw : g < wy.heap.size := Nat.lt_of_lt_of_le hg HY.out.size
      refine wp_region_guardU (G := fun a b : World => Below a.heap.size a b) ⟨fun w => Below.refl _ w, fun h k => h.trans (k.mono h.size)⟩ [23, 24, 25, 26, 27, 28, 29, 30, 31, 32, 2] (fun d => match d with | 23 => .is (.pointer (some ⟨X, 0, none⟩)) | 24 => .is (.pointer (some ⟨X, 0, none⟩)) | 25 => .is (.pointer (some ⟨X, 3, none⟩)) | 26 => .is (.slice (some ⟨g, 0, none⟩) m c) | 27 => .is (.pointer (some ⟨X, 0, none⟩)) | 28 => .is (.func (.func 80) #[] #[.pointer (some ⟨B, 0, none⟩)]) | 29 => .is (.int .i64 k) | 30 => .is (.pointer (some ⟨g, k * 4, none⟩)) | 31 => .is (.pointer (some ⟨g, k * 4, none⟩)) | 32 => .is (.int .i64 o) | 2 => .is (.int .i64 o) | _ => .is undef) (by kernel_rfl) (by kernel_rfl) (by kernel_rfl) ?_ ?_
      · simp only [StepsGU]
        refine ⟨?_, ?_, ?_, ?_, ?_, ?_, ?_, ?_, ?_, ?_, ?_, trivial⟩
        all_goals
          intro ev wb hb hev hd
          have ev0 : ev (.tmp 0) = .pointer (some ⟨X, 0, none⟩) := hev _ (by simp)
          have ev3 : ev (.tmp 3) = .pointer (some ⟨B, 0, none⟩) := hev _ (by simp)
          have evf : ∀ f, ev (.func f) = .func (.func f) #[] #[] := fun f => hev _ (by simp)
          have evc : ∀ c, ev (.const c) = c := fun c => hev _ (by simp)
          have HBb := hide (show Below wy.heap.size wy wb from (Below.refl _ _).drew.trans hb)
          have v3 := (HBb.out.cell (p := ⟨X, 3, none⟩) HXw).trans x3
          have v0 := (HBb.out.cell (p := ⟨g, k * 4, none⟩) hgw).trans q0
          clear hev hb
          simp [DepsG, Held.is] at hd
          try (simp [OpGuardU, OpRuns, execOp, go_sem, Held.is, Below.refl, *]; done)
        simp [OpGuardU, OpRuns, execOp, go_sem, Held.is, *]
        exact HU2.out wb (HY.out.trans (HBb.out.mono HY.out.size)) B ((HBb.out.cell (p := ⟨B, 0, none⟩) (Array.getElem?_eq_some_iff.1 hBy).1).trans (box_cell hBy 0))
      · intro f wd hb hf
        have e2 : f 2 = .int .i64 o := hf 2 (by simp)
        have HBd := hide (show Below wy.heap.size wy wd from (Below.refl _ _).drew.trans hb)
        clear hf hb
        simp only [puts, Act.put, List.setIfInBounds_toArray, List.set_cons_succ, List.set_cons_zero]
        rw [e2]
        clear e2
        go_wp2_with fail
        go_ret
        exact ⟨rfl, HY.out.trans (HBd.out.mono HY.out.size)⟩
end Go.Proofs.YtfdppggdgdnnaaaGreatDoor
