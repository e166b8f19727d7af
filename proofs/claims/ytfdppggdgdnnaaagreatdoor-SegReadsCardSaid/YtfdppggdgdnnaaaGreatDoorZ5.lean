/-
  A move is done, and kept: the disk's do.
  The calls of a disk that change names: Create, Remove, Rename.
  The call of a disk that gives a file another name: Rename.
  The call of a disk that cuts a file: Cut.
  The moves since the names were synced are made durable: settle.
  The names of a disk are synced; the small calls that only tell: SyncDir, Len, Synced, Used, Calls, Down, Arm.
  A new disk; a pick of a crash.
  The names of a disk copied: maps.Clone.
  The order of two files by their births; what a disk reads out.
  What a disk reads out: bytes.Clone, Read.
-/
import Derived.Test.YtfdppggdgdnnaaaGreatDoorZ4
import Derived.StillTailTactics
import Derived.Laws.Externs
import Derived.MapKept
namespace Go.Proofs.YtfdppggdgdnnaaaGreatDoor
open Go.RowKit Go.Maps

/-- The disk's parts stand again behind a turn of its box, its maps and the row of its moves. -/
theorem DiskL.turn {w w' : World} {Bd nb db : Nat} {sv sv' : Value} {ids : List Nat} {row : Nat → Value} {s s' : Dk.St} {S S' : Nat → Prop} (h : DiskL w Bd nb db sv ids row s S)
    (hbox : w'.heap[Bd]? = some (.cells (diskCells s' nb db sv') 126 (0, 0))) (hn : NamesAt w' nb s'.calls.toNat s'.names) (hd : ∃ m, NamesAt w' db m s'.dur ∧ m + s'.since.length ≤ s'.calls.toNat)
    (hs : w'.ownsRow 0 142 3 sv' s'.since.length (s'.since.flatMap mvCells)) (hf : s'.files = s.files) (hk : ∀ i ∈ ids, w'.heap[i]? = w.heap[i]? ∧ ∀ g, (row i).ownBlock = some g → w'.heap[g]? = w.heap[g]?)
    (hnr : ∀ k i, s'.names k = some i → i ∈ ids ∧ k ≠ [] ∧ k.length ≤ 64) (hdr : ∀ k i, s'.dur k = some i → i ∈ ids ∧ k ≠ [] ∧ k.length ≤ 64)
    (hsr : ∀ m ∈ s'.since, (∀ i, m.file = some i → i ∈ ids) ∧ (m.to ≠ [] → m.file ≠ none) ∧ m.frm.length ≤ 64 ∧ m.to.length ≤ 64) (hc : 0 ≤ s'.calls) (hsv : ∀ g, sv'.ownBlock = some g → S' g) (hS : ∀ k, S k → S' k) : DiskL w' Bd nb db sv' ids row s' S' :=
  { box := hbox, names := hn, dur := hd, ne := h.ne, since := hs, nodup := h.nodup, file := fun i hi => (by rw [hf]; exact (h.file i hi).same (hk i hi).1 (hk i hi).2), apart := h.apart, nref := hnr, dref := hdr, sref := hsr, calls := hc, mBd := hS _ h.mBd, mnb := hS _ h.mnb, mdb := hS _ h.mdb, msv := hsv, mid := fun i hi => hS _ (h.mid i hi), mrow := fun i hi g hg => hS _ (h.mrow i hi g hg) }

set_option maxRecDepth 100000 in
set_option maxHeartbeats 1000000 in
theorem do_any (Bd nb db : Nat) (sv : Value) (ids : List Nat) (row : Nat → Value) (s : Dk.St) (S : Nat → Prop) (m : Dk.Mv) (w : World) (h : DiskL w Bd nb db sv ids row s S) (hc : s.calls ≤ 1099511627776)
    (h1 : m.frm.length ≤ 64) (h2 : m.to.length ≤ 64) (h3 : m.to ≠ [] → m.file ≠ none) (h4 : ∀ i, m.file = some i → i ∈ ids) :
    Calls Tryz.prog 93 #[.pointer (some ⟨Bd, 0, none⟩), mvV m] w fun e w' => e = .returned (.tuple #[]) ∧ (∃ sv', DiskL w' Bd nb db sv' ids row (s.doMove m) (Up S w w')) ∧ Chg S w w' := by
  obtain ⟨W, hW⟩ : ∃ W, W = w.alloc (.cells #[encStr m.frm, encStr m.to, fileV m.file] 142) := ⟨_, rfl⟩
  obtain ⟨m0, m1, m2⟩ := made3D w (encStr m.frm) (encStr m.to) (fileV m.file) 142
  rw [← hW] at m0 m1 m2
  have hwb : Below w.heap.size w W := by rw [hW]; exact balloc (Below.refl _ _) _
  have hd := h.kept (w' := W) fun k _ hk => hwb.block k hk
  have c1 : W.cell? ⟨Bd, 1, none⟩ = some (.map (some nb)) := box_cell hd.box 1
  have HIN := hide (fun W' (hw : NamesAt W' nb s.calls.toNat s.names) => mvIn_any m nb s.calls.toNat s.names W' hw (by omega) h1 h2 h3)
  have HD := hide hd
  have HB := hide hwb
  have HW := hide hW
  have HSV := hide (fun g (hg : sv.ownBlock = some g) => (h.since.lt g hg).2)
  have HNB : Hid (w.heap.size ≠ nb) := hide (fun e => by have := h.names.lt; omega)
  clear h hd hwb hW
  go_enter Tryz.func93, Tryz.ntmps93
  go_upto_region 1 with fail
  rw [← HW.out]
  go_still_tail 5, (by kernel_rfl)
  change wpList _ _ _ _ _ W.drew
  have HNQ : Hid (NamesAt W.drew nb s.calls.toNat s.names) := hide (HD.out.names.same rfl)
  go_wp2_with (first
    | (go_at_call 112; refine (HIN.out _ HNQ.out).mono ?_; rintro e w2 ⟨rfl, hn2, hc2⟩)
    | fail)
  have hk2 : ∀ k, k < W.heap.size → k ≠ nb → w2.heap[k]? = W.heap[k]? := fun k hk hn => hc2.block k hk hn
  have lt : ∀ {w : World} {k : Nat} {o : Obj}, w.heap[k]? = some o → k < w.heap.size := fun h => (Array.getElem?_eq_some_iff.1 h).1
  have hbx2 := (hk2 Bd (lt HD.out.box) (fun e => map_ne HD.out.names HD.out.box e.symm)).trans HD.out.box
  have hzW : W.heap.size = w.heap.size + 1 := by rw [HW.out]; simp
  have hmb : W.heap[w.heap.size]? = some (.cells #[encStr m.frm, encStr m.to, fileV m.file] 142 (0, 0)) := by rw [HW.out]; exact heap_alloc_new _ _
  have hmb2 := (hk2 _ (lt hmb) HNB.out).trans hmb
  have y0 : w2.cell? ⟨w.heap.size, 0, none⟩ = some (encStr m.frm) := box_cell hmb2 0
  have y1 : w2.cell? ⟨w.heap.size, 1, none⟩ = some (encStr m.to) := box_cell hmb2 1
  have y2 : w2.cell? ⟨w.heap.size, 2, none⟩ = some (fileV m.file) := box_cell hmb2 2
  have hrow : w2.ownsRow 0 142 3 sv s.since.length (s.since.flatMap mvCells) := ownsRow_same HD.out.since fun g hg => by
    obtain ⟨cur, h2⟩ := rowBlock_at HD.out.since hg
    exact hk2 g (lt h2) (fun e => map_ne HD.out.names h2 e.symm)
  obtain ⟨Av, cv, rfl⟩ : ∃ Av cv, sv = .slice Av s.since.length cv := by
    rcases hrow.2 with ⟨e, h0⟩ | ⟨g, cap, cur, e, _⟩
    · exact ⟨none, 0, by rw [e, h0]⟩
    · exact ⟨_, _, e⟩
  have b3 : w2.cell? ⟨Bd, 3, none⟩ = some (.slice Av s.since.length cv) := box_cell hbx2 3
  have HK2 := hide hk2
  have HBX2 := hide hbx2
  have HROW := hide hrow
  have HN2 := hide hn2
  have HC2 := hide hc2
  have hnl : s.since.length ≤ s.calls.toNat := by obtain ⟨mm, _, hm⟩ := HD.out.dur; omega
  have hlb : Bd < w2.heap.size := lt HBX2.out
  have hlm : w.heap.size < w2.heap.size := by have h8 := HC2.out.size; have h9 : W.drew.heap.size = W.heap.size := rfl; omega
  have HNR : Hid (∀ k, RowR (.slice Av s.since.length cv) s.since.length k → (Value.slice Av s.since.length cv).ownBlock = some k) := hide (fun k ⟨cap, e, _⟩ => by rw [e]; rfl)
  have nrB : ¬ RowR (.slice Av s.since.length cv) s.since.length Bd := fun hr => by
    obtain ⟨cur, h2⟩ := rowBlock_at HROW.out (HNR.out _ hr)
    exact types_ne HBX2.out h2 (by decide) rfl
  have nrM : ¬ RowR (.slice Av s.since.length cv) s.since.length w.heap.size := fun hr => by have := HSV.out _ (HNR.out _ hr); omega
  have HRT : Hid (∀ k, RowR (.slice Av s.since.length cv) s.since.length k → k < w2.heap.size) := hide (fun k hr => (HROW.out.lt k (HNR.out k hr)).2)
  have hcl : s.since.length ≤ 1099511627776 := by have := HD.out.calls; omega
  refine wp_region_store (G := RowG w2 (.slice Av s.since.length cv) s.since.length m) (rowG_goes _ _ _ _) [10, 11, 12, 13, 14, 15, 16, 17, 18, 19] (fun d => match d with
    | 10 => .is (.pointer (some ⟨Bd, 0, none⟩)) | 11 => .is (.pointer (some ⟨Bd, 0, none⟩)) | 12 => .is (.pointer (some ⟨Bd, 0, none⟩)) | 13 => .is (.pointer (some ⟨Bd, 3, none⟩)) | 14 => .is (.slice Av s.since.length cv) | 15 => .is (mvV m)
    | 16 => ⟨fun v w' => ∃ g, v = .slice (some ⟨g, 0, none⟩) 1 1 ∧ ¬ RowR (.slice Av s.since.length cv) s.since.length g ∧ w'.cell? ⟨g, 0, none⟩ = some (encStr m.frm) ∧ w'.cell? ⟨g, 1, none⟩ = some (encStr m.to) ∧ w'.cell? ⟨g, 2, none⟩ = some (fileV m.file), fun v a b ⟨g, e, hn, k0, k1, k2⟩ hg => ⟨g, e, hn, hg.chg.cell k0 hn, hg.chg.cell k1 hn, hg.chg.cell k2 hn⟩⟩
    | 17 => ⟨fun v w' => RowOk w2 (.slice Av s.since.length cv) s.since.length s.since m v w', fun v a b h hg => h.st hg⟩
    | 18 => .is (.pointer (some ⟨Bd, 0, none⟩)) | 19 => .is (.pointer (some ⟨Bd, 3, none⟩)) | _ => .any) _ (by kernel_rfl) (by kernel_rfl) rfl (by kernel_rfl) ?_ ?_
  · simp only [List.size_toArray, List.length_cons, List.length_nil, List.take_succ_cons, List.take_zero, StepsH, Nat.reduceAdd, Nat.reduceSub]
    refine ⟨?_, ?_, ?_, ?_, ?_, ?_, ?_, ?_, ?_, ?_, trivial⟩
    all_goals
      intro ev w1 hb hev hd
      have ev0 : ev (.tmp 0) = .pointer (some ⟨Bd, 0, none⟩) := hev _ (by simp)
      have ev3 : ev (.tmp 3) = .pointer (some ⟨w.heap.size, 0, none⟩) := hev _ (by simp)
      have z3 := hb.chg.cell (w := w2.drew) (show w2.drew.cell? ⟨Bd, 3, none⟩ = _ from b3) nrB
      have z0 := hb.chg.cell (w := w2.drew) (show w2.drew.cell? ⟨w.heap.size, 0, none⟩ = _ from y0) nrM
      have z1 := hb.chg.cell (w := w2.drew) (show w2.drew.cell? ⟨w.heap.size, 1, none⟩ = _ from y1) nrM
      have z2 := hb.chg.cell (w := w2.drew) (show w2.drew.cell? ⟨w.heap.size, 2, none⟩ = _ from y2) nrM
      have hrf := (rowG_goes w2 (.slice Av s.since.length cv) s.since.length m).refl w1
      have HB1 := hide hb
      clear hev hb
      simp [DepsG, Held.is] at hd
      first
        | (obtain ⟨e14, g, e16, hng, k0, k1, k2⟩ := hd; have hb1 := HB1.out; obtain ⟨v', w', hrun, hG', hok⟩ := run_mvG w2 w1 (.slice Av s.since.length cv) s.since.length s.since m HROW.out ⟨⟨hb1.chg.os, hb1.chg.tape, hb1.chg.output, hb1.chg.size, hb1.chg.block⟩, hb1.row⟩ g hcl k0 k1 k2 124; unfold OpRuns execOp; simp only [resolve, invoke, builtin, Sem.run_bind, Sem.run_pure, Result.andThen_ok, List.map_toArray, List.map_cons, List.map_nil, e14, e16, hrun]; exact ⟨hG', hok⟩)
        | (set_option maxHeartbeats 40000 in simp [OpRuns, execOp, go_sem, Held.is, *]; done)
        | (set_option maxHeartbeats 40000 in simp [OpRuns, execOp, go_sem, *])
    · refine ⟨⟨Chg.of_below (balloc (Below.refl _ _) _), fun k cur0 hr _ => .inl (Below.heap_alloc _ _ k (by have h8 := HRT.out k hr; have h9 := HB1.out.chg.size; have h10 : w2.drew.heap.size = w2.heap.size := rfl; omega))⟩, fun hr => by have h8 := HRT.out _ hr; have h9 := HB1.out.chg.size; have h10 : w2.drew.heap.size = w2.heap.size := rfl; omega⟩
  · intro f w4 hb hf
    have e19 : f 19 = .pointer (some ⟨Bd, 3, none⟩) := hf 19 (by simp)
    have e17 : RowOk w2 (.slice Av s.since.length cv) s.since.length s.since m (f 17) w4 := hf 17 (by simp)
    obtain ⟨hown4, hv4⟩ := e17.owns HROW.out
    obtain ⟨g', c', hfv⟩ := row_succD hown4
    have HOW4 := hide hown4
    have HV4 := hide hv4
    have HB4 := hide hb
    have hbx4 := (hb.chg.block Bd hlb nrB).trans HBX2.out
    have HBX4 := hide hbx4
    have z3 : w4.cell? ⟨Bd, 3, none⟩ = some (.slice Av s.since.length cv) := box_cell hbx4 3
    have z5 : w4.cell? ⟨Bd, 5, none⟩ = some (.int .i64 s.calls) := box_cell hbx4 5
    have u3 := box_free hbx4 3
    have u5 := box_free hbx4 5
    have hcw : IntKind.i64.wrap (s.calls + 1) = s.calls + 1 := IntWalk.i64_in _ (by have := HD.out.calls; omega)
    rw [hfv] at HOW4 HV4
    clear e17 hown4 hv4 hb hf hbx4
    simp only [puts, Act.put, List.setIfInBounds_toArray, List.set_cons_succ, List.set_cons_zero]
    rw [e19, hfv]
    clear e19 hfv
    generalize f 10 = f10
    generalize f 11 = f11
    generalize f 12 = f12
    generalize f 13 = f13
    generalize f 14 = f14
    generalize f 15 = f15
    generalize f 16 = f16
    generalize f 18 = f18
    clear f
    go_wp2_with fail
    go_end0
    have hb3 := heap_setCell_same w4 Bd 3 _ _ (.slice (some ⟨g', 0, none⟩) (s.since.length + 1) c') HBX4.out
    have hb5 := heap_setCell_same _ Bd 5 _ _ (.int .i64 (s.calls + 1)) hb3
    have ho5 : ∀ k, k ≠ Bd → ((w4.setCell ⟨Bd, 3, none⟩ (.slice (some ⟨g', 0, none⟩) (s.since.length + 1) c')).setCell ⟨Bd, 5, none⟩ (.int .i64 (s.calls + 1))).heap[k]? = w4.heap[k]? := fun k hk => by
      rw [Below.heap_setCell _ _ _ _ (by exact hk), Below.heap_setCell _ _ _ _ (by exact hk)]
    have hz5 : ((w4.setCell ⟨Bd, 3, none⟩ (.slice (some ⟨g', 0, none⟩) (s.since.length + 1) c')).setCell ⟨Bd, 5, none⟩ (.int .i64 (s.calls + 1))).heap.size = w4.heap.size := by simp
    have hcS : Chg S w ((w4.setCell ⟨Bd, 3, none⟩ (.slice (some ⟨g', 0, none⟩) (s.since.length + 1) c')).setCell ⟨Bd, 5, none⟩ (.int .i64 (s.calls + 1))) :=
      (((((Chg.of_below HB.out).then (show Chg S W W.drew from ⟨rfl, rfl, rfl, Nat.le_refl _, fun _ _ _ => rfl⟩)).then (HC2.out.mono fun b e => e ▸ HD.out.mnb)).then ((show Chg S w2 w2.drew from ⟨rfl, rfl, rfl, Nat.le_refl _, fun _ _ _ => rfl⟩).then (HB4.out.chg.mono fun b hr => HD.out.msv b (HNR.out b hr)))).then (Chg.setCell _ _ _ _ HD.out.mBd)).then (Chg.setCell _ _ _ _ HD.out.mBd)
    generalize (w4.setCell ⟨Bd, 3, none⟩ (.slice (some ⟨g', 0, none⟩) (s.since.length + 1) c')).setCell ⟨Bd, 5, none⟩ (.int .i64 (s.calls + 1)) = w5 at *
    have hcn := HD.out.calls
    have h24 : ∀ k, k < w2.heap.size → ¬ RowR (.slice Av s.since.length cv) s.since.length k → w4.heap[k]? = w2.heap[k]? := fun k hk hn => HB4.out.chg.block k hk hn
    have hz24 : w2.heap.size ≤ w4.heap.size := HB4.out.chg.size
    have hz02 : w.heap.size ≤ w2.heap.size := Nat.le_of_lt hlm
    have kcell : ∀ {k : Nat} {c : Array Value} {t : TypeId}, W.heap[k]? = some (.cells c t (0, 0)) → t ≠ 126 → t ≠ 142 → w5.heap[k]? = W.heap[k]? := fun {k c t} h1 h2 h3 => by
      have e2 := HK2.out k (lt h1) (fun e => map_ne HD.out.names h1 e.symm)
      have h1' := e2.trans h1
      rw [ho5 k (types_ne h1 HD.out.box h2), h24 k (lt h1') (fun hr => by
        obtain ⟨cur, h4⟩ := rowBlock_at HROW.out (HNR.out k hr)
        exact types_ne h1' h4 h3 rfl), e2]
    have kmap : ∀ {b n : Nat} {f : Dk.Dir}, NamesAt w2 b n f → NamesAt w5 b n f := fun {b n f} h1 => h1.same (by
      rw [ho5 b (map_ne h1 HBX2.out), h24 b h1.lt (fun hr => by
        obtain ⟨cur, h4⟩ := rowBlock_at HROW.out (HNR.out b hr)
        exact map_ne h1 h4 rfl)])
    obtain ⟨mm, hdur, hmm⟩ := HD.out.dur
    have hdur2 : NamesAt w2 db mm s.dur := hdur.same (HK2.out db hdur.lt HD.out.ne.symm)
    have hlen : (s.since ++ [m]).length = s.since.length + 1 := by simp
    refine ⟨rfl, ⟨_, HD.out.turn (s' := s.doMove m) (S' := Up S w w5) (by rw [hb5]; rfl) ?_ ⟨mm, kmap hdur2, ?_⟩ ?_ rfl ?_ ?_ HD.out.dref ?_ ?_ ?_ (fun k hk => .inl hk)⟩, hcS⟩
    · show NamesAt w5 nb (s.calls + 1).toNat (m.on s.names)
      rw [show (s.calls + 1).toNat = s.calls.toNat + 1 by omega]
      exact kmap HN2.out
    · show mm + (s.since ++ [m]).length ≤ (s.calls + 1).toNat
      rw [hlen]; omega
    · show w5.ownsRow 0 _ 3 _ (s.since ++ [m]).length _
      rw [hlen]
      refine ownsRow_same HOW4.out fun g hg => ho5 g fun e => ?_
      obtain ⟨cur, h4⟩ := rowBlock_at HOW4.out hg
      exact types_ne h4 HBX4.out (by decide) e
    · intro i hi
      have hfi := HD.out.file i hi
      refine ⟨kcell hfi.box (by decide) (by decide), fun g hg => ?_⟩
      obtain ⟨cur, h4⟩ := ownBlock_lt hfi.row hg
      exact kcell h4 (by decide) (by decide)
    · intro k i hk0
      have hk : m.on s.names k = some i := hk0
      clear hk0
      have hfr : ∀ k, (if m.frm = [] then s.names else Dk.upd s.names m.frm none) k = some i → i ∈ ids ∧ k ≠ [] ∧ k.length ≤ 64 := fun k hk => by
        split at hk
        · exact HD.out.nref k i hk
        · unfold Dk.upd at hk
          split at hk
          · cases hk
          · exact HD.out.nref k i hk
      unfold Dk.Mv.on at hk
      split at hk
      · exact hfr k hk
      · rename_i hto
        unfold Dk.upd at hk
        split at hk
        · rename_i e
          subst e
          exact ⟨h4 i hk, hto, h2⟩
        · exact hfr k hk
    · intro x hx
      rcases List.mem_append.1 (show x ∈ s.since ++ [m] from hx) with hx | hx
      · exact HD.out.sref x hx
      · obtain rfl := List.mem_singleton.1 hx
        exact ⟨h4, h3, h1, h2⟩
    · show 0 ≤ s.calls + 1
      omega
    · intro g hg
      rcases HV4.out g hg with h6 | h6
      · exact .inl (HD.out.msv g h6)
      · exact .inr ⟨by omega, by have := (HOW4.out.lt g hg).2; omega⟩
end Go.Proofs.YtfdppggdgdnnaaaGreatDoor

namespace Go.Proofs.YtfdppggdgdnnaaaGreatDoor
open Go.RowKit Go.Maps

/-- A new file, without a name yet. -/
theorem DiskL.add {w : World} {Bd nb db : Nat} {sv : Value} {ids : List Nat} {row : Nat → Value} {s : Dk.St} {S : Nat → Prop} (h : DiskL w Bd nb db sv ids row s S) (b : Int) (W : World) (hW : W = w.alloc (.cells #[.int .i64 b, .slice none 0 0, .int .i64 0] 132)) :
    DiskL W Bd nb db sv (w.heap.size :: ids) (fun j => if j = w.heap.size then .slice none 0 0 else row j) (s.setFile w.heap.size ⟨b, [], 0⟩) (Up S w W) := by
  have hz : W.heap.size = w.heap.size + 1 := by rw [hW]; simp
  have hb : Below w.heap.size w W := by rw [hW]; exact balloc (Below.refl _ _) _
  have h1 := h.kept (w' := W) fun k _ hk => hb.block k hk
  have lt : ∀ i ∈ ids, i < w.heap.size := fun i hi => (Array.getElem?_eq_some_iff.1 (h.file i hi).box).1
  have hne : ∀ i ∈ ids, i ≠ w.heap.size := fun i hi => by have := lt i hi; omega
  refine { box := h1.box, names := h1.names, dur := h1.dur, ne := h.ne, since := h1.since, nodup := List.nodup_cons.2 ⟨fun hi => hne _ hi rfl, h.nodup⟩, file := fun i hi => ?_, apart := fun i hi j hj hij g hg => ?_, nref := fun k i hk => ?_, dref := fun k i hk => ?_, sref := fun m hm => ?_, calls := h.calls, mBd := .inl h.mBd, mnb := .inl h.mnb, mdb := .inl h.mdb, msv := fun g hg => .inl (h.msv g hg), mid := fun i hi => ?_, mrow := fun i hi g hg => ?_ }
  · by_cases e : i = w.heap.size
    · subst e
      simp only [if_true, Dk.setFile_same]
      exact ⟨by rw [hW]; exact heap_alloc_new _ _, Own.nil _ _, Nat.le_refl _⟩
    · simp only [if_neg e, Dk.setFile_other _ _ _ _ e]
      exact h1.file i ((List.mem_cons.1 hi).resolve_left e)
  · by_cases ei : i = w.heap.size
    · subst ei; simp [Value.ownBlock] at hg
    · simp only [if_neg ei] at hg
      by_cases ej : j = w.heap.size
      · subst ej; simp [Value.ownBlock]
      · simp only [if_neg ej]
        exact h.apart i ((List.mem_cons.1 hi).resolve_left ei) j ((List.mem_cons.1 hj).resolve_left ej) hij g hg
  · obtain ⟨a, b⟩ := h.nref k i hk; exact ⟨List.mem_cons_of_mem _ a, b⟩
  · obtain ⟨a, b⟩ := h.dref k i hk; exact ⟨List.mem_cons_of_mem _ a, b⟩
  · obtain ⟨a, b⟩ := h.sref m hm; exact ⟨fun i e => List.mem_cons_of_mem _ (a i e), b⟩
  · rcases List.mem_cons.1 hi with e | hi
    · subst e; exact .inr (by omega)
    · exact .inl (h.mid i hi)
  · by_cases e : i = w.heap.size
    · subst e; simp [Value.ownBlock] at hg
    · simp only [if_neg e] at hg
      exact .inl (h.mrow i ((List.mem_cons.1 hi).resolve_left e) g hg)

theorem valid_len {k : Dk.Nm} (h : Dk.valid k = true) : k ≠ [] ∧ k.length ≤ 64 := by
  unfold Dk.valid at h
  simp at h
  exact ⟨fun e => by subst e; simp at h, h.1.2⟩

set_option maxRecDepth 100000 in
set_option maxHeartbeats 1000000 in
theorem create_any (Bd : Nat) (s : Dk.St) (S : Nat → Prop) (p : Nat → Addr) (k : Dk.Nm) (w : World) (hs : SentsD w p) (hS : Safe S p) (h : IsDisk w Bd s S) (hft : Dk.Fit s) (hk : k.length ≤ 9223372036854775807) :
    Calls Tryz.prog 43 #[.pointer (some ⟨Bd, 0, none⟩), encStr k] w fun e w' => e = .returned (errR p (s.create k w.heap.size).1) ∧ Next w Bd S (s.create k w.heap.size).2 w' := by
  obtain ⟨nb, db, sv, ids, row, h⟩ := h
  have hBS : ∀ b, b = Bd → S b := fun b e => e ▸ h.mBd
  have HCH := hide (begin_any Bd nb db sv ids row s S p w hs h hft.armed (fun e => hS.g 9 (by omega) (by omega) (show S 6 from e ▸ h.mBd)))
  have hft' := hft.begin
  obtain ⟨r, hr⟩ : ∃ r, r = s.create k w.heap.size := ⟨_, rfl⟩
  rw [← hr]
  unfold Dk.St.create at hr
  have HBS := hide hBS
  have HSE := hide hs
  clear hs h hft hBS
  generalize s.begin = t at *
  cases hd : t.down with
  | true =>
    rw [hd] at hr HCH
    simp only [if_true] at hr HCH
    subst hr
    have hne := fun w' => neq_nilD (p 9) w'
    unfold errV at hne
    clear hft'
    go_enter Tryz.func43, Tryz.ntmps43
    go_wp2_with (first
      | (go_at_call 91; refine HCH.out.mono ?_; rintro e w1 ⟨rfl, hd1, hc1, hz1⟩; have HD1 := hide hd1; have HC1 := hide hc1; clear hd1 hc1; simp only [errR, errV])
      | fail)
    go_ret
    exact ⟨rfl, ⟨_, _, _, _, _, HD1.out.mono up_self⟩, HC1.out.mono HBS.out⟩
  | false =>
    rw [hd] at hr HCH
    simp only [Bool.false_eq_true, if_false] at hr HCH
    have HV := hide (fun W => dValid_any k hk W)
    cases hv : Dk.valid k with
    | false =>
      rw [hv] at hr HV
      simp only [if_true] at hr
      subst hr
      clear hft'
      go_enter Tryz.func43, Tryz.ntmps43
      go_wp2_with (first
        | (go_at_call 91; refine HCH.out.mono ?_; rintro e w1 ⟨rfl, hd1, hc1, hz1⟩; have HD1 := hide hd1; have HC1 := hide hc1; have g5 := (HSE.out.chg hS (hc1.mono HBS.out)).c5; clear hd1 hc1; simp only [errR])
        | (go_at_call 92; refine (HV.out _).mono ?_; rintro e w2 ⟨rfl, rfl⟩)
        | fail)
      go_ret
      exact ⟨rfl, ⟨_, _, _, _, _, HD1.out.mono up_self⟩, HC1.out.mono HBS.out⟩
    | true =>
      rw [hv] at hr HV
      simp only [Bool.true_eq_false, if_false] at hr
      obtain ⟨v1, v2⟩ := valid_len hv
      cases hn : t.names k with
      | some i =>
        rw [hn] at hr
        simp only [ne_eq, reduceCtorEq, not_false_eq_true, if_true] at hr
        subst hr
        clear hft'
        go_enter Tryz.func43, Tryz.ntmps43
        go_wp2_with (first
          | (go_at_call 91; refine HCH.out.mono ?_; rintro e w1 ⟨rfl, hd1, hc1, hz1⟩; have HD1 := hide hd1; have HC1 := hide hc1; have g7 := (HSE.out.chg hS (hc1.mono HBS.out)).c7; have c1 : w1.cell? ⟨Bd, 1, none⟩ = some (.map (some nb)) := box_cell hd1.box 1; have hl := hd1.names.look k hk; rw [hn] at hl; clear hd1 hc1; simp only [errR, fileV] at *)
          | (go_at_call 92; refine (HV.out _).mono ?_; rintro e w2 ⟨rfl, rfl⟩)
          | fail)
        go_ret
        exact ⟨rfl, ⟨_, _, _, _, _, HD1.out.mono up_self⟩, HC1.out.mono HBS.out⟩
      | none =>
        rw [hn] at hr
        simp only [ne_eq, not_true_eq_false, if_false] at hr
        subst hr
        have hcb := hft'.calls
        have HCB := hide hcb
        clear hft' hcb
        go_enter Tryz.func43, Tryz.ntmps43
        go_wp2_with (first
          | (go_at_call 91; refine HCH.out.mono ?_; rintro e w1 ⟨rfl, hd1, hc1, hz1⟩; have HD1 := hide hd1; have HC1 := hide hc1; have c1 : w1.cell? ⟨Bd, 1, none⟩ = some (.map (some nb)) := box_cell hd1.box 1; have c5 : w1.cell? ⟨Bd, 5, none⟩ = some (.int .i64 t.calls) := box_cell hd1.box 5; have hl := hd1.names.look k hk; rw [hn] at hl; have HZ1 := hide hz1; have HDO := hide (do_any Bd nb db sv (w1.heap.size :: ids) _ _ _ ⟨[], k, some w1.heap.size⟩ _ (hd1.add t.calls _ rfl) HCB.out.2 (by simp) v2 (fun _ => by simp) (fun i e => by injection e with e; subst e; exact List.mem_cons_self)); clear hd1 hc1 hz1; simp only [errR, fileV] at *)
          | (go_at_call 92; refine (HV.out _).mono ?_; rintro e w2 ⟨rfl, rfl⟩)
          | (go_at_call 93; refine HDO.out.mono ?_; rintro e w3 ⟨rfl, ⟨sv', hd3⟩, hc3⟩)
          | fail)
        go_ret
        have hz := HZ1.out
        have hle : w2.heap.size ≤ (w2.alloc (.cells #[.int .i64 t.calls, .slice none 0 0, .int .i64 0] 132)).heap.size := by simp
        have hle3 := hc3.size
        have hcc : Chg S w2 w3 := Chg.up (Chg.of_below (balloc (Below.refl _ _) _)) hc3
        have hd4 := hd3.mono fun x hx => (show Up S w w3 x from by
          rcases up_up hle hle3 x hx with h | h
          · exact .inl h
          · exact .inr (by omega))
        rw [hz] at hd4
        exact ⟨rfl, ⟨_, _, _, _, _, hd4⟩, (HC1.out.mono HBS.out).then hcc⟩

end Go.Proofs.YtfdppggdgdnnaaaGreatDoor

namespace Go.Proofs.YtfdppggdgdnnaaaGreatDoor
open Go.RowKit Go.Maps

theorem ptr_facts : ∃ j, Tryz.prog.underlying 128 = some (.pointer 132) ∧ Tryz.prog.info? 132 = some j ∧ j.size ≠ 0 := by
  have h1 : Tryz.prog.underlying 128 = some (.pointer 132) := by kernel_rfl
  have h3 : (Tryz.prog.info? 132).map (·.size) = some 3 := by kernel_rfl
  obtain ⟨j, h6, h7⟩ := Option.map_eq_some_iff.1 h3
  exact ⟨j, h1, h6, by omega⟩
theorem neq_ptr {o i : Nat} (h : o ≠ i) {w : World} {ca cb : Array Value} {ta tb : TypeId} (ha : w.heap[o]? = some (.cells ca ta (0, 0))) (hb : w.heap[i]? = some (.cells cb tb (0, 0))) :
    (binOp .neq 128 (.pointer (some ⟨o, 0, none⟩)) (.pointer (some ⟨i, 0, none⟩))).run Tryz.prog w = .ok (.bool true) w := by
  obtain ⟨j, hp, hte, hsz⟩ := ptr_facts
  have hne : (⟨o, 0, none⟩ : Addr) ≠ ⟨i, 0, none⟩ := fun e => h (by injection e)
  have h : ∀ d : Nat, (Op.equalIn (d + 1) 128 (.pointer (some ⟨o, 0, none⟩)) (.pointer (some ⟨i, 0, none⟩))).run Tryz.prog w = .ok false w := fun d => by
    simp [Op.equalIn, run_underlying hp, sizeOf, typeInfo, hte, hsz, run_sameAddr_other w hne ha hb]
  simp only [binOp]
  simp [Op.equal, Op.maxDepth, h 9999]
theorem neq_ptr_self (i : Nat) (w : World) : (binOp .neq 128 (.pointer (some ⟨i, 0, none⟩)) (.pointer (some ⟨i, 0, none⟩))).run Tryz.prog w = .ok (.bool false) w := by
  obtain ⟨j, hp, hte, hsz⟩ := ptr_facts
  have h : ∀ d : Nat, (Op.equalIn (d + 1) 128 (.pointer (some ⟨i, 0, none⟩)) (.pointer (some ⟨i, 0, none⟩))).run Tryz.prog w = .ok true w := fun d => by
    simp [Op.equalIn, run_underlying hp, sizeOf, typeInfo, hte, run_sameAddr_same]
  simp only [binOp]
  simp [Op.equal, Op.maxDepth, h 9999]

end Go.Proofs.YtfdppggdgdnnaaaGreatDoor

namespace Go.Proofs.YtfdppggdgdnnaaaGreatDoor
open Go.RowKit Go.Maps

set_option maxRecDepth 100000 in
set_option maxHeartbeats 1000000 in
theorem cut_any (Bd : Nat) (s : Dk.St) (S : Nat → Prop) (p : Nat → Addr) (k : Dk.Nm) (n : Int) (w : World) (hs : SentsD w p) (hS : Safe S p) (h : IsDisk w Bd s S) (hft : Dk.Fit s) (hk : k.length ≤ 9223372036854775807) :
    Calls Tryz.prog 89 #[.pointer (some ⟨Bd, 0, none⟩), encStr k, .int .i64 n] w fun e w' => e = .returned (errR p (s.cut k n).1) ∧ Next w Bd S (s.cut k n).2 w' := by
  obtain ⟨nb, db, sv, ids, row, h⟩ := h
  have hBS : ∀ b, b = Bd → S b := fun b e => e ▸ h.mBd
  have HCH := hide (change_any Bd nb db sv ids row s S p k w hs h hft.armed hk (fun w' hc => hs.chg hS (hc.mono hBS)) (fun e => hS.g 9 (by omega) (by omega) (show S 6 from e ▸ h.mBd)))
  have hft' := hft.begin
  obtain ⟨r, hr⟩ : ∃ r, r = s.cut k n := ⟨_, rfl⟩
  rw [← hr]
  unfold Dk.St.cut at hr
  have HBS := hide hBS
  have HSE := hide hs
  clear hs h hft hBS
  generalize s.begin = t at *
  rcases find_cases t k with ⟨j, hf⟩ | ⟨i, hf, hnm⟩
  · rw [hf] at hr HCH
    simp only at hr HCH
    subst hr
    have hne := fun w' => neq_nilD (p j) w'
    unfold errV at hne
    clear hft'
    go_enter Tryz.func89, Tryz.ntmps89
    go_wp2_with (first
      | (go_at_call 94; refine HCH.out.mono ?_; rintro e w1 ⟨rfl, hd1, hc1, hz1⟩; have HD1 := hide hd1; have HC1 := hide hc1; clear hd1 hc1; simp only [errR, errV, fileV])
      | fail)
    go_ret
    exact ⟨rfl, ⟨_, _, _, _, _, HD1.out.mono up_self⟩, HC1.out.mono HBS.out⟩
  · rw [hf] at hr HCH
    simp only at hr HCH
    have HFT := hide hft'
    have HNM := hide hnm
    clear hft' hnm hf
    by_cases h0 : n < 0
    · rw [if_pos (.inl h0)] at hr
      subst hr
      have d0 : decide (n < 0) = true := by simp [h0]
      go_enter Tryz.func89, Tryz.ntmps89
      go_wp2_with (first
        | (go_at_call 94; refine HCH.out.mono ?_; rintro e w1 ⟨rfl, hd1, hc1, hz1⟩; have HD1 := hide hd1; have HC1 := hide hc1; have g4 := (HSE.out.chg hS (hc1.mono HBS.out)).c4; clear hd1 hc1; simp only [errR, fileV])
        | fail)
      go_ret
      exact ⟨rfl, ⟨_, _, _, _, _, HD1.out.mono up_self⟩, HC1.out.mono HBS.out⟩
    · have d0 : decide (n < 0) = false := by simp; omega
      by_cases h1 : ((t.files i).bytes.length : Int) < n
      · rw [if_pos (.inr h1)] at hr
        subst hr
        have d1 : decide (((t.files i).bytes.length : Int) < n) = true := by simp [h1]
        go_enter Tryz.func89, Tryz.ntmps89
        go_wp2_with (first
          | (go_at_call 94; refine HCH.out.mono ?_; rintro e w1 ⟨rfl, hd1, hc1, hz1⟩; have HD1 := hide hd1; have HC1 := hide hc1; have g4 := (HSE.out.chg hS (hc1.mono HBS.out)).c4; obtain ⟨hi, -, -⟩ := hd1.nref k i HNM.out; have hfi := hd1.file i hi; obtain ⟨A, c, hrv, -⟩ := hfi.row.arg; have hc1' : w1.cell? ⟨i, 1, none⟩ = some (row i) := box_cell hfi.box 1; rw [hrv] at hc1'; clear hd1 hc1 hfi hrv hi; simp only [errR, fileV])
          | fail)
        go_ret
        exact ⟨rfl, ⟨_, _, _, _, _, HD1.out.mono up_self⟩, HC1.out.mono HBS.out⟩
      · rw [if_neg (by omega)] at hr
        subst hr
        have d1 : decide (((t.files i).bytes.length : Int) < n) = false := by simp; omega
        obtain ⟨m, rfl⟩ : ∃ m : Nat, n = (m : Int) := ⟨n.toNat, by omega⟩
        have hml : m ≤ (t.files i).bytes.length := by omega
        have d2 : decide ((t.files i).bytes.length < m) = false := by simp; omega
        have hw0 : IntKind.i64.wrap (((t.files i).bytes.length : Int) - (m : Int)) = ((t.files i).bytes.length : Int) - (m : Int) := IntWalk.i64_in _ (by have := HFT.out.file i; omega)
        have hwu : IntKind.i64.wrap (t.used - (((t.files i).bytes.length : Int) - (m : Int))) = t.used - (((t.files i).bytes.length : Int) - (m : Int)) := IntWalk.i64_in _ (by have := HFT.out.used; have := HFT.out.file i; omega)
        have HM := hide hml
        clear h0 h1 hml
        go_enter Tryz.func89, Tryz.ntmps89
        go_wp2_with (first
          | (go_at_call 94; refine HCH.out.mono ?_; rintro e w1 ⟨rfl, hd1, hc1, hz1⟩; have HD1 := hide hd1; have HC1 := hide hc1; have HZ1 := hide hz1; obtain ⟨hi, -, -⟩ := hd1.nref k i HNM.out; have hfi := hd1.file i hi; have HFI := hide hfi; have HI := hide hi; obtain ⟨A, c, hrv, -⟩ := hfi.row.arg; have hc1' : w1.cell? ⟨i, 1, none⟩ = some (row i) := box_cell hfi.box 1; rw [hrv] at hc1'; have c4 : w1.cell? ⟨Bd, 4, none⟩ = some (.int .i64 t.used) := box_cell hd1.box 4; have f4 := box_free hd1.box 4; clear hd1 hc1 hz1 hfi hrv hi; simp only [errR, fileV])
          | fail)
        go_still_tail 12, (by kernel_rfl)
        change wpList _ _ _ _ _ w1.drew
        have HDQ : Hid (DiskL w1.drew Bd nb db sv ids row t S) := hide (HD1.out.kept fun _ _ _ => rfl)
        have HCQ : Hid (Chg (fun b => b = Bd) w w1.drew) := hide ⟨HC1.out.os, HC1.out.tape, HC1.out.output, HC1.out.size, HC1.out.block⟩
        have HZQ : Hid (w1.drew.heap.size = w.heap.size) := hide HZ1.out
        have x4 : w1.drew.frozen? ⟨Bd, 4, none⟩ = false := f4
        clear c4 f4 hc1' HFI
        generalize w1.drew = wq at *
        have hd2 := HDQ.out.set 4 (.int .i64 (t.used - (((t.files i).bytes.length : Int) - (m : Int)))) { t with used := t.used - (((t.files i).bytes.length : Int) - (m : Int)) } rfl rfl rfl rfl rfl (Int.le_refl _)
        have HD2 := hide hd2
        have HKP := hide (keep_any i (row i) (t.files i) m _ (hd2.file i HI.out) HM.out)
        have hc4 : wq.cell? ⟨Bd, 4, none⟩ = some (.int .i64 t.used) := box_cell HDQ.out.box 4
        clear hd2
        go_wp2_with (first
          | (go_at_call 85; refine HKP.out.mono ?_; rintro e w2 ⟨rfl, v', hf2, hv2, hc2, hz2⟩; have HD3 := hide (HD2.out.file_ i HI.out v' _ hf2 (fun b hb hbi _ => hc2.block b hb hbi) (fun g hg => .inl (hv2 g hg)) (by omega)); have c5 : w2.cell? ⟨Bd, 5, none⟩ = some (.int .i64 t.calls) := box_cell HD3.out.box 5; have f5 := box_free HD3.out.box 5; have HC2 := hide hc2; have HZ := hide hz2; have hw5 : IntKind.i64.wrap (t.calls + 1) = t.calls + 1 := IntWalk.i64_in _ (by have := HFT.out.calls; omega); clear hf2 hv2 hc2 hz2)
          | fail)
        go_ret
        refine ⟨rfl, ⟨_, _, _, _, _, (HD3.out.set 5 (.int .i64 (t.calls + 1)) { t.setFile i ((t.files i).keep m) with used := t.used - (((t.files i).bytes.length : Int) - (m : Int)), calls := t.calls + 1 } rfl rfl rfl rfl rfl (by show t.calls ≤ t.calls + 1; omega)).mono fun b hb => .inl (up_same HZ.out b hb)⟩, ?_⟩
        exact (((HCQ.out.mono HBS.out).then (Chg.setCell _ _ _ _ HDQ.out.mBd)).then (HC2.out.mono fun b e => e ▸ HD1.out.mid i HI.out)).then (Chg.setCell _ _ _ _ HD1.out.mBd)
end Go.Proofs.YtfdppggdgdnnaaaGreatDoor

namespace Go.Proofs.YtfdppggdgdnnaaaGreatDoor
open Go.RowKit Go.Maps

theorem mvCells_at : ∀ (ms : List Dk.Mv) (k j : Nat), k < ms.length → j < 3 → (ms.flatMap mvCells)[k * 3 + j]? = (mvCells (ms.getD k default))[j]? := by
  intro ms
  induction ms with
  | nil => intro k j h; simp at h
  | cons m ms ih =>
    intro k j hk hj
    rw [List.flatMap_cons]
    cases k with
    | zero =>
      rw [List.getElem?_append_left (by show 0 * 3 + j < 3; omega)]
      simp
    | succ k =>
      rw [List.getElem?_append_right (by show 3 ≤ _; omega), show (k + 1) * 3 + j - (mvCells m).length = k * 3 + j from by show (k + 1) * 3 + j - 3 = _; omega]
      rw [ih k j (by simp at hk; omega) hj]
      simp
/-- A row of moves, read. -/
structure MvRow (w : World) (A : Option Addr) (c : Nat) (ms : List Dk.Mv) : Prop where
  le : ms.length ≤ c
  max : c ≤ 9223372036854775807
  nil : A = none → c = 0
  get : ∀ k, k < ms.length → ∃ g, A = some ⟨g, 0, none⟩ ∧ w.cell? ⟨g, k * 3, none⟩ = some (encStr (ms.getD k default).frm) ∧ w.cell? ⟨g, k * 3 + 1, none⟩ = some (encStr (ms.getD k default).to) ∧ w.cell? ⟨g, k * 3 + 2, none⟩ = some (fileV (ms.getD k default).file)
theorem row_read {w : World} {A : Option Addr} {c : Nat} {ms : List Dk.Mv} (h : w.ownsRow 0 142 3 (.slice A ms.length c) ms.length (ms.flatMap mvCells)) : MvRow w A c ms := by
  rcases h.2 with ⟨e, h0⟩ | ⟨g, cap, cur, e, hg, hh, hle, hmax, -, -⟩
  · injection e with e1 e2 e3
    exact ⟨by omega, by omega, fun _ => e3, fun k hk => by omega⟩
  · injection e with e1 e2 e3
    subst e1 e3
    refine ⟨hle, by unfold maxLen at hmax; omega, (fun e => by cases e), fun k hk => ⟨g, rfl, ?_, ?_, ?_⟩⟩
    · rw [h.cellAt (k * 3) (by omega)]; exact mvCells_at ms k 0 hk (by omega)
    · rw [h.cellAt (k * 3 + 1) (by omega)]; exact mvCells_at ms k 1 hk (by omega)
    · rw [h.cellAt (k * 3 + 2) (by omega)]; exact mvCells_at ms k 2 hk (by omega)
theorem ons_step {ms : List Dk.Mv} {k : Nat} (hk : k < ms.length) (f : Dk.Dir) : Dk.ons (ms.take (k + 1)) f = (ms.getD k default).on (Dk.ons (ms.take k) f) := by
  rw [List.take_add_one, List.getElem?_eq_getElem hk, Option.toList_some, Dk.ons_snoc]
  simp [List.getD, hk]

/-- Names lead to files of the disk. -/
def Refs (ids : List Nat) (f : Dk.Dir) : Prop := ∀ k i, f k = some i → i ∈ ids ∧ k ≠ [] ∧ k.length ≤ 64
theorem on_ref {ids : List Nat} {m : Dk.Mv} {f : Dk.Dir} (h : Refs ids f) (hm : ∀ i, m.file = some i → i ∈ ids) (h2 : m.to.length ≤ 64) : Refs ids (m.on f) := by
  intro k i hk
  have hfr : ∀ k, (if m.frm = [] then f else Dk.upd f m.frm none) k = some i → i ∈ ids ∧ k ≠ [] ∧ k.length ≤ 64 := fun k hk => by
    split at hk
    · exact h k i hk
    · unfold Dk.upd at hk
      split at hk
      · cases hk
      · exact h k i hk
  unfold Dk.Mv.on at hk
  split at hk
  · exact hfr k hk
  · rename_i hto
    unfold Dk.upd at hk
    split at hk
    · rename_i e
      subst e
      exact ⟨hm i hk, hto, h2⟩
    · exact hfr k hk
theorem ons_ref {ids : List Nat} : ∀ (ms : List Dk.Mv) (f : Dk.Dir), Refs ids f → (∀ m ∈ ms, (∀ i, m.file = some i → i ∈ ids) ∧ m.to.length ≤ 64) → Refs ids (Dk.ons ms f) := by
  intro ms
  induction ms with
  | nil => intro f h _; exact h
  | cons m ms ih => intro f h hm; exact ih (m.on f) (on_ref h (hm m List.mem_cons_self).1 (hm m List.mem_cons_self).2) fun x hx => hm x (List.mem_cons_of_mem _ hx)
theorem fileV_ptr (f : Option Nat) : ∃ q, fileV f = .pointer q := by cases f <;> exact ⟨_, rfl⟩

set_option maxRecDepth 100000 in
set_option maxHeartbeats 1000000 in
theorem settle_any (Bd nb db : Nat) (sv : Value) (ids : List Nat) (row : Nat → Value) (s : Dk.St) (S : Nat → Prop) (n : Nat) (w : World) (h : DiskL w Bd nb db sv ids row s S) (hc : s.calls ≤ 1099511627776) (hn : n ≤ s.since.length) :
    Calls Tryz.prog 81 #[.pointer (some ⟨Bd, 0, none⟩), .int .i64 (n : Int)] w fun e w' => e = .returned (.tuple #[]) ∧ DiskL w' Bd nb db (.slice none 0 0) ids row (s.settle n) S ∧ Chg (fun b => b = Bd ∨ b = db) w w' := by
  obtain ⟨Av, cv, rfl⟩ : ∃ Av cv, sv = .slice Av s.since.length cv := by
    rcases h.since.2 with ⟨e, h0⟩ | ⟨g, cap, cur, e, _⟩
    · exact ⟨none, 0, by rw [e, h0]⟩
    · exact ⟨_, _, e⟩
  have hrd := row_read h.since
  have b3 : w.cell? ⟨Bd, 3, none⟩ = some (.slice Av s.since.length cv) := box_cell h.box 3
  obtain ⟨mm, hdur, hmm⟩ := h.dur
  have hle := hrd.le
  have hmx := hrd.max
  have hA := hrd.nil
  have HR := hide hrd
  have HD := hide h
  have HDU := hide hdur
  have HMM := hide hmm
  have HC := hide hc
  clear h hrd hdur hmm hc
  generalize hL : s.since.length = L at *
  go_enter Tryz.func81, Tryz.ntmps81
  go_wp2_with fail
  go_loopw [13] (fun i wr => ∃ k : Nat, k ≤ n ∧ i = .int .i64 k ∧ NamesAt wr db (mm + k) (Dk.ons (s.since.take k) s.dur) ∧ Chg (fun b => b = db) w wr) (fun i _ => n - (intOf i).toNat)
  case atStart => exact ⟨0, Nat.zero_le _, rfl, HDU.out, Chg.refl _ _⟩
  case round =>
    obtain ⟨k, hk, rfl, hnm, hch⟩ := hrel
    have HNM := hide hnm
    have HCH := hide hch
    have hbx := (HCH.out.block Bd (Array.getElem?_eq_some_iff.1 HD.out.box).1 (fun e => map_ne HDU.out HD.out.box e.symm)).trans HD.out.box
    have HBX := hide hbx
    clear hnm hch hbx
    by_cases hlt : k < n
    · obtain ⟨g, rfl, r0, r1, r2⟩ := HR.out.get k (by omega)
      have hgd : g ≠ db := by
        obtain ⟨cur, h4⟩ := rowBlock_at HD.out.since rfl
        exact fun e => map_ne HDU.out h4 e.symm
      have d0 := HCH.out.cell r0 hgd
      have d1 := HCH.out.cell r1 hgd
      have d2 := HCH.out.cell r2 hgd
      have hmem : s.since.getD k default ∈ s.since := by
        rw [show s.since.getD k default = s.since[k] from by simp [List.getD, show k < s.since.length by omega]]; exact List.getElem_mem _
      obtain ⟨-, x3, x1, x2⟩ := HD.out.sref _ hmem
      have HOS := hide (ons_step (show k < s.since.length by omega) s.dur)
      clear r0 r1 r2 hgd hmem
      generalize s.since.getD k default = m at *
      obtain ⟨q, hq⟩ := fileV_ptr m.file
      rw [hq] at d2
      have HIN : Hid (∀ W, Below wr.heap.size wr W → Calls Tryz.prog 112 #[.agg #[encStr m.frm, encStr m.to, .pointer q], .map (some db)] W fun e w' => e = .returned (.tuple #[]) ∧ NamesAt w' db (mm + k + 1) (m.on (Dk.ons (s.since.take k) s.dur)) ∧ Chg (fun k => k = db) W w') := hide (fun W hb => by
        have h9 := mvIn_any m db (mm + k) _ W (HNM.out.same (hb.block db HNM.out.lt)) (by have := HMM.out; have := HC.out; omega) x1 x2 x3
        simp only [mvV, hq] at h9
        exact h9)
      clear x1 x2 x3 hq
      obtain ⟨m0, m1, m2⟩ := made3D wr (encStr m.frm) (encStr m.to) (.pointer q) 142
      have HBW := hide (balloc (Below.refl wr.heap.size wr) (.cells #[encStr m.frm, encStr m.to, .pointer q] 142))
      go_wp2_with fail
      change Code.wp _ _ _ _ (wr.alloc (.cells #[encStr m.frm, encStr m.to, .pointer q] 142))
      obtain ⟨W, hW⟩ : ∃ W, W = wr.alloc (.cells #[encStr m.frm, encStr m.to, .pointer q] 142) := ⟨_, rfl⟩
      rw [← hW] at m0 m1 m2 HBW ⊢
      have e2 : W.cell? ⟨Bd, 2, none⟩ = some (.map (some db)) := box_cell ((HBW.out.block Bd (Array.getElem?_eq_some_iff.1 HBX.out).1).trans HBX.out) 2
      clear hW d0 d1 d2
      go_still_tail 5, (by kernel_rfl)
      change wpList _ _ _ _ _ W.drew
      have HIW := hide (HIN.out W.drew ⟨HBW.out.os, HBW.out.tape, HBW.out.output, HBW.out.size, HBW.out.block⟩)
      have HCW : Hid (Chg (fun b => b = db) wr W.drew) := hide (Chg.of_below ⟨HBW.out.os, HBW.out.tape, HBW.out.output, HBW.out.size, HBW.out.block⟩)
      go_wp2_with (first
        | (go_at_call 112; refine HIW.out.mono ?_; rintro e w2 ⟨rfl, hn2, hc2⟩)
        | fail)
      have HN2 := hide hn2
      have HC2 := hide hc2
      clear hn2 hc2
      go_roundw
      case rel => exact ⟨k + 1, by omega, by go_num, by rw [HOS.out]; exact HN2.out, (HCH.out.then HCW.out).then HC2.out⟩
      case measure => simp [intOf]; omega
    · obtain rfl : k = n := by omega
      have z3 : wr.cell? ⟨Bd, 3, none⟩ = some (.slice Av L cv) := box_cell HBX.out 3
      have f3 := box_free HBX.out 3
      go_wp2_with fail
      go_end0
      have hb3 := heap_setCell_same wr Bd 3 _ _ (.slice none 0 0) HBX.out
      have ho3 : ∀ j, j ≠ Bd → (wr.setCell ⟨Bd, 3, none⟩ (.slice none 0 0)).heap[j]? = wr.heap[j]? := fun j hj => Below.heap_setCell _ _ _ _ (by exact hj)
      have hcS : Chg (fun b => b = Bd ∨ b = db) w (wr.setCell ⟨Bd, 3, none⟩ (.slice none 0 0)) := (HCH.out.mono fun b e => .inr e).then (Chg.setCell _ _ _ _ (.inl rfl))
      have HCS := hide hcS
      generalize wr.setCell ⟨Bd, 3, none⟩ (.slice none 0 0) = w5 at *
      have lt : ∀ {j : Nat} {o : Obj}, w.heap[j]? = some o → j < w.heap.size := fun h => (Array.getElem?_eq_some_iff.1 h).1
      have kcell : ∀ {j : Nat} {c : Array Value} {t : TypeId}, w.heap[j]? = some (.cells c t (0, 0)) → t ≠ 126 → w5.heap[j]? = w.heap[j]? := fun {j c t} h1 h2 =>
        HCS.out.block j (lt h1) fun e => by
          rcases e with e | e
          · exact types_ne h1 HD.out.box h2 e
          · exact map_ne HDU.out h1 e.symm
      refine ⟨rfl, HD.out.turn (s' := s.settle k) (S' := S) (by rw [hb3]; rfl) ?_ ⟨mm + k, ?_, ?_⟩ (World.ownsRow_nil _ _ _ _) rfl ?_ HD.out.nref ?_ ?_ HD.out.calls ?_ (fun _ h => h), HCS.out⟩
      · exact HD.out.names.same (HCS.out.block nb HD.out.names.lt fun e => by
          rcases e with e | e
          · exact map_ne HD.out.names HD.out.box e
          · exact HD.out.ne e)
      · exact HNM.out.same (ho3 db (map_ne HDU.out HD.out.box))
      · show mm + k + 0 ≤ s.calls.toNat
        have := HMM.out
        omega
      · intro i hi
        have hfi := HD.out.file i hi
        refine ⟨kcell hfi.box (by decide), fun g hg => ?_⟩
        obtain ⟨cur, h4⟩ := ownBlock_lt hfi.row hg
        exact kcell h4 (by decide)
      · exact ons_ref _ _ HD.out.dref fun m hm => ⟨(HD.out.sref m (List.mem_of_mem_take hm)).1, (HD.out.sref m (List.mem_of_mem_take hm)).2.2.2⟩
      · intro m hm
        cases hm
      · intro g hg
        cases hg
end Go.Proofs.YtfdppggdgdnnaaaGreatDoor

namespace Go.Proofs.YtfdppggdgdnnaaaGreatDoor
open Go.RowKit Go.Maps

set_option maxRecDepth 100000 in
set_option maxHeartbeats 1000000 in
theorem syncDir_any (Bd : Nat) (s : Dk.St) (S : Nat → Prop) (p : Nat → Addr) (w : World) (hs : SentsD w p) (hS : Safe S p) (h : IsDisk w Bd s S) (hft : Dk.Fit s) :
    Calls Tryz.prog 78 #[.pointer (some ⟨Bd, 0, none⟩)] w fun e w' => e = .returned (errR p s.syncDir.1) ∧ Next w Bd S s.syncDir.2 w' := by
  obtain ⟨nb, db, sv, ids, row, h⟩ := h
  have hBS : ∀ b, b = Bd → S b := fun b e => e ▸ h.mBd
  have HCH := hide (begin_any Bd nb db sv ids row s S p w hs h hft.armed (fun e => hS.g 9 (by omega) (by omega) (show S 6 from e ▸ h.mBd)))
  have hft' := hft.begin
  obtain ⟨r, hr⟩ : ∃ r, r = s.syncDir := ⟨_, rfl⟩
  rw [← hr]
  unfold Dk.St.syncDir at hr
  have HBS := hide hBS
  clear hs h hft hBS
  generalize s.begin = t at *
  cases hd : t.down with
  | true =>
    rw [hd] at hr HCH
    simp only [if_true] at hr HCH
    subst hr
    have hne := fun w' => neq_nilD (p 9) w'
    unfold errV at hne
    clear hft'
    go_enter Tryz.func78, Tryz.ntmps78
    go_wp2_with (first
      | (go_at_call 91; refine HCH.out.mono ?_; rintro e w1 ⟨rfl, hd1, hc1, hz1⟩; have HD1 := hide hd1; have HC1 := hide hc1; clear hd1 hc1; simp only [errR, errV])
      | fail)
    go_ret
    exact ⟨rfl, ⟨_, _, _, _, _, HD1.out.mono up_self⟩, HC1.out.mono HBS.out⟩
  | false =>
    rw [hd] at hr HCH
    simp only [Bool.false_eq_true, if_false] at hr HCH
    subst hr
    have hcb := hft'.calls
    have HCB := hide hcb
    have hw5 : IntKind.i64.wrap (t.calls + 1) = t.calls + 1 := IntWalk.i64_in _ (by omega)
    clear hft' hcb
    go_enter Tryz.func78, Tryz.ntmps78
    go_wp2_with (first
      | (go_at_call 91; refine HCH.out.mono ?_; rintro e w1 ⟨rfl, hd1, hc1, hz1⟩; have HD1 := hide hd1; have HC1 := hide hc1; have HZ1 := hide hz1; have HSE := hide (settle_any Bd nb db sv ids row t S t.since.length w1 hd1 HCB.out.2 (Nat.le_refl _)); obtain ⟨Av, cv, hsv⟩ : ∃ Av cv, sv = .slice Av t.since.length cv := (by rcases hd1.since.2 with ⟨e, h0⟩ | ⟨g, cap, cur, e, _⟩; exact ⟨none, 0, by rw [e, h0]⟩; exact ⟨_, _, e⟩); have c3 : w1.cell? ⟨Bd, 3, none⟩ = some sv := box_cell hd1.box 3; rw [hsv] at c3; clear hd1 hc1 hz1; simp only [errR])
      | (go_at_call 81; refine HSE.out.mono ?_; rintro e w2 ⟨rfl, hd2, hc2⟩; have HD2 := hide hd2; have HC2 := hide hc2; have c5 : w2.cell? ⟨Bd, 5, none⟩ = some (.int .i64 t.calls) := box_cell hd2.box 5; have f5 := box_free hd2.box 5; clear hd2 hc2)
      | fail)
    go_ret
    have hd3 := HD2.out.set 5 (.int .i64 (t.calls + 1)) { t.settle t.since.length with calls := t.calls + 1 } rfl rfl rfl rfl rfl (by show t.calls ≤ t.calls + 1; omega)
    exact ⟨rfl, ⟨_, _, _, _, _, hd3.mono up_self⟩, ((HC1.out.mono HBS.out).then (HC2.out.mono fun b e => by rcases e with e | e; exact e ▸ HD1.out.mBd; exact e ▸ HD1.out.mdb)).then (Chg.setCell _ _ _ _ HD1.out.mBd)⟩

/-- How many bytes a file has, or none. -/
def Dk.St.lenOf (s : Dk.St) (k : Dk.Nm) : Int := match s.find k with | (none, some i) => ((s.files i).bytes.length : Int) | _ => 0
def Dk.St.syncedOf (s : Dk.St) (k : Dk.Nm) : Int := match s.find k with | (none, some i) => ((s.files i).synced : Int) | _ => 0

set_option maxRecDepth 100000 in
theorem len_any (Bd : Nat) (s : Dk.St) (S : Nat → Prop) (p : Nat → Addr) (k : Dk.Nm) (w : World) (hs : SentsD w p) (h : IsDisk w Bd s S) (hk : k.length ≤ 9223372036854775807) :
    Calls Tryz.prog 39 #[.pointer (some ⟨Bd, 0, none⟩), encStr k] w fun e w' => e = .returned (.tuple #[.int .i64 (s.lenOf k), errR p (s.find k).1]) ∧ ∃ q, w' = w.drewN q := by
  obtain ⟨nb, db, sv, ids, row, h⟩ := h
  have HF := hide (find_any Bd nb db sv ids row s S p k w hs h hk)
  have HD := hide h
  obtain ⟨r, hr⟩ : ∃ r, r = s.lenOf k := ⟨_, rfl⟩
  rw [← hr]
  unfold Dk.St.lenOf at hr
  clear h hs
  rcases find_cases s k with ⟨j, hf⟩ | ⟨i, hf, hnm⟩
  · rw [hf] at hr HF ⊢
    simp only at hr HF ⊢
    subst hr
    have hne := fun w' => neq_nilD (p j) w'
    unfold errV at hne
    clear hf
    go_enter Tryz.func39, Tryz.ntmps39
    go_wp2_with (first
      | (go_at_call 86; refine HF.out.mono ?_; rintro e w1 ⟨rfl, q, hq⟩; simp only [errR, errV, fileV])
      | fail)
    go_returns
    exact ⟨rfl, q, rfl⟩
  · rw [hf] at hr HF ⊢
    simp only at hr HF ⊢
    subst hr
    have hi := (HD.out.nref k i hnm).1
    have hfi := HD.out.file i hi
    obtain ⟨A, c, hrv, -⟩ := hfi.row.arg
    have hc1' : w.cell? ⟨i, 1, none⟩ = some (row i) := box_cell hfi.box 1
    rw [hrv] at hc1'
    clear hf hnm hi hfi hrv
    go_enter Tryz.func39, Tryz.ntmps39
    go_wp2_with (first
      | (go_at_call 86; refine HF.out.mono ?_; rintro e w1 ⟨rfl, q, rfl⟩; have hc2 : (w.drewN q).cell? ⟨i, 1, none⟩ = some (.slice A (s.files i).bytes.length c) := hc1'; have HQ : Hid (∃ q', w.drewN q = w.drewN q') := hide ⟨q, rfl⟩; generalize w.drewN q = w1 at *; simp only [errR, fileV])
      | fail)
    go_returns
    exact ⟨rfl, HQ.out⟩

set_option maxRecDepth 100000 in
theorem synced_any (Bd : Nat) (s : Dk.St) (S : Nat → Prop) (p : Nat → Addr) (k : Dk.Nm) (w : World) (hs : SentsD w p) (h : IsDisk w Bd s S) (hk : k.length ≤ 9223372036854775807) :
    Calls Tryz.prog 79 #[.pointer (some ⟨Bd, 0, none⟩), encStr k] w fun e w' => e = .returned (.tuple #[.int .i64 (s.syncedOf k), errR p (s.find k).1]) ∧ ∃ q, w' = w.drewN q := by
  obtain ⟨nb, db, sv, ids, row, h⟩ := h
  have HF := hide (find_any Bd nb db sv ids row s S p k w hs h hk)
  have HD := hide h
  obtain ⟨r, hr⟩ : ∃ r, r = s.syncedOf k := ⟨_, rfl⟩
  rw [← hr]
  unfold Dk.St.syncedOf at hr
  clear h hs
  rcases find_cases s k with ⟨j, hf⟩ | ⟨i, hf, hnm⟩
  · rw [hf] at hr HF ⊢
    simp only at hr HF ⊢
    subst hr
    have hne := fun w' => neq_nilD (p j) w'
    unfold errV at hne
    clear hf
    go_enter Tryz.func79, Tryz.ntmps79
    go_wp2_with (first
      | (go_at_call 86; refine HF.out.mono ?_; rintro e w1 ⟨rfl, q, hq⟩; simp only [errR, errV, fileV])
      | fail)
    go_returns
    exact ⟨rfl, q, rfl⟩
  · rw [hf] at hr HF ⊢
    simp only at hr HF ⊢
    subst hr
    have hi := (HD.out.nref k i hnm).1
    have hfi := HD.out.file i hi
    have hc1' : w.cell? ⟨i, 2, none⟩ = some (.int .i64 ((s.files i).synced : Int)) := box_cell hfi.box 2
    clear hf hnm hi hfi
    go_enter Tryz.func79, Tryz.ntmps79
    go_wp2_with (first
      | (go_at_call 86; refine HF.out.mono ?_; rintro e w1 ⟨rfl, q, rfl⟩; have hc2 : (w.drewN q).cell? ⟨i, 2, none⟩ = some (.int .i64 ((s.files i).synced : Int)) := hc1'; have HQ : Hid (∃ q', w.drewN q = w.drewN q') := hide ⟨q, rfl⟩; generalize w.drewN q = w1 at *; simp only [errR, fileV])
      | fail)
    go_returns
    exact ⟨rfl, HQ.out⟩

end Go.Proofs.YtfdppggdgdnnaaaGreatDoor

namespace Go.Proofs.YtfdppggdgdnnaaaGreatDoor
open Go.RowKit Go.Maps

/-- Numbers that are read from a row. -/
structure IntsArg (w : World) (A : Option Addr) (c : Nat) (zs : List Int) : Prop where
  le : zs.length ≤ c
  max : c ≤ 9223372036854775807
  nil : A = none → c = 0
  get : ∀ j, j < zs.length → ∃ b off, A = some ⟨b, off, none⟩ ∧ w.cell? ⟨b, off + j, none⟩ = some (.int .i64 (zs.getD j 0))
  fit : ∀ z ∈ zs, -9223372036854775808 ≤ z ∧ z ≤ 9223372036854775807

theorem pick_eq (v : Int) (m : Nat) : (if v.tmod ((m : Int) + 1) < 0 then v.tmod ((m : Int) + 1) + ((m : Int) + 1) else v.tmod ((m : Int) + 1)) = ((v % ((m : Int) + 1)).toNat : Int) := by
  have h1 := Int.emod_nonneg v (show ((m : Int) + 1) ≠ 0 by omega)
  have h2 := Int.emod_lt_of_pos v (show (0 : Int) < (m : Int) + 1 by omega)
  have h3 := Int.tmod_eq_emod (a := v) (b := (m : Int) + 1)
  have h4 : ((m : Int) + 1).natAbs = m + 1 := by omega
  rw [h4] at h3
  generalize v % ((m : Int) + 1) = x at *
  generalize v.tmod ((m : Int) + 1) = y at *
  split at h3 <;> split <;> omega

set_option maxRecDepth 100000 in
theorem pick_any (A : Option Addr) (c n : Nat) (zs : List Int) (i most : Nat) (w : World) (h : IntsArg w A c zs) (hn : zs.length = n) (_hi : i ≤ 1099511627776) (hm : most ≤ 1099511627776) :
    Calls Tryz.prog 82 #[.slice A n c, .int .i64 (i : Int), .int .i64 (most : Int)] w fun e w' => e = .returned (.int .i64 ((Dk.pick zs i most : Nat) : Int)) ∧ w' = w := by
  have hw1 : IntKind.i64.wrap ((most : Int) + 1) = (most : Int) + 1 := IntWalk.i64_in _ (by omega)
  by_cases hlt : i < n
  · obtain ⟨b, off, rfl, hc⟩ := h.get i (by omega)
    have hv := h.fit (zs.getD i 0) (by rw [show zs.getD i 0 = zs[i]'(by omega) from by simp [List.getD, show i < zs.length by omega]]; exact List.getElem_mem _)
    have hp : ((Dk.pick zs i most : Nat) : Int) = ((zs.getD i 0 % ((most : Int) + 1)).toNat : Int) := by
      unfold Dk.pick; rw [if_pos (by omega)]
    have hq := pick_eq (zs.getD i 0) most
    have hl := h.le
    have hx := h.max
    have h0 : ((most : Int) + 1 == 0) = false := by rw [beq_eq_false_iff_ne]; omega
    have hd : decide ((n : Int) ≤ (i : Int)) = false := by simp; omega
    generalize ((Dk.pick zs i most : Nat) : Int) = P at *
    generalize zs.getD i 0 = v at *
    have hb := Int.lt_tmod_of_pos v (show (0 : Int) < (most : Int) + 1 by omega)
    have hb2 := Int.tmod_lt_of_pos v (show (0 : Int) < (most : Int) + 1 by omega)
    have HQ := hide (hp.trans hq.symm)
    clear hp hq h
    subst hn
    by_cases hneg : v.tmod ((most : Int) + 1) < 0
    · have d1 : decide (v.tmod ((most : Int) + 1) < 0) = true := by simp [hneg]
      have hw2 : IntKind.i64.wrap (v.tmod ((most : Int) + 1) + ((most : Int) + 1)) = v.tmod ((most : Int) + 1) + ((most : Int) + 1) := IntWalk.i64_in _ (by omega)
      have hw3 : IntKind.i64.wrap (v.tmod ((most : Int) + 1)) = v.tmod ((most : Int) + 1) := IntWalk.i64_in _ (by omega)
      go_enter Tryz.func82, Tryz.ntmps82
      go_wp2_with fail
      go_ret
      exact ⟨by rw [HQ.out, if_pos hneg]; rfl, rfl⟩
    · have d1 : decide (v.tmod ((most : Int) + 1) < 0) = false := by simp; omega
      have hw3 : IntKind.i64.wrap (v.tmod ((most : Int) + 1)) = v.tmod ((most : Int) + 1) := IntWalk.i64_in _ (by omega)
      go_enter Tryz.func82, Tryz.ntmps82
      go_wp2_with fail
      go_ret
      exact ⟨by rw [HQ.out, if_neg (by omega)]; rfl, rfl⟩
  · have hp : Dk.pick zs i most = 0 := by unfold Dk.pick; rw [if_neg (by omega)]
    have hd : decide ((n : Int) ≤ (i : Int)) = true := by simp; omega
    rw [hp]
    clear h
    go_enter Tryz.func82, Tryz.ntmps82
    go_wp2_with fail
    go_ret
    exact ⟨rfl, rfl⟩

set_option maxRecDepth 100000 in
theorem new_bad (room : Int) (p : Nat → Addr) (w : World) (hs : SentsD w p) (hr : room < 1 ∨ 4194304 < room) :
    Calls Tryz.prog 41 #[.int .i64 room] w fun e w' => e = .returned (.tuple #[.pointer none, errR p (some 4)]) ∧ ∃ q, w' = w.drewN q := by
  have g4 := hs.c4
  clear hs
  by_cases h1 : room < 1
  · have d1 : decide (room < 1) = true := by simp [h1]
    go_enter Tryz.func41, Tryz.ntmps41
    go_wp2_with fail
    go_quiet (fail)
    go_wp2_with fail
    go_returns
    exact ⟨rfl, nq, rfl⟩
  · have d1 : decide (room < 1) = false := by simp; omega
    have h2 : 4194304 < room := by omega
    have d2 : decide (4194304 < room) = true := by simp [h2]
    go_enter Tryz.func41, Tryz.ntmps41
    go_wp2_with fail
    go_quiet (fail)
    go_wp2_with fail
    go_returns
    exact ⟨rfl, nq, rfl⟩
set_option maxRecDepth 100000 in
theorem new_any (room : Int) (w : World) (h1 : 1 ≤ room) (h2 : room ≤ 4194304) :
    Calls Tryz.prog 41 #[.int .i64 room] w fun e w' => ∃ Bd, e = .returned (.tuple #[.pointer (some ⟨Bd, 0, none⟩), .nilIface]) ∧ w.heap.size ≤ Bd ∧ IsDisk w' Bd (Dk.St.new room) (fun k => w.heap.size ≤ k ∧ k < w'.heap.size) ∧ Below w.heap.size w w' := by
  have d1 : decide (room < 1) = false := by simp; omega
  have d2 : decide (4194304 < room) = false := by simp; omega
  have mk : ∀ W, (Instr.makeMap 123 none).run Tryz.prog W = .ok (.map (some W.heap.size)) (W.alloc (.map #[] 0)) := fun W => rfl
  go_enter Tryz.func41, Tryz.ntmps41
  go_wp2_with fail
  go_returns
  have ha := NamesAt.made w
  have hb := NamesAt.made (w.alloc (.map #[] 0))
  have b1 : Below w.heap.size w (w.alloc (.map #[] 0)) := balloc (Below.refl _ _) _
  have z1 : (w.alloc (.map #[] 0)).heap.size = w.heap.size + 1 := by simp
  generalize w.alloc (.map #[] 0) = W1 at *
  have b2 : Below W1.heap.size W1 (W1.alloc (.map #[] 0)) := balloc (Below.refl _ _) _
  have z2 : (W1.alloc (.map #[] 0)).heap.size = W1.heap.size + 1 := by simp
  generalize W1.alloc (.map #[] 0) = W2 at *
  refine ⟨w.heap.size + 1 + 1, rfl, by omega, ⟨w.heap.size, w.heap.size + 1, .slice none 0 0, [], fun _ => .nilIface, ?_⟩, ?_⟩
  · have b3 : Below W2.heap.size W2 (W2.alloc (.cells #[.int .i64 room, .map (some w.heap.size), .map (some (w.heap.size + 1)), .slice none 0 0, .int .i64 0, .int .i64 0, .int .i64 0, .bool false] 126)) := balloc (Below.refl _ _) _
    have hn := heap_alloc_new W2 (.cells #[.int .i64 room, .map (some w.heap.size), .map (some (w.heap.size + 1)), .slice none 0 0, .int .i64 0, .int .i64 0, .int .i64 0, .bool false] 126)
    have z3 : (W2.alloc (.cells #[.int .i64 room, .map (some w.heap.size), .map (some (w.heap.size + 1)), .slice none 0 0, .int .i64 0, .int .i64 0, .int .i64 0, .bool false] 126)).heap.size = W2.heap.size + 1 := by simp
    generalize W2.alloc (.cells #[.int .i64 room, .map (some w.heap.size), .map (some (w.heap.size + 1)), .slice none 0 0, .int .i64 0, .int .i64 0, .int .i64 0, .bool false] 126) = W3 at *
    rw [z2, z1] at hn
    rw [z1] at hb
    exact { box := hn, names := ha.same ((b3.block _ (by omega)).trans (b2.block _ (by omega))), dur := ⟨0, hb.same (b3.block _ (by omega)), Nat.le_refl _⟩, ne := by omega, since := World.ownsRow_nil _ _ _ _, nodup := List.nodup_nil, file := fun i hi => absurd hi List.not_mem_nil, apart := fun i hi => absurd hi List.not_mem_nil, nref := fun k i hk => (by cases hk), dref := fun k i hk => (by cases hk), sref := fun m hm => absurd hm List.not_mem_nil, calls := Int.le_refl _, mBd := (by show _ ∧ _; omega), mnb := (by show _ ∧ _; omega), mdb := (by show _ ∧ _; omega), msv := fun g hg => (by cases hg), mid := fun i hi => absurd hi List.not_mem_nil, mrow := fun i hi => absurd hi List.not_mem_nil }
  · exact (b1.trans (b2.mono (by omega))).trans ((balloc (Below.refl _ _) _ : Below W2.heap.size W2 _).mono (by omega))
end Go.Proofs.YtfdppggdgdnnaaaGreatDoor

namespace Go.Proofs.YtfdppggdgdnnaaaGreatDoor
open Go.RowKit Go.Maps

theorem map_type : Tryz.prog.underlying 123 = some (.map 9 128) := by kernel_rfl
set_option maxRecDepth 100000 in
/-- No map that is there equals nil. -/
theorem map_not_nil (b : Nat) (w : World) : (binOp .eql 123 (.map (some b)) (.map none)).run Tryz.prog w = .ok (.bool false) w := by
  have h : ∀ d : Nat, (Op.equalIn (d + 1) 123 (.map (some b)) (.map none)).run Tryz.prog w = .ok false w := fun d => by simp [Op.equalIn, run_underlying map_type]
  simp only [binOp]
  simp [Op.equal, Op.maxDepth, h 9999]
set_option maxRecDepth 100000 in
/-- The map within an interface. -/
theorem map_within (b : Nat) (xT : TypeId) (w : World) : (Instr.typeAssert (.iface 123 (.map (some b))) xT 123 false).run Tryz.prog w = .ok (.map (some b)) w := by
  simp [Instr.typeAssert, run_underlying map_type, go_sem, Result.andThen]
set_option maxRecDepth 100000 in
/-- What the model's own clone does at a map. -/
theorem map_twin (b : Nat) (es : Array MapEntry) (clock : Nat) (w : World) (h : w.heap[b]? = some (.map es clock)) :
    (callFunc 113 #[.iface 123 (.map (some b))]).run Tryz.prog w = .ok (.value (.iface 123 (.map (some w.heap.size)))) (w.alloc (.map es clock)) := by
  rw [run_callFunc_extern Tryz.func113 (by kernel_rfl) (by kernel_rfl) (by kernel_rfl) (e := Extern.MapsClone.clone) (by kernel_rfl)]
  have e : (Extern.MapsClone.clone #[.iface 123 (.map (some b))]).run Tryz.prog w = .ok (.iface 123 (.map (some w.heap.size))) (w.alloc (.map es clock)) := by
    show ((getObj b >>= _ : Sem Value)).run Tryz.prog w = _
    rw [Sem.run_bind, MapKept.run_getObj_map h]
    rfl
  rw [e]
  rfl

set_option maxRecDepth 100000 in
theorem mapClone_any (b n : Nat) (f : Dk.Dir) (w : World) (h : NamesAt w b n f) :
    Calls Tryz.prog 83 #[.map (some b)] w fun e w' => e = .returned (.map (some w.heap.size)) ∧ NamesAt w' w.heap.size n f ∧ Below w.heap.size w w' ∧ w'.heap.size = w.heap.size + 1 := by
  obtain ⟨D, ⟨es, clock, hb, hF, hs, hD⟩, hat⟩ := h.ex
  have hlt := h.lt
  have hq := fun W => map_not_nil b W
  have hw := fun (i : Nat) (xT : TypeId) (W : World) => map_within i xT W
  have HN : Hid (NamesAt (w.alloc (.map es clock)) w.heap.size n f) := hide ⟨D, ⟨es, clock, heap_alloc_new _ _, hF, hs, hD⟩, hat⟩
  have hc := map_twin b es clock w hb
  clear h hF hs hD hat hb
  go_enter Tryz.func83, Tryz.ntmps83
  go_wp2_with fail
  go_ret
  exact ⟨rfl, HN.out, balloc (Below.refl _ _) _, by simp⟩
end Go.Proofs.YtfdppggdgdnnaaaGreatDoor

namespace Go.Proofs.YtfdppggdgdnnaaaGreatDoor
open Go.RowKit Go.Maps

def cmpI (a b : Int) : Int := if a < b then -1 else if b < a then 1 else 0

set_option maxRecDepth 100000 in
theorem isNaN_any (a : Int) (w : World) : Calls Tryz.prog 134 #[.int .i64 a] w fun e w' => e = .returned (.bool false) ∧ w' = w := by
  go_enter Tryz.func134, Tryz.ntmps134
  go_wp2_with fail
  go_ret
  exact ⟨rfl, rfl⟩

set_option maxRecDepth 100000 in
theorem cmp_any (a b : Int) (w : World) : Calls Tryz.prog 117 #[.int .i64 a, .int .i64 b] w fun e w' => e = .returned (.int .i64 (cmpI a b)) ∧ w' = w := by
  obtain ⟨c, hc⟩ : ∃ c, c = cmpI a b := ⟨_, rfl⟩
  rw [← hc]
  unfold cmpI at hc
  by_cases h1 : a < b
  · rw [if_pos h1] at hc
    subst hc
    have d1 : decide (a < b) = true := by simp [h1]
    go_enter Tryz.func117, Tryz.ntmps117
    go_wp2_with (first
      | (go_at_call 134; refine (isNaN_any _ _).mono ?_; rintro e w1 ⟨rfl, rfl⟩)
      | fail)
    go_ret
    exact ⟨rfl, rfl⟩
  · rw [if_neg h1] at hc
    have d1 : decide (a < b) = false := by simp; omega
    by_cases h2 : b < a
    · rw [if_pos h2] at hc
      subst hc
      have d2 : decide (b < a) = true := by simp [h2]
      go_enter Tryz.func117, Tryz.ntmps117
      go_wp2_with (first
        | (go_at_call 134; refine (isNaN_any _ _).mono ?_; rintro e w1 ⟨rfl, rfl⟩)
        | fail)
      go_ret
      exact ⟨rfl, rfl⟩
    · rw [if_neg h2] at hc
      subst hc
      have d2 : decide (b < a) = false := by simp; omega
      go_enter Tryz.func117, Tryz.ntmps117
      go_wp2_with (first
        | (go_at_call 134; refine (isNaN_any _ _).mono ?_; rintro e w1 ⟨rfl, rfl⟩)
        | fail)
      go_ret
      exact ⟨rfl, rfl⟩

set_option maxRecDepth 100000 in
theorem elder_any (i j : Nat) (a b : Int) (w : World) (hi : w.cell? ⟨i, 0, none⟩ = some (.int .i64 a)) (hj : w.cell? ⟨j, 0, none⟩ = some (.int .i64 b)) :
    Calls Tryz.prog 116 #[.pointer (some ⟨i, 0, none⟩), .pointer (some ⟨j, 0, none⟩)] w fun e w' => e = .returned (.int .i64 (cmpI a b)) ∧ ∃ q, w' = w.drewN q := by
  go_enter Tryz.func116, Tryz.ntmps116
  go_wp2_with fail
  go_quiet ((go_at_call 117; exact Calls.quiet_of_same (cmp_any _ _ _)))
  go_wp2_with fail
  go_ret
  exact ⟨rfl, nq, rfl⟩
end Go.Proofs.YtfdppggdgdnnaaaGreatDoor

namespace Go.Proofs.YtfdppggdgdnnaaaGreatDoor
open Go.RowKit Go.Maps

theorem run_eql_bytes_nil (A : Option Addr) (n c : Nat) (w : World) : (binOp .eql 32 (.slice A n c) (.slice none 0 0)).run Tryz.prog w = .ok (.bool A.isNone) w := by
  have ht : Tryz.prog.underlying 32 = some (.slice 5) := by kernel_rfl
  have h : ∀ d : Nat, (Op.equalIn (d + 1) 32 (.slice A n c) (.slice none 0 0)).run Tryz.prog w = .ok A.isNone w := fun d => by cases A <;> simp [Op.equalIn, run_underlying ht]
  simp only [binOp]
  simp [Op.equal, Op.maxDepth, h 9999]
theorem Own.none_yet (w : World) (base : Nat) (hb : base ≤ w.heap.size) : Own (w.alloc (.cells #[] 5)) base (.slice (some ⟨w.heap.size, 0, none⟩) 0 0) [] :=
  World.ownsRow_made w #[] 0 hb (Nat.zero_le _) rfl

/-- A copy in a row of its own. -/
theorem bclone_any (A : Option Addr) (cap n : Nat) (l : List UInt8) (w : World) (hn : l.length = n) (hl : n ≤ 1000000000) (ha : Arg w A cap l) :
    Calls Tryz.prog 118 #[.slice A n cap] w fun e w' => ∃ v, e = .returned v ∧ Own w' w.heap.size v l ∧ Below w.heap.size w w' := by
  have ks := fun W => run_eql_bytes_nil A n cap W
  cases A with
  | none =>
    have h0 : l = [] := by
      have := ha.nil rfl
      have := ha.le
      exact List.eq_nil_of_length_eq_zero (by omega)
    subst h0
    obtain rfl : n = 0 := hn.symm
    have hc := ha.nil rfl
    subst hc
    clear ha hn
    go_enter Tryz.func118, Tryz.ntmps118
    go_wp2_with fail
    go_ret
    exact ⟨_, rfl, Own.nil _ _, Below.refl _ _⟩
  | some a =>
    have HA := hide ha
    have HN := hide hn
    have HO := hide (Own.none_yet w w.heap.size (Nat.le_refl _))
    clear ha hn
    go_enter Tryz.func118, Tryz.ntmps118
    go_wp2_with (at_builtin; refine wpList_app (w := w.alloc _) rfl (.tmp 5) (.tmp 6) rfl w.heap.size _ [] l rfl HO.out (some a) n cap rfl HN.out (HA.out.reads.alloc _) (by simp; omega) (by simp) ?_; intro v w3 hown3 hg3 hv3)
    have hb : Below w.heap.size w w3 := (balloc (Below.refl _ _) _).grown hg3 (by simp) (fun g hg => (HO.out.lt g hg).1)
    rw [List.nil_append] at hown3
    go_ret
    exact ⟨v, rfl, hown3, hb⟩

/-- What a file holds from a place on. -/
def Dk.St.readOf (s : Dk.St) (k : Dk.Nm) (a n : Int) : Option Nat × Dk.Nm :=
  match s.find k with
  | (some j, _) => (some j, [])
  | (none, none) => (none, [])
  | (none, some i) => if a < 0 ∨ n < 0 ∨ ((s.files i).bytes.length : Int) < a ∨ ((s.files i).bytes.length : Int) - a < n then (some 4, []) else (none, ((s.files i).bytes.drop a.toNat).take n.toNat)
theorem SentsOn.drewN {w : World} {p : Nat → Addr} (h : SentsD w p) (q : Nat) : SentsD (w.drewN q) p := ⟨fun j hj => h.cell j hj, fun j hj => h.blk j hj, h.ne⟩

set_option maxRecDepth 100000 in
set_option maxHeartbeats 1000000 in
theorem dRead_any (Bd : Nat) (s : Dk.St) (S : Nat → Prop) (p : Nat → Addr) (k : Dk.Nm) (a n : Int) (w : World) (hs : SentsD w p) (h : IsDisk w Bd s S) (hk : k.length ≤ 9223372036854775807) (hft : Dk.Fit s) (ha : -9223372036854775808 ≤ a ∧ a ≤ 9223372036854775807) :
    Calls Tryz.prog 87 #[.pointer (some ⟨Bd, 0, none⟩), encStr k, .int .i64 a, .int .i64 n] w fun e w' => ∃ v, e = .returned (.tuple #[v, errR p (s.readOf k a n).1]) ∧ Own w' w.heap.size v (s.readOf k a n).2 ∧ Below w.heap.size w w' := by
  obtain ⟨nb, db, sv, ids, row, h⟩ := h
  have HF := hide (find_any Bd nb db sv ids row s S p k w hs h hk)
  have HD := hide h
  have HSE := hide hs
  obtain ⟨r, hr⟩ : ∃ r, r = s.readOf k a n := ⟨_, rfl⟩
  rw [← hr]
  unfold Dk.St.readOf at hr
  clear h hs
  rcases find_cases s k with ⟨j, hf⟩ | ⟨i, hf, hnm⟩
  · rw [hf] at hr HF
    simp only at hr HF
    subst hr
    have hne := fun w' => neq_nilD (p j) w'
    unfold errV at hne
    clear hf
    go_enter Tryz.func87, Tryz.ntmps87
    go_wp2_with (first
      | (go_at_call 86; refine HF.out.mono ?_; rintro e w1 ⟨rfl, q, hq⟩; simp only [errR, errV, fileV])
      | fail)
    go_returns
    exact ⟨_, rfl, Own.nil _ _, (below_drewN (Below.refl w.heap.size w) q)⟩
  · rw [hf] at hr HF
    simp only at hr HF
    have hi := (HD.out.nref k i hnm).1
    have hfi := HD.out.file i hi
    obtain ⟨A, c, hrv, harg⟩ := hfi.row.arg
    have HA := hide harg
    have hc1 : w.cell? ⟨i, 1, none⟩ = some (row i) := box_cell hfi.box 1
    rw [hrv] at hc1
    have hlen := hft.file i
    clear hf hnm hi hfi hrv harg hft
    generalize (s.files i).bytes = B at *
    by_cases hbad : a < 0 ∨ n < 0 ∨ (B.length : Int) < a ∨ (B.length : Int) - a < n
    · rw [if_pos hbad] at hr
      subst hr
      by_cases h0 : a < 0
      · have d0 : decide (a < 0) = true := by simp [h0]
        go_enter Tryz.func87, Tryz.ntmps87
        go_wp2_with (first
          | (go_at_call 86; refine HF.out.mono ?_; rintro e w1 ⟨rfl, q, rfl⟩; have g4 := (HSE.out.drewN q).c4; have hc2 : (w.drewN q).cell? ⟨i, 1, none⟩ = some (.slice A B.length c) := hc1; have HB : Hid (Below w.heap.size w (w.drewN q)) := hide ((below_drewN (Below.refl w.heap.size w) q)); generalize w.drewN q = w1 at *; simp only [errR, fileV])
          | fail)
        go_quiet (fail)
        go_wp2_with fail
        go_returns
        exact ⟨_, rfl, Own.nil _ _, below_drewN HB.out nq⟩
      · have d0 : decide (a < 0) = false := by simp; omega
        obtain ⟨x, rfl⟩ : ∃ x : Nat, a = (x : Int) := ⟨a.toNat, by omega⟩
        by_cases h1 : n < 0
        · have d1 : decide (n < 0) = true := by simp [h1]
          go_enter Tryz.func87, Tryz.ntmps87
          go_wp2_with (first
            | (go_at_call 86; refine HF.out.mono ?_; rintro e w1 ⟨rfl, q, rfl⟩; have g4 := (HSE.out.drewN q).c4; have hc2 : (w.drewN q).cell? ⟨i, 1, none⟩ = some (.slice A B.length c) := hc1; have HB : Hid (Below w.heap.size w (w.drewN q)) := hide (below_drewN (Below.refl w.heap.size w) q); generalize w.drewN q = w1 at *; simp only [errR, fileV])
            | fail)
          go_quiet (fail)
          go_wp2_with fail
          go_returns
          exact ⟨_, rfl, Own.nil _ _, below_drewN HB.out nq⟩
        · have d1 : decide (n < 0) = false := by simp; omega
          by_cases h2 : B.length < x
          · have d2 : decide (B.length < x) = true := by simp [h2]
            go_enter Tryz.func87, Tryz.ntmps87
            go_wp2_with (first
              | (go_at_call 86; refine HF.out.mono ?_; rintro e w1 ⟨rfl, q, rfl⟩; have g4 := (HSE.out.drewN q).c4; have hc2 : (w.drewN q).cell? ⟨i, 1, none⟩ = some (.slice A B.length c) := hc1; have HB : Hid (Below w.heap.size w (w.drewN q)) := hide (below_drewN (Below.refl w.heap.size w) q); generalize w.drewN q = w1 at *; simp only [errR, fileV])
              | fail)
            go_quiet (fail)
            go_wp2_with fail
            go_returns
            exact ⟨_, rfl, Own.nil _ _, below_drewN HB.out nq⟩
          · have d2 : decide (B.length < x) = false := by simp; omega
            have hw1 : IntKind.i64.wrap ((B.length : Int) - (x : Int)) = (B.length : Int) - (x : Int) := IntWalk.i64_in _ (by omega)
            have h3 : (B.length : Int) - (x : Int) < n := by omega
            have d3 : decide ((B.length : Int) - (x : Int) < n) = true := by simp [h3]
            go_enter Tryz.func87, Tryz.ntmps87
            go_wp2_with (first
              | (go_at_call 86; refine HF.out.mono ?_; rintro e w1 ⟨rfl, q, rfl⟩; have g4 := (HSE.out.drewN q).c4; have hc2 : (w.drewN q).cell? ⟨i, 1, none⟩ = some (.slice A B.length c) := hc1; have HB : Hid (Below w.heap.size w (w.drewN q)) := hide (below_drewN (Below.refl w.heap.size w) q); generalize w.drewN q = w1 at *; simp only [errR, fileV])
              | fail)
            go_quiet (fail)
            go_wp2_with fail
            go_returns
            exact ⟨_, rfl, Own.nil _ _, below_drewN HB.out nq⟩
    · rw [if_neg hbad] at hr
      subst hr
      obtain ⟨x, rfl⟩ : ∃ x : Nat, a = (x : Int) := ⟨a.toNat, by omega⟩
      obtain ⟨m, rfl⟩ : ∃ m : Nat, n = (m : Int) := ⟨n.toNat, by omega⟩
      have hx : x + m ≤ B.length := by omega
      have d0 : decide ((x : Int) < 0) = false := by simp
      have d1 : decide ((m : Int) < 0) = false := by simp
      have d2 : decide (B.length < x) = false := by simp; omega
      have hw1 : IntKind.i64.wrap ((B.length : Int) - (x : Int)) = (B.length : Int) - (x : Int) := IntWalk.i64_in _ (by omega)
      have d3 : decide ((B.length : Int) - (x : Int) < (m : Int)) = false := by simp; omega
      have hw2 : IntKind.i64.wrap ((x : Int) + (m : Int)) = ((x + m : Nat) : Int) := by rw [IntWalk.i64_in _ (by omega)]; omega
      have hle := HA.out.le
      have hct := fun W => run_cut_lh W A B.length c x (x + m) (by omega) (by omega)
      rw [show x + m - x = m by omega] at hct
      have HCA : Hid (∀ W, Below w.heap.size w W → Calls Tryz.prog 118 #[.slice (cutA A c x) m (c - x)] W fun e w' => ∃ v, e = .returned v ∧ Own w' W.heap.size v ((B.drop x).take m) ∧ Below W.heap.size W w') := hide (fun W hW =>
        bclone_any _ _ _ _ W (by rw [List.length_take, List.length_drop]; omega) (by omega) (((HA.out.below hW (Nat.le_refl _)).cut x (by omega)).first m))
      clear hbad
      go_enter Tryz.func87, Tryz.ntmps87
      go_wp2_with (first
        | (go_at_call 86; refine HF.out.mono ?_; rintro e w1 ⟨rfl, q, rfl⟩; have hc2 : (w.drewN q).cell? ⟨i, 1, none⟩ = some (.slice A B.length c) := hc1; have HB : Hid (Below w.heap.size w (w.drewN q)) := hide (below_drewN (Below.refl w.heap.size w) q); have HCW := hide (HCA.out _ HB.out); have HZ : Hid ((w.drewN q).heap.size = w.heap.size) := hide rfl; generalize w.drewN q = w1 at *; simp only [errR, fileV])
        | (go_at_call 118; refine HCW.out.mono ?_; rintro e w2 ⟨v, rfl, hown, hb2⟩)
        | fail)
      all_goals
        go_returns
        exact ⟨_, rfl, by have h9 := hown; rw [HZ.out] at h9; exact h9, HB.out.trans (hb2.mono HB.out.size)⟩
end Go.Proofs.YtfdppggdgdnnaaaGreatDoor
