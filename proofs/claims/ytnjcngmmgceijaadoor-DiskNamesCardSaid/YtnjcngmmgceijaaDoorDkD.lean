/-
  A move is done, and kept: the disk's do.
-/
import Derived.Test.YtnjcngmmgceijaaDoorDkR
import Derived.StillTailTactics
namespace Go.Proofs.YtnjcngmmgceijaaDoor
open Go.RowKit Go.Maps

/-- The disk's parts stand again behind a turn of its box, its maps and the row of its moves. -/
theorem DiskL.turn {w w' : World} {Bd nb db : Nat} {sv sv' : Value} {ids : List Nat} {row : Nat → Value} {s s' : Dk.St} {S S' : Nat → Prop} (h : DiskL w Bd nb db sv ids row s S)
    (hbox : w'.heap[Bd]? = some (.cells (diskCells s' nb db sv') 58 (0, 0))) (hn : NamesAt w' nb s'.calls.toNat s'.names) (hd : ∃ m, NamesAt w' db m s'.dur ∧ m + s'.since.length ≤ s'.calls.toNat)
    (hs : w'.ownsRow 0 69 3 sv' s'.since.length (s'.since.flatMap mvCells)) (hf : s'.files = s.files) (hk : ∀ i ∈ ids, w'.heap[i]? = w.heap[i]? ∧ ∀ g, (row i).ownBlock = some g → w'.heap[g]? = w.heap[g]?)
    (hnr : ∀ k i, s'.names k = some i → i ∈ ids ∧ k ≠ [] ∧ k.length ≤ 64) (hdr : ∀ k i, s'.dur k = some i → i ∈ ids ∧ k ≠ [] ∧ k.length ≤ 64)
    (hsr : ∀ m ∈ s'.since, (∀ i, m.file = some i → i ∈ ids) ∧ (m.to ≠ [] → m.file ≠ none) ∧ m.frm.length ≤ 64 ∧ m.to.length ≤ 64) (hc : 0 ≤ s'.calls) (hsv : ∀ g, sv'.ownBlock = some g → S' g) (hS : ∀ k, S k → S' k) : DiskL w' Bd nb db sv' ids row s' S' :=
  { box := hbox, names := hn, dur := hd, ne := h.ne, since := hs, nodup := h.nodup, file := fun i hi => (by rw [hf]; exact (h.file i hi).same (hk i hi).1 (hk i hi).2), apart := h.apart, nref := hnr, dref := hdr, sref := hsr, calls := hc, mBd := hS _ h.mBd, mnb := hS _ h.mnb, mdb := hS _ h.mdb, msv := hsv, mid := fun i hi => hS _ (h.mid i hi), mrow := fun i hi g hg => hS _ (h.mrow i hi g hg) }

set_option maxRecDepth 100000 in
set_option maxHeartbeats 1000000 in
theorem do_any (Bd nb db : Nat) (sv : Value) (ids : List Nat) (row : Nat → Value) (s : Dk.St) (S : Nat → Prop) (m : Dk.Mv) (w : World) (h : DiskL w Bd nb db sv ids row s S) (hc : s.calls ≤ 1099511627776)
    (h1 : m.frm.length ≤ 64) (h2 : m.to.length ≤ 64) (h3 : m.to ≠ [] → m.file ≠ none) (h4 : ∀ i, m.file = some i → i ∈ ids) :
    Calls Tryd.prog 33 #[.pointer (some ⟨Bd, 0, none⟩), mvV m] w fun e w' => e = .returned (.tuple #[]) ∧ (∃ sv', DiskL w' Bd nb db sv' ids row (s.doMove m) (Up S w w')) ∧ Chg S w w' := by
  obtain ⟨W, hW⟩ : ∃ W, W = w.alloc (.cells #[encStr m.frm, encStr m.to, fileV m.file] 69) := ⟨_, rfl⟩
  obtain ⟨m0, m1, m2⟩ := made3D w (encStr m.frm) (encStr m.to) (fileV m.file) 69
  rw [← hW] at m0 m1 m2
  have hwb : Below w.heap.size w W := by rw [hW]; exact balloc (Below.refl _ _) _
  have hd := h.kept (w' := W) fun k _ hk => hwb.block k hk
  have c1 : W.cell? ⟨Bd, 1, none⟩ = some (.map (some nb)) := box_cell hd.box 1
  have HIN := hide (fun W' (hw : NamesAt W' nb s.calls.toNat s.names) => in_any m nb s.calls.toNat s.names W' hw (by omega) h1 h2 h3)
  have HD := hide hd
  have HB := hide hwb
  have HW := hide hW
  have HSV := hide (fun g (hg : sv.ownBlock = some g) => (h.since.lt g hg).2)
  have HNB : Hid (w.heap.size ≠ nb) := hide (fun e => by have := h.names.lt; omega)
  clear h hd hwb hW
  go_enter Tryd.func33, Tryd.ntmps33
  go_upto_region 1 with fail
  rw [← HW.out]
  go_still_tail 5, (by kernel_rfl)
  change wpList _ _ _ _ _ W.drew
  have HNQ : Hid (NamesAt W.drew nb s.calls.toNat s.names) := hide (HD.out.names.same rfl)
  go_wp2_with (first
    | (go_at_call 50; refine (HIN.out _ HNQ.out).mono ?_; rintro e w2 ⟨rfl, hn2, hc2⟩)
    | fail)
  have hk2 : ∀ k, k < W.heap.size → k ≠ nb → w2.heap[k]? = W.heap[k]? := fun k hk hn => hc2.block k hk hn
  have lt : ∀ {w : World} {k : Nat} {o : Obj}, w.heap[k]? = some o → k < w.heap.size := fun h => (Array.getElem?_eq_some_iff.1 h).1
  have hbx2 := (hk2 Bd (lt HD.out.box) (fun e => map_ne HD.out.names HD.out.box e.symm)).trans HD.out.box
  have hzW : W.heap.size = w.heap.size + 1 := by rw [HW.out]; simp
  have hmb : W.heap[w.heap.size]? = some (.cells #[encStr m.frm, encStr m.to, fileV m.file] 69 (0, 0)) := by rw [HW.out]; exact heap_alloc_new _ _
  have hmb2 := (hk2 _ (lt hmb) HNB.out).trans hmb
  have y0 : w2.cell? ⟨w.heap.size, 0, none⟩ = some (encStr m.frm) := box_cell hmb2 0
  have y1 : w2.cell? ⟨w.heap.size, 1, none⟩ = some (encStr m.to) := box_cell hmb2 1
  have y2 : w2.cell? ⟨w.heap.size, 2, none⟩ = some (fileV m.file) := box_cell hmb2 2
  have hrow : w2.ownsRow 0 69 3 sv s.since.length (s.since.flatMap mvCells) := ownsRow_same HD.out.since fun g hg => by
    obtain ⟨cur, h2⟩ := rowBlock_at HD.out.since hg
    exact hk2 g (lt h2) (fun e => map_ne HD.out.names h2 e.symm)
  obtain ⟨Av, cv, rfl⟩ : ∃ Av cv, sv = .slice Av s.since.length cv := by
    rcases hrow.2 with ⟨e, h0⟩ | ⟨g, cap, cur, e, _⟩
    · exact ⟨none, 0, by rw [e, h0]⟩
    · exact ⟨_, _, e⟩
  have b3 : w2.cell? ⟨Bd, 3, none⟩ = some (.slice Av s.since.length cv) := box_cell hbx2 3
  have HK2 := hide hk2
  have HBX2 := hide hbx2
  have HROW := hide hrow
  have HN2 := hide hn2
  have HC2 := hide hc2
  have hnl : s.since.length ≤ s.calls.toNat := by obtain ⟨mm, _, hm⟩ := HD.out.dur; omega
  have hlb : Bd < w2.heap.size := lt HBX2.out
  have hlm : w.heap.size < w2.heap.size := by have h8 := HC2.out.size; have h9 : W.drew.heap.size = W.heap.size := rfl; omega
  have HNR : Hid (∀ k, RowR (.slice Av s.since.length cv) s.since.length k → (Value.slice Av s.since.length cv).ownBlock = some k) := hide (fun k ⟨cap, e, _⟩ => by rw [e]; rfl)
  have nrB : ¬ RowR (.slice Av s.since.length cv) s.since.length Bd := fun hr => by
    obtain ⟨cur, h2⟩ := rowBlock_at HROW.out (HNR.out _ hr)
    exact types_ne HBX2.out h2 (by decide) rfl
  have nrM : ¬ RowR (.slice Av s.since.length cv) s.since.length w.heap.size := fun hr => by have := HSV.out _ (HNR.out _ hr); omega
  have HRT : Hid (∀ k, RowR (.slice Av s.since.length cv) s.since.length k → k < w2.heap.size) := hide (fun k hr => (HROW.out.lt k (HNR.out k hr)).2)
  have hcl : s.since.length ≤ 1099511627776 := by have := HD.out.calls; omega
  refine wp_region_store (G := RowG w2 (.slice Av s.since.length cv) s.since.length m) (rowG_goes _ _ _ _) [10, 11, 12, 13, 14, 15, 16, 17, 18, 19] (fun d => match d with
    | 10 => .is (.pointer (some ⟨Bd, 0, none⟩)) | 11 => .is (.pointer (some ⟨Bd, 0, none⟩)) | 12 => .is (.pointer (some ⟨Bd, 0, none⟩)) | 13 => .is (.pointer (some ⟨Bd, 3, none⟩)) | 14 => .is (.slice Av s.since.length cv) | 15 => .is (mvV m)
    | 16 => ⟨fun v w' => ∃ g, v = .slice (some ⟨g, 0, none⟩) 1 1 ∧ ¬ RowR (.slice Av s.since.length cv) s.since.length g ∧ w'.cell? ⟨g, 0, none⟩ = some (encStr m.frm) ∧ w'.cell? ⟨g, 1, none⟩ = some (encStr m.to) ∧ w'.cell? ⟨g, 2, none⟩ = some (fileV m.file), fun v a b ⟨g, e, hn, k0, k1, k2⟩ hg => ⟨g, e, hn, hg.chg.cell k0 hn, hg.chg.cell k1 hn, hg.chg.cell k2 hn⟩⟩
    | 17 => ⟨fun v w' => RowOk w2 (.slice Av s.since.length cv) s.since.length s.since m v w', fun v a b h hg => h.st hg⟩
    | 18 => .is (.pointer (some ⟨Bd, 0, none⟩)) | 19 => .is (.pointer (some ⟨Bd, 3, none⟩)) | _ => .any) _ (by kernel_rfl) (by kernel_rfl) rfl (by kernel_rfl) ?_ ?_
  · simp only [List.size_toArray, List.length_cons, List.length_nil, List.take_succ_cons, List.take_zero, StepsH, Nat.reduceAdd, Nat.reduceSub]
    refine ⟨?_, ?_, ?_, ?_, ?_, ?_, ?_, ?_, ?_, ?_, trivial⟩
    all_goals
      intro ev w1 hb hev hd
      have ev0 : ev (.tmp 0) = .pointer (some ⟨Bd, 0, none⟩) := hev _ (by simp)
      have ev3 : ev (.tmp 3) = .pointer (some ⟨w.heap.size, 0, none⟩) := hev _ (by simp)
      have z3 := hb.chg.cell (w := w2.drew) (show w2.drew.cell? ⟨Bd, 3, none⟩ = _ from b3) nrB
      have z0 := hb.chg.cell (w := w2.drew) (show w2.drew.cell? ⟨w.heap.size, 0, none⟩ = _ from y0) nrM
      have z1 := hb.chg.cell (w := w2.drew) (show w2.drew.cell? ⟨w.heap.size, 1, none⟩ = _ from y1) nrM
      have z2 := hb.chg.cell (w := w2.drew) (show w2.drew.cell? ⟨w.heap.size, 2, none⟩ = _ from y2) nrM
      have hrf := (rowG_goes w2 (.slice Av s.since.length cv) s.since.length m).refl w1
      have HB1 := hide hb
      clear hev hb
      simp [DepsG, Held.is] at hd
      first
        | (obtain ⟨e14, g, e16, hng, k0, k1, k2⟩ := hd; have hb1 := HB1.out; obtain ⟨v', w', hrun, hG', hok⟩ := run_mvG w2 w1 (.slice Av s.since.length cv) s.since.length s.since m HROW.out ⟨⟨hb1.chg.os, hb1.chg.tape, hb1.chg.output, hb1.chg.size, hb1.chg.block⟩, hb1.row⟩ g hcl k0 k1 k2 56; unfold OpRuns execOp; simp only [resolve, invoke, builtin, Sem.run_bind, Sem.run_pure, Result.andThen_ok, List.map_toArray, List.map_cons, List.map_nil, e14, e16, hrun]; exact ⟨hG', hok⟩)
        | (set_option maxHeartbeats 40000 in simp [OpRuns, execOp, go_sem, Held.is, hrf, *]; done)
        | (set_option maxHeartbeats 40000 in simp [OpRuns, execOp, go_sem, Held.is, hrf, *])
    · refine ⟨⟨Chg.of_below (balloc (Below.refl _ _) _), fun k cur0 hr _ => .inl (Below.heap_alloc _ _ k (by have h8 := HRT.out k hr; have h9 := HB1.out.chg.size; have h10 : w2.drew.heap.size = w2.heap.size := rfl; omega))⟩, fun hr => by have h8 := HRT.out _ hr; have h9 := HB1.out.chg.size; have h10 : w2.drew.heap.size = w2.heap.size := rfl; omega⟩
  · intro f w4 hb hf
    have e19 : f 19 = .pointer (some ⟨Bd, 3, none⟩) := hf 19 (by simp)
    have e17 : RowOk w2 (.slice Av s.since.length cv) s.since.length s.since m (f 17) w4 := hf 17 (by simp)
    obtain ⟨hown4, hv4⟩ := e17.owns HROW.out
    obtain ⟨g', c', hfv⟩ := row_succD hown4
    have HOW4 := hide hown4
    have HV4 := hide hv4
    have HB4 := hide hb
    have hbx4 := (hb.chg.block Bd hlb nrB).trans HBX2.out
    have HBX4 := hide hbx4
    have z3 : w4.cell? ⟨Bd, 3, none⟩ = some (.slice Av s.since.length cv) := box_cell hbx4 3
    have z5 : w4.cell? ⟨Bd, 5, none⟩ = some (.int .i64 s.calls) := box_cell hbx4 5
    have u3 := box_free hbx4 3
    have u5 := box_free hbx4 5
    have hcw : IntKind.i64.wrap (s.calls + 1) = s.calls + 1 := IntWalk.i64_in _ (by have := HD.out.calls; omega)
    rw [hfv] at HOW4 HV4
    clear e17 hown4 hv4 hb hf hbx4
    simp only [puts, Act.put, List.setIfInBounds_toArray, List.set_cons_succ, List.set_cons_zero]
    rw [e19, hfv]
    clear e19 hfv
    generalize f 10 = f10
    generalize f 11 = f11
    generalize f 12 = f12
    generalize f 13 = f13
    generalize f 14 = f14
    generalize f 15 = f15
    generalize f 16 = f16
    generalize f 18 = f18
    clear f
    go_wp2_with fail
    go_end0
    have hb3 := heap_setCell_same w4 Bd 3 _ _ (.slice (some ⟨g', 0, none⟩) (s.since.length + 1) c') HBX4.out
    have hb5 := heap_setCell_same _ Bd 5 _ _ (.int .i64 (s.calls + 1)) hb3
    have ho5 : ∀ k, k ≠ Bd → ((w4.setCell ⟨Bd, 3, none⟩ (.slice (some ⟨g', 0, none⟩) (s.since.length + 1) c')).setCell ⟨Bd, 5, none⟩ (.int .i64 (s.calls + 1))).heap[k]? = w4.heap[k]? := fun k hk => by
      rw [Below.heap_setCell _ _ _ _ (by exact hk), Below.heap_setCell _ _ _ _ (by exact hk)]
    have hz5 : ((w4.setCell ⟨Bd, 3, none⟩ (.slice (some ⟨g', 0, none⟩) (s.since.length + 1) c')).setCell ⟨Bd, 5, none⟩ (.int .i64 (s.calls + 1))).heap.size = w4.heap.size := by simp
    have hcS : Chg S w ((w4.setCell ⟨Bd, 3, none⟩ (.slice (some ⟨g', 0, none⟩) (s.since.length + 1) c')).setCell ⟨Bd, 5, none⟩ (.int .i64 (s.calls + 1))) :=
      (((((Chg.of_below HB.out).then (show Chg S W W.drew from ⟨rfl, rfl, rfl, Nat.le_refl _, fun _ _ _ => rfl⟩)).then (HC2.out.mono fun b e => e ▸ HD.out.mnb)).then ((show Chg S w2 w2.drew from ⟨rfl, rfl, rfl, Nat.le_refl _, fun _ _ _ => rfl⟩).then (HB4.out.chg.mono fun b hr => HD.out.msv b (HNR.out b hr)))).then (Chg.setCell _ _ _ _ HD.out.mBd)).then (Chg.setCell _ _ _ _ HD.out.mBd)
    generalize (w4.setCell ⟨Bd, 3, none⟩ (.slice (some ⟨g', 0, none⟩) (s.since.length + 1) c')).setCell ⟨Bd, 5, none⟩ (.int .i64 (s.calls + 1)) = w5 at *
    have hcn := HD.out.calls
    have h24 : ∀ k, k < w2.heap.size → ¬ RowR (.slice Av s.since.length cv) s.since.length k → w4.heap[k]? = w2.heap[k]? := fun k hk hn => HB4.out.chg.block k hk hn
    have hz24 : w2.heap.size ≤ w4.heap.size := HB4.out.chg.size
    have hz02 : w.heap.size ≤ w2.heap.size := Nat.le_of_lt hlm
    have kcell : ∀ {k : Nat} {c : Array Value} {t : TypeId}, W.heap[k]? = some (.cells c t (0, 0)) → t ≠ 58 → t ≠ 69 → w5.heap[k]? = W.heap[k]? := fun {k c t} h1 h2 h3 => by
      have e2 := HK2.out k (lt h1) (fun e => map_ne HD.out.names h1 e.symm)
      have h1' := e2.trans h1
      rw [ho5 k (types_ne h1 HD.out.box h2), h24 k (lt h1') (fun hr => by
        obtain ⟨cur, h4⟩ := rowBlock_at HROW.out (HNR.out k hr)
        exact types_ne h1' h4 h3 rfl), e2]
    have kmap : ∀ {b n : Nat} {f : Dk.Dir}, NamesAt w2 b n f → NamesAt w5 b n f := fun {b n f} h1 => h1.same (by
      rw [ho5 b (map_ne h1 HBX2.out), h24 b h1.lt (fun hr => by
        obtain ⟨cur, h4⟩ := rowBlock_at HROW.out (HNR.out b hr)
        exact map_ne h1 h4 rfl)])
    obtain ⟨mm, hdur, hmm⟩ := HD.out.dur
    have hdur2 : NamesAt w2 db mm s.dur := hdur.same (HK2.out db hdur.lt HD.out.ne.symm)
    have hlen : (s.since ++ [m]).length = s.since.length + 1 := by simp
    refine ⟨rfl, ⟨_, HD.out.turn (s' := s.doMove m) (S' := Up S w w5) (by rw [hb5]; rfl) ?_ ⟨mm, kmap hdur2, ?_⟩ ?_ rfl ?_ ?_ HD.out.dref ?_ ?_ ?_ (fun k hk => .inl hk)⟩, hcS⟩
    · show NamesAt w5 nb (s.calls + 1).toNat (m.on s.names)
      rw [show (s.calls + 1).toNat = s.calls.toNat + 1 by omega]
      exact kmap HN2.out
    · show mm + (s.since ++ [m]).length ≤ (s.calls + 1).toNat
      rw [hlen]; omega
    · show w5.ownsRow 0 _ 3 _ (s.since ++ [m]).length _
      rw [hlen]
      refine ownsRow_same HOW4.out fun g hg => ho5 g fun e => ?_
      obtain ⟨cur, h4⟩ := rowBlock_at HOW4.out hg
      exact types_ne h4 HBX4.out (by decide) e
    · intro i hi
      have hfi := HD.out.file i hi
      refine ⟨kcell hfi.box (by decide) (by decide), fun g hg => ?_⟩
      obtain ⟨cur, h4⟩ := ownBlock_lt hfi.row hg
      exact kcell h4 (by decide) (by decide)
    · intro k i hk0
      have hk : m.on s.names k = some i := hk0
      clear hk0
      have hfr : ∀ k, (if m.frm = [] then s.names else Dk.upd s.names m.frm none) k = some i → i ∈ ids ∧ k ≠ [] ∧ k.length ≤ 64 := fun k hk => by
        split at hk
        · exact HD.out.nref k i hk
        · unfold Dk.upd at hk
          split at hk
          · cases hk
          · exact HD.out.nref k i hk
      unfold Dk.Mv.on at hk
      split at hk
      · exact hfr k hk
      · rename_i hto
        unfold Dk.upd at hk
        split at hk
        · rename_i e
          subst e
          exact ⟨h4 i hk, hto, h2⟩
        · exact hfr k hk
    · intro x hx
      rcases List.mem_append.1 (show x ∈ s.since ++ [m] from hx) with hx | hx
      · exact HD.out.sref x hx
      · obtain rfl := List.mem_singleton.1 hx
        exact ⟨h4, h3, h1, h2⟩
    · show 0 ≤ s.calls + 1
      omega
    · intro g hg
      rcases HV4.out g hg with h6 | h6
      · exact .inl (HD.out.msv g h6)
      · exact .inr ⟨by omega, by have := (HOW4.out.lt g hg).2; omega⟩
end Go.Proofs.YtnjcngmmgceijaaDoor
