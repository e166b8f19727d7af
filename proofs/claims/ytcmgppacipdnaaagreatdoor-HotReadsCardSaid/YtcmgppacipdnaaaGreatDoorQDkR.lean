/-
  A move is laid behind the row of a disk's moves: in its place, or in a new row; what that leaves of all else, however often it were done.
  A move is done, and kept: the disk's do.
-/
import Derived.Test.YtcmgppacipdnaaaGreatDoorQDk
import Derived.Test.YtcmgppacipdnaaaGreatDoorQRegG
import Derived.StillTailTactics
namespace Go.Proofs.YtcmgppacipdnaaaGreatDoor
open Go.RowKit Go.Maps

theorem mv_info : (Tryz.prog.info? 157).map (fun i => (i.zero, i.size, i.bytes)) = some (some (.agg #[.string ⟨#[]⟩, .string ⟨#[]⟩, .pointer none]), 3, 40) := by kernel_rfl
theorem mvCells_len (ms : List Dk.Mv) : (ms.flatMap mvCells).length = ms.length * 3 := by
  induction ms with
  | nil => rfl
  | cons m ms ih => rw [List.flatMap_cons, List.length_append, ih, List.length_cons]; simp [mvCells]; omega
theorem mvCells_one (m : Dk.Mv) : ∀ u ∈ mvCells m, u.oneCell' = true := fun u hu => by
  simp only [mvCells, List.mem_cons, List.not_mem_nil, or_false] at hu
  rcases hu with rfl | rfl | rfl
  · rfl
  · rfl
  · cases m.file <;> rfl
theorem row_succD {w : World} {base : Nat} {e : TypeId} {size n : Nat} {v : Value} {xs : List Value} (h : w.ownsRow base e size v (n + 1) xs) : ∃ g cap, v = .slice (some ⟨g, 0, none⟩) (n + 1) cap := by
  rcases h.2 with ⟨_, h0⟩ | ⟨g, cap, cur, e, _⟩
  · omega
  · exact ⟨g, cap, e⟩

def updRow (n : Nat) (m : Dk.Mv) (cur : Array Value) : Array Value := (cur.toList.take (n * 3) ++ mvCells m ++ cur.toList.drop (n * 3 + 3)).toArray
theorem updRow_size {n : Nat} {m : Dk.Mv} {cur : Array Value} (h : n * 3 + 3 ≤ cur.size) : (updRow n m cur).size = cur.size := by
  simp [updRow, mvCells]; omega
theorem updRow_idem {n : Nat} {m : Dk.Mv} {cur : Array Value} (h : n * 3 + 3 ≤ cur.size) : updRow n m (updRow n m cur) = updRow n m cur := by
  unfold updRow
  have h1 : (cur.toList.take (n * 3)).length = n * 3 := by simp; omega
  have h2 : (mvCells m).length = 3 := rfl
  congr 1
  simp only [List.append_assoc]
  congr 1
  · rw [List.take_append_of_le_length (by omega), List.take_take]; simp
  · congr 1
    rw [List.drop_append, List.drop_append, List.drop_eq_nil_of_le (by omega), List.drop_eq_nil_of_le (by omega)]
    simp [h1, h2]
theorem updRow_take {n : Nat} {m : Dk.Mv} {cur : Array Value} (h : n * 3 + 3 ≤ cur.size) : (updRow n m cur).toList.take ((n + 1) * 3) = cur.toList.take (n * 3) ++ mvCells m := by
  have h1 : (cur.toList.take (n * 3)).length = n * 3 := by simp; omega
  have h2 : (mvCells m).length = 3 := rfl
  have h3 : (cur.toList.take (n * 3) ++ mvCells m).length = (n + 1) * 3 := by rw [List.length_append, h1, h2]; omega
  show (cur.toList.take (n * 3) ++ mvCells m ++ cur.toList.drop (n * 3 + 3)).take ((n + 1) * 3) = _
  rw [List.take_append_of_le_length (by omega), List.take_of_length_le (by omega)]

/-- There is room in the row that sv tells. -/
def RowR (sv : Value) (n k : Nat) : Prop := ∃ cap, sv = .slice (some ⟨k, 0, none⟩) n cap ∧ n + 1 ≤ cap
/-- What the statement may do, however often. -/
structure RowG (w2 : World) (sv : Value) (n : Nat) (m : Dk.Mv) (a b : World) : Prop where
  chg : Chg (RowR sv n) a b
  row : ∀ k cur0, RowR sv n k → w2.heap[k]? = some (.cells cur0 157 (0, 0)) → (b.heap[k]? = a.heap[k]? ∨ b.heap[k]? = some (.cells (updRow n m cur0) 157 (0, 0)))
theorem rowG_goes (w2 : World) (sv : Value) (n : Nat) (m : Dk.Mv) : Goes (RowG w2 sv n m) :=
  ⟨fun w => ⟨Chg.refl _ w, fun _ _ _ _ => .inl rfl⟩, fun {a b c} h k => ⟨h.chg.then k.chg, fun x cur0 hx hc => by
    rcases k.row x cur0 hx hc with e | e
    · rcases h.row x cur0 hx hc with e2 | e2
      · exact .inl (e.trans e2)
      · exact .inr (e.trans e2)
    · exact .inr e⟩⟩
/-- The row with the move behind it. -/
def RowOk (w2 : World) (sv : Value) (n : Nat) (ms : List Dk.Mv) (m : Dk.Mv) (v : Value) (w : World) : Prop :=
  (∃ k cap cur0, sv = .slice (some ⟨k, 0, none⟩) n cap ∧ n + 1 ≤ cap ∧ v = .slice (some ⟨k, 0, none⟩) (n + 1) cap ∧ w2.heap[k]? = some (.cells cur0 157 (0, 0)) ∧ w.heap[k]? = some (.cells (updRow n m cur0) 157 (0, 0))) ∨
  (∃ g, w2.heap.size ≤ g ∧ v.ownBlock = some g ∧ w.ownsRow 0 157 3 v (n + 1) ((ms ++ [m]).flatMap mvCells) ∧ ¬ RowR sv n g)
theorem RowOk.st {w2 : World} {sv : Value} {n : Nat} {ms : List Dk.Mv} {m : Dk.Mv} {v : Value} {a b : World} (h : RowOk w2 sv n ms m v a) (hg : RowG w2 sv n m a b) : RowOk w2 sv n ms m v b := by
  rcases h with ⟨k, cap, cur0, h1, h2, h3, h4, h5⟩ | ⟨g, h1, h2, h3, h4⟩
  · refine .inl ⟨k, cap, cur0, h1, h2, h3, h4, ?_⟩
    rcases hg.row k cur0 ⟨cap, h1, h2⟩ h4 with e | e
    · exact e.trans h5
    · exact e
  · exact .inr ⟨g, h1, h2, ownsRow_same h3 fun x hx => by
      rw [h2] at hx; injection hx with hx; subst hx
      exact hg.chg.block _ (h3.lt _ h2).2 h4, h4⟩
theorem RowOk.owns {w2 : World} {sv : Value} {n : Nat} {ms : List Dk.Mv} {m : Dk.Mv} {v : Value} {w : World} (h : RowOk w2 sv n ms m v w) (hr : w2.ownsRow 0 157 3 sv n (ms.flatMap mvCells)) :
    w.ownsRow 0 157 3 v (n + 1) ((ms ++ [m]).flatMap mvCells) ∧ (∀ g, v.ownBlock = some g → sv.ownBlock = some g ∨ w2.heap.size ≤ g) := by
  rcases h with ⟨k, cap, cur0, h1, h2, h3, h4, h5⟩ | ⟨g, h1, h2, h3, h4⟩
  · rcases hr.2 with ⟨e, _⟩ | ⟨g, cap', cur, e, _, hh, hc, hm, hs, ht⟩
    · rw [e] at h1; cases h1
    · rw [h1] at e
      injection e with e1 e2 e3
      injection e1 with e1
      injection e1 with e1
      subst e1
      subst e3
      rw [h4] at hh
      injection hh with hh
      injection hh with hh _ _
      subst hh
      have hsz : n * 3 + 3 ≤ cur0.size := by rw [hs]; omega
      refine ⟨⟨by rw [mvCells_len, List.length_append]; have := hr.1; rw [mvCells_len] at this; simp; omega, .inr ⟨k, cap, updRow n m cur0, h3, Nat.zero_le _, h5, h2, hm, by rw [updRow_size hsz]; exact hs, ?_⟩⟩, fun g hg => by rw [h3] at hg; rw [h1]; exact .inl hg⟩
      rw [updRow_take hsz, ht, List.flatMap_append]
      simp
  · exact ⟨h3, fun x hx => by rw [h2] at hx; injection hx with hx; exact .inr (by omega)⟩

theorem run_mvG (w2 w1 : World) (sv : Value) (n : Nat) (ms : List Dk.Mv) (m : Dk.Mv) (hr : w2.ownsRow 0 157 3 sv n (ms.flatMap mvCells)) (hG : RowG w2 sv n m w2 w1) (g : Nat) (hlen : n ≤ 1099511627776)
    (c0 : w1.cell? ⟨g, 0, none⟩ = some (encStr m.frm)) (c1 : w1.cell? ⟨g, 1, none⟩ = some (encStr m.«to»)) (c2 : w1.cell? ⟨g, 2, none⟩ = some (fileV m.file)) (ty : TypeId) :
    ∃ v' w', (Builtin.append_ #[98, 98] ty #[sv, .slice (some ⟨g, 0, none⟩) 1 1]).run Tryz.prog w1 = .ok v' w' ∧ RowG w2 sv n m w1 w' ∧ RowOk w2 sv n ms m v' w' := by
  obtain ⟨i, hi, hz, hs1, hby⟩ := info_parts mv_info
  have hnews : ∀ (j : Nat) u, (mvCells m)[j]? = some u → w1.cell? ((⟨g, 0, none⟩ : Addr).add j) = some u := fun j u hu => by
    rw [Addr.add_lit]
    rcases j with _ | _ | _ | j
    · simp [mvCells] at hu; subst hu; exact c0
    · simp [mvCells] at hu; subst hu; exact c1
    · simp [mvCells] at hu; subst hu; exact c2
    · simp [mvCells] at hu
  by_cases hroom : ∃ k, RowR sv n k
  · obtain ⟨k, cap, rfl, hc⟩ := hroom
    rcases hr.2 with ⟨e, _⟩ | ⟨k', cap', cur, e, _, hh, hcn, hm, hs, ht⟩
    · cases e
    · injection e with e1 e2 e3
      injection e1 with e1
      injection e1 with e1
      subst e1
      subst e3
      have hsz : n * 3 + 3 ≤ cur.size := by rw [hs]; omega
      have hcur : ∃ cur1, w1.heap[k]? = some (.cells cur1 157 (0, 0)) ∧ updRow n m cur1 = updRow n m cur ∧ cur1.size = cur.size := by
        rcases hG.row k cur ⟨cap, rfl, hc⟩ hh with e | e
        · exact ⟨cur, e.trans hh, rfl, rfl⟩
        · exact ⟨_, e, updRow_idem hsz, updRow_size hsz⟩
      obtain ⟨cur1, hh1, hu1, hz1⟩ := hcur
      have hrun := run_append_room (P := Tryz.prog) w1 98 ty 157 i Tryz.underlying98 hi k n cap cur1 hh1 ⟨g, 0, none⟩ 1 1 (mvCells m) (by rw [hs1]; rfl) hnews (mvCells_one m) hc (by rw [hs1]; show n * 3 + 3 ≤ _; omega)
      have hcl : (cur1.toList.take (n * i.size) ++ mvCells m ++ cur1.toList.drop (n * i.size + (mvCells m).length)).toArray = updRow n m cur := by rw [hs1, ← hu1]; rfl
      rw [hcl] at hrun
      have hnew := setRow_heap w1 k cur1 (updRow n m cur) 157 (0, 0) hh1
      refine ⟨_, _, hrun, ⟨⟨rfl, rfl, rfl, by simp, fun x hx hn => setRow_other w1 k x _ (fun e => hn (by subst e; exact ⟨cap, rfl, hc⟩))⟩, fun x cur0 hx hc0 => ?_⟩, .inl ⟨k, cap, cur, rfl, hc, rfl, hh, hnew⟩⟩
      obtain ⟨cap2, e, _⟩ := hx
      injection e with e _ _
      injection e with e
      injection e with e
      subst e
      rw [hh] at hc0
      injection hc0 with hc0
      injection hc0 with hc0 _ _
      subst hc0
      exact .inr hnew
  · have hown1 : w1.ownsRow 0 157 3 sv n (ms.flatMap mvCells) := ownsRow_same hr fun g hg => hG.chg.block g (hr.lt g hg).2 (fun h => hroom ⟨g, h⟩)
    obtain ⟨v', w', hrun, hown', hgr, _, h5⟩ := run_append_own_at (P := Tryz.prog) w1 0 98 ty 157 i _ 3 40 Tryz.underlying98 hi hz hs1 hby rfl (by omega) sv n (ms.flatMap mvCells) hown1 ⟨g, 0, none⟩ 1 1 (mvCells m) rfl hnews (mvCells_one m) (by simp only [maxLen]; omega) (by omega) (Nat.zero_le _)
    have hnew : v'.ownBlock = some w1.heap.size ∧ w1.grownBy w' none := by
      rcases hown1.2 with ⟨rfl, _⟩ | ⟨k, cap, cur, rfl, _, hh, hcn, hm, hs, ht⟩
      · obtain ⟨g', c', rfl⟩ := row_succD hown'
        rcases h5 with h5 | h5
        · cases h5
        · exact ⟨h5, hgr⟩
      · have hcap : ¬ n + 1 ≤ cap := fun h => hroom ⟨k, cap, rfl, h⟩
        have hr2 := run_append_grow (P := Tryz.prog) w1 98 ty 157 i _ Tryz.underlying98 hi hz ⟨k, 0, none⟩ n cap (ms.flatMap mvCells) (by rw [hs1]; exact hown1.1) (hown1.cells (g := k) rfl) ⟨g, 0, none⟩ 1 1 (mvCells m) (by rw [hs1]; rfl) hnews (by omega) (by omega) (growslice_fits (by omega) (by rw [hby]; omega))
        have he := hrun.symm.trans hr2
        injection he with hv hw
        subst hw
        refine ⟨by rw [hv]; rfl, ⟨rfl, rfl, rfl, by simp, fun x hx _ => Below.heap_alloc w1.drew _ x hx⟩⟩
    refine ⟨v', w', hrun, ⟨Chg.of_grown hnew.2 (fun k e => by cases e), fun k _ hk => absurd ⟨k, hk⟩ hroom⟩, .inr ⟨w1.heap.size, hG.chg.size, hnew.1, ?_, fun h => hroom ⟨_, h⟩⟩⟩
    rw [List.flatMap_append]
    simpa using hown'
end Go.Proofs.YtcmgppacipdnaaaGreatDoor

namespace Go.Proofs.YtcmgppacipdnaaaGreatDoor
open Go.RowKit Go.Maps

/-- The disk's parts stand again behind a turn of its box, its maps and the row of its moves. -/
theorem DiskL.turn {w w' : World} {Bd nb db : Nat} {sv sv' : Value} {ids : List Nat} {row : Nat → Value} {s s' : Dk.St} {S S' : Nat → Prop} (h : DiskL w Bd nb db sv ids row s S)
    (hbox : w'.heap[Bd]? = some (.cells (diskCells s' nb db sv') 100 (0, 0))) (hn : NamesAt w' nb s'.calls.toNat s'.names) (hd : ∃ m, NamesAt w' db m s'.dur ∧ m + s'.since.length ≤ s'.calls.toNat)
    (hs : w'.ownsRow 0 157 3 sv' s'.since.length (s'.since.flatMap mvCells)) (hf : s'.files = s.files) (hk : ∀ i ∈ ids, w'.heap[i]? = w.heap[i]? ∧ ∀ g, (row i).ownBlock = some g → w'.heap[g]? = w.heap[g]?)
    (hnr : ∀ k i, s'.names k = some i → i ∈ ids ∧ k ≠ [] ∧ k.length ≤ 64) (hdr : ∀ k i, s'.dur k = some i → i ∈ ids ∧ k ≠ [] ∧ k.length ≤ 64)
    (hsr : ∀ m ∈ s'.since, (∀ i, m.file = some i → i ∈ ids) ∧ (m.«to» ≠ [] → m.file ≠ none) ∧ m.frm.length ≤ 64 ∧ m.«to».length ≤ 64) (hc : 0 ≤ s'.calls) (hsv : ∀ g, sv'.ownBlock = some g → S' g) (hS : ∀ k, S k → S' k) : DiskL w' Bd nb db sv' ids row s' S' :=
  { box := hbox, names := hn, dur := hd, ne := h.ne, since := hs, nodup := h.nodup, file := fun i hi => (by rw [hf]; exact (h.file i hi).same (hk i hi).1 (hk i hi).2), apart := h.apart, nref := hnr, dref := hdr, sref := hsr, calls := hc, mBd := hS _ h.mBd, mnb := hS _ h.mnb, mdb := hS _ h.mdb, msv := hsv, mid := fun i hi => hS _ (h.mid i hi), mrow := fun i hi g hg => hS _ (h.mrow i hi g hg) }

set_option maxRecDepth 100000 in
set_option maxHeartbeats 1000000 in
theorem do_any (Bd nb db : Nat) (sv : Value) (ids : List Nat) (row : Nat → Value) (s : Dk.St) (S : Nat → Prop) (m : Dk.Mv) (w : World) (h : DiskL w Bd nb db sv ids row s S) (hc : s.calls ≤ 1099511627776)
    (h1 : m.frm.length ≤ 64) (h2 : m.«to».length ≤ 64) (h3 : m.«to» ≠ [] → m.file ≠ none) (h4 : ∀ i, m.file = some i → i ∈ ids) :
    Calls Tryz.prog 191 #[.pointer (some ⟨Bd, 0, none⟩), mvV m] w fun e w' => e = .returned (.tuple #[]) ∧ (∃ sv', DiskL w' Bd nb db sv' ids row (s.doMove m) (Up S w w')) ∧ Chg S w w' := by
  obtain ⟨W, hW⟩ : ∃ W, W = w.alloc (.cells #[encStr m.frm, encStr m.«to», fileV m.file] 157) := ⟨_, rfl⟩
  obtain ⟨m0, m1, m2⟩ := made3D w (encStr m.frm) (encStr m.«to») (fileV m.file) 157
  rw [← hW] at m0 m1 m2
  have hwb : Below w.heap.size w W := by rw [hW]; exact balloc (Below.refl _ _) _
  have hd := h.kept (w' := W) fun k _ hk => hwb.block k hk
  have c1 : W.cell? ⟨Bd, 1, none⟩ = some (.map (some nb)) := box_cell hd.box 1
  have HIN := hide (fun W' (hw : NamesAt W' nb s.calls.toNat s.names) => mvIn_any m nb s.calls.toNat s.names W' hw (by omega) h1 h2 h3)
  have HD := hide hd
  have HB := hide hwb
  have HW := hide hW
  have HSV := hide (fun g (hg : sv.ownBlock = some g) => (h.since.lt g hg).2)
  have HNB : Hid (w.heap.size ≠ nb) := hide (fun e => by have := h.names.lt; omega)
  clear h hd hwb hW
  go_enter Tryz.func191, Tryz.ntmps191
  go_upto_region 1 with fail
  rw [← HW.out]
  go_still_tail 5, (by kernel_rfl)
  change wpList _ _ _ _ _ W.drew
  have HNQ : Hid (NamesAt W.drew nb s.calls.toNat s.names) := hide (HD.out.names.same rfl)
  go_wp2_with (first
    | (go_at_call 113; refine (HIN.out _ HNQ.out).mono ?_; rintro e w2 ⟨rfl, hn2, hc2⟩)
    | fail)
  have hk2 : ∀ k, k < W.heap.size → k ≠ nb → w2.heap[k]? = W.heap[k]? := fun k hk hn => hc2.block k hk hn
  have lt : ∀ {w : World} {k : Nat} {o : Obj}, w.heap[k]? = some o → k < w.heap.size := fun h => (Array.getElem?_eq_some_iff.1 h).1
  have hbx2 := (hk2 Bd (lt HD.out.box) (fun e => map_ne HD.out.names HD.out.box e.symm)).trans HD.out.box
  have hzW : W.heap.size = w.heap.size + 1 := by rw [HW.out]; simp
  have hmb : W.heap[w.heap.size]? = some (.cells #[encStr m.frm, encStr m.«to», fileV m.file] 157 (0, 0)) := by rw [HW.out]; exact heap_alloc_new _ _
  have hmb2 := (hk2 _ (lt hmb) HNB.out).trans hmb
  have y0 : w2.cell? ⟨w.heap.size, 0, none⟩ = some (encStr m.frm) := box_cell hmb2 0
  have y1 : w2.cell? ⟨w.heap.size, 1, none⟩ = some (encStr m.«to») := box_cell hmb2 1
  have y2 : w2.cell? ⟨w.heap.size, 2, none⟩ = some (fileV m.file) := box_cell hmb2 2
  have hrow : w2.ownsRow 0 157 3 sv s.since.length (s.since.flatMap mvCells) := ownsRow_same HD.out.since fun g hg => by
    obtain ⟨cur, h2⟩ := rowBlock_at HD.out.since hg
    exact hk2 g (lt h2) (fun e => map_ne HD.out.names h2 e.symm)
  obtain ⟨Av, cv, rfl⟩ : ∃ Av cv, sv = .slice Av s.since.length cv := by
    rcases hrow.2 with ⟨e, h0⟩ | ⟨g, cap, cur, e, _⟩
    · exact ⟨none, 0, by rw [e, h0]⟩
    · exact ⟨_, _, e⟩
  have b3 : w2.cell? ⟨Bd, 3, none⟩ = some (.slice Av s.since.length cv) := box_cell hbx2 3
  have HK2 := hide hk2
  have HBX2 := hide hbx2
  have HROW := hide hrow
  have HN2 := hide hn2
  have HC2 := hide hc2
  have hnl : s.since.length ≤ s.calls.toNat := by obtain ⟨mm, _, hm⟩ := HD.out.dur; omega
  have hlb : Bd < w2.heap.size := lt HBX2.out
  have hlm : w.heap.size < w2.heap.size := by have h8 := HC2.out.size; have h9 : W.drew.heap.size = W.heap.size := rfl; omega
  have HNR : Hid (∀ k, RowR (.slice Av s.since.length cv) s.since.length k → (Value.slice Av s.since.length cv).ownBlock = some k) := hide (fun k ⟨cap, e, _⟩ => by rw [e]; rfl)
  have nrB : ¬ RowR (.slice Av s.since.length cv) s.since.length Bd := fun hr => by
    obtain ⟨cur, h2⟩ := rowBlock_at HROW.out (HNR.out _ hr)
    exact types_ne HBX2.out h2 (by decide) rfl
  have nrM : ¬ RowR (.slice Av s.since.length cv) s.since.length w.heap.size := fun hr => by have := HSV.out _ (HNR.out _ hr); omega
  have HRT : Hid (∀ k, RowR (.slice Av s.since.length cv) s.since.length k → k < w2.heap.size) := hide (fun k hr => (HROW.out.lt k (HNR.out k hr)).2)
  have hcl : s.since.length ≤ 1099511627776 := by have := HD.out.calls; omega
  refine wp_region_store (G := RowG w2 (.slice Av s.since.length cv) s.since.length m) (rowG_goes _ _ _ _) [10, 11, 12, 13, 14, 15, 16, 17, 18, 19] (fun d => match d with
    | 10 => .is (.pointer (some ⟨Bd, 0, none⟩)) | 11 => .is (.pointer (some ⟨Bd, 0, none⟩)) | 12 => .is (.pointer (some ⟨Bd, 0, none⟩)) | 13 => .is (.pointer (some ⟨Bd, 3, none⟩)) | 14 => .is (.slice Av s.since.length cv) | 15 => .is (mvV m)
    | 16 => ⟨fun v w' => ∃ g, v = .slice (some ⟨g, 0, none⟩) 1 1 ∧ ¬ RowR (.slice Av s.since.length cv) s.since.length g ∧ w'.cell? ⟨g, 0, none⟩ = some (encStr m.frm) ∧ w'.cell? ⟨g, 1, none⟩ = some (encStr m.«to») ∧ w'.cell? ⟨g, 2, none⟩ = some (fileV m.file), fun v a b ⟨g, e, hn, k0, k1, k2⟩ hg => ⟨g, e, hn, hg.chg.cell k0 hn, hg.chg.cell k1 hn, hg.chg.cell k2 hn⟩⟩
    | 17 => ⟨fun v w' => RowOk w2 (.slice Av s.since.length cv) s.since.length s.since m v w', fun v a b h hg => h.st hg⟩
    | 18 => .is (.pointer (some ⟨Bd, 0, none⟩)) | 19 => .is (.pointer (some ⟨Bd, 3, none⟩)) | _ => .any) _ (by kernel_rfl) (by kernel_rfl) rfl (by kernel_rfl) ?_ ?_
  · simp only [List.size_toArray, List.length_cons, List.length_nil, List.take_succ_cons, List.take_zero, StepsH, Nat.reduceAdd, Nat.reduceSub]
    refine ⟨?_, ?_, ?_, ?_, ?_, ?_, ?_, ?_, ?_, ?_, trivial⟩
    all_goals
      intro ev w1 hb hev hd
      have ev0 : ev (.tmp 0) = .pointer (some ⟨Bd, 0, none⟩) := hev _ (by simp)
      have ev3 : ev (.tmp 3) = .pointer (some ⟨w.heap.size, 0, none⟩) := hev _ (by simp)
      have z3 := hb.chg.cell (w := w2.drew) (show w2.drew.cell? ⟨Bd, 3, none⟩ = _ from b3) nrB
      have z0 := hb.chg.cell (w := w2.drew) (show w2.drew.cell? ⟨w.heap.size, 0, none⟩ = _ from y0) nrM
      have z1 := hb.chg.cell (w := w2.drew) (show w2.drew.cell? ⟨w.heap.size, 1, none⟩ = _ from y1) nrM
      have z2 := hb.chg.cell (w := w2.drew) (show w2.drew.cell? ⟨w.heap.size, 2, none⟩ = _ from y2) nrM
      have hrf := (rowG_goes w2 (.slice Av s.since.length cv) s.since.length m).refl w1
      have HB1 := hide hb
      clear hev hb
      simp [DepsG, Held.is] at hd
      first
        | (obtain ⟨e14, g, e16, hng, k0, k1, k2⟩ := hd; have hb1 := HB1.out; obtain ⟨v', w', hrun, hG', hok⟩ := run_mvG w2 w1 (.slice Av s.since.length cv) s.since.length s.since m HROW.out ⟨⟨hb1.chg.os, hb1.chg.tape, hb1.chg.output, hb1.chg.size, hb1.chg.block⟩, hb1.row⟩ g hcl k0 k1 k2 98; unfold OpRuns execOp; simp only [resolve, invoke, builtin, Sem.run_bind, Sem.run_pure, Result.andThen_ok, List.map_toArray, List.map_cons, List.map_nil, e14, e16, hrun]; exact ⟨hG', hok⟩)
        | (set_option maxHeartbeats 40000 in simp [OpRuns, execOp, go_sem, Held.is, *]; done)
        | (set_option maxHeartbeats 40000 in simp [OpRuns, execOp, go_sem, *])
    · refine ⟨⟨Chg.of_below (balloc (Below.refl _ _) _), fun k cur0 hr _ => .inl (Below.heap_alloc _ _ k (by have h8 := HRT.out k hr; have h9 := HB1.out.chg.size; have h10 : w2.drew.heap.size = w2.heap.size := rfl; omega))⟩, fun hr => by have h8 := HRT.out _ hr; have h9 := HB1.out.chg.size; have h10 : w2.drew.heap.size = w2.heap.size := rfl; omega⟩
  · intro f w4 hb hf
    have e19 : f 19 = .pointer (some ⟨Bd, 3, none⟩) := hf 19 (by simp)
    have e17 : RowOk w2 (.slice Av s.since.length cv) s.since.length s.since m (f 17) w4 := hf 17 (by simp)
    obtain ⟨hown4, hv4⟩ := e17.owns HROW.out
    obtain ⟨g', c', hfv⟩ := row_succD hown4
    have HOW4 := hide hown4
    have HV4 := hide hv4
    have HB4 := hide hb
    have hbx4 := (hb.chg.block Bd hlb nrB).trans HBX2.out
    have HBX4 := hide hbx4
    have z3 : w4.cell? ⟨Bd, 3, none⟩ = some (.slice Av s.since.length cv) := box_cell hbx4 3
    have z5 : w4.cell? ⟨Bd, 5, none⟩ = some (.int .i64 s.calls) := box_cell hbx4 5
    have u3 := box_free hbx4 3
    have u5 := box_free hbx4 5
    have hcw : IntKind.i64.wrap (s.calls + 1) = s.calls + 1 := IntWalk.i64_in _ (by have := HD.out.calls; omega)
    rw [hfv] at HOW4 HV4
    clear e17 hown4 hv4 hb hf hbx4
    simp only [puts, Act.put, List.setIfInBounds_toArray, List.set_cons_succ, List.set_cons_zero]
    rw [e19, hfv]
    clear e19 hfv
    generalize f 10 = f10
    generalize f 11 = f11
    generalize f 12 = f12
    generalize f 13 = f13
    generalize f 14 = f14
    generalize f 15 = f15
    generalize f 16 = f16
    generalize f 18 = f18
    clear f
    go_wp2_with fail
    go_end0
    have hb3 := heap_setCell_same w4 Bd 3 _ _ (.slice (some ⟨g', 0, none⟩) (s.since.length + 1) c') HBX4.out
    have hb5 := heap_setCell_same _ Bd 5 _ _ (.int .i64 (s.calls + 1)) hb3
    have ho5 : ∀ k, k ≠ Bd → ((w4.setCell ⟨Bd, 3, none⟩ (.slice (some ⟨g', 0, none⟩) (s.since.length + 1) c')).setCell ⟨Bd, 5, none⟩ (.int .i64 (s.calls + 1))).heap[k]? = w4.heap[k]? := fun k hk => by
      rw [Below.heap_setCell _ _ _ _ (by exact hk), Below.heap_setCell _ _ _ _ (by exact hk)]
    have hz5 : ((w4.setCell ⟨Bd, 3, none⟩ (.slice (some ⟨g', 0, none⟩) (s.since.length + 1) c')).setCell ⟨Bd, 5, none⟩ (.int .i64 (s.calls + 1))).heap.size = w4.heap.size := by simp
    have hcS : Chg S w ((w4.setCell ⟨Bd, 3, none⟩ (.slice (some ⟨g', 0, none⟩) (s.since.length + 1) c')).setCell ⟨Bd, 5, none⟩ (.int .i64 (s.calls + 1))) :=
      (((((Chg.of_below HB.out).then (show Chg S W W.drew from ⟨rfl, rfl, rfl, Nat.le_refl _, fun _ _ _ => rfl⟩)).then (HC2.out.mono fun b e => e ▸ HD.out.mnb)).then ((show Chg S w2 w2.drew from ⟨rfl, rfl, rfl, Nat.le_refl _, fun _ _ _ => rfl⟩).then (HB4.out.chg.mono fun b hr => HD.out.msv b (HNR.out b hr)))).then (Chg.setCell _ _ _ _ HD.out.mBd)).then (Chg.setCell _ _ _ _ HD.out.mBd)
    generalize (w4.setCell ⟨Bd, 3, none⟩ (.slice (some ⟨g', 0, none⟩) (s.since.length + 1) c')).setCell ⟨Bd, 5, none⟩ (.int .i64 (s.calls + 1)) = w5 at *
    have hcn := HD.out.calls
    have h24 : ∀ k, k < w2.heap.size → ¬ RowR (.slice Av s.since.length cv) s.since.length k → w4.heap[k]? = w2.heap[k]? := fun k hk hn => HB4.out.chg.block k hk hn
    have hz24 : w2.heap.size ≤ w4.heap.size := HB4.out.chg.size
    have hz02 : w.heap.size ≤ w2.heap.size := Nat.le_of_lt hlm
    have kcell : ∀ {k : Nat} {c : Array Value} {t : TypeId}, W.heap[k]? = some (.cells c t (0, 0)) → t ≠ 100 → t ≠ 157 → w5.heap[k]? = W.heap[k]? := fun {k c t} h1 h2 h3 => by
      have e2 := HK2.out k (lt h1) (fun e => map_ne HD.out.names h1 e.symm)
      have h1' := e2.trans h1
      rw [ho5 k (types_ne h1 HD.out.box h2), h24 k (lt h1') (fun hr => by
        obtain ⟨cur, h4⟩ := rowBlock_at HROW.out (HNR.out k hr)
        exact types_ne h1' h4 h3 rfl), e2]
    have kmap : ∀ {b n : Nat} {f : Dk.Dir}, NamesAt w2 b n f → NamesAt w5 b n f := fun {b n f} h1 => h1.same (by
      rw [ho5 b (map_ne h1 HBX2.out), h24 b h1.lt (fun hr => by
        obtain ⟨cur, h4⟩ := rowBlock_at HROW.out (HNR.out b hr)
        exact map_ne h1 h4 rfl)])
    obtain ⟨mm, hdur, hmm⟩ := HD.out.dur
    have hdur2 : NamesAt w2 db mm s.dur := hdur.same (HK2.out db hdur.lt HD.out.ne.symm)
    have hlen : (s.since ++ [m]).length = s.since.length + 1 := by simp
    refine ⟨rfl, ⟨_, HD.out.turn (s' := s.doMove m) (S' := Up S w w5) (by rw [hb5]; rfl) ?_ ⟨mm, kmap hdur2, ?_⟩ ?_ rfl ?_ ?_ HD.out.dref ?_ ?_ ?_ (fun k hk => .inl hk)⟩, hcS⟩
    · show NamesAt w5 nb (s.calls + 1).toNat (m.on s.names)
      rw [show (s.calls + 1).toNat = s.calls.toNat + 1 by omega]
      exact kmap HN2.out
    · show mm + (s.since ++ [m]).length ≤ (s.calls + 1).toNat
      rw [hlen]; omega
    · show w5.ownsRow 0 _ 3 _ (s.since ++ [m]).length _
      rw [hlen]
      refine ownsRow_same HOW4.out fun g hg => ho5 g fun e => ?_
      obtain ⟨cur, h4⟩ := rowBlock_at HOW4.out hg
      exact types_ne h4 HBX4.out (by decide) e
    · intro i hi
      have hfi := HD.out.file i hi
      refine ⟨kcell hfi.box (by decide) (by decide), fun g hg => ?_⟩
      obtain ⟨cur, h4⟩ := ownBlock_lt hfi.row hg
      exact kcell h4 (by decide) (by decide)
    · intro k i hk0
      have hk : m.on s.names k = some i := hk0
      clear hk0
      have hfr : ∀ k, (if m.frm = [] then s.names else Dk.upd s.names m.frm none) k = some i → i ∈ ids ∧ k ≠ [] ∧ k.length ≤ 64 := fun k hk => by
        split at hk
        · exact HD.out.nref k i hk
        · unfold Dk.upd at hk
          split at hk
          · cases hk
          · exact HD.out.nref k i hk
      unfold Dk.Mv.on at hk
      split at hk
      · exact hfr k hk
      · rename_i hto
        unfold Dk.upd at hk
        split at hk
        · rename_i e
          subst e
          exact ⟨h4 i hk, hto, h2⟩
        · exact hfr k hk
    · intro x hx
      rcases List.mem_append.1 (show x ∈ s.since ++ [m] from hx) with hx | hx
      · exact HD.out.sref x hx
      · obtain rfl := List.mem_singleton.1 hx
        exact ⟨h4, h3, h1, h2⟩
    · show 0 ≤ s.calls + 1
      omega
    · intro g hg
      rcases HV4.out g hg with h6 | h6
      · exact .inl (HD.out.msv g h6)
      · exact .inr ⟨by omega, by have := (HOW4.out.lt g hg).2; omega⟩
end Go.Proofs.YtcmgppacipdnaaaGreatDoor
