/-
  The moves since the names were synced are made durable: settle.
-/
import Derived.Test.YtnjcngmmgceijaaDoorDkN
namespace Go.Proofs.YtnjcngmmgceijaaDoor
open Go.RowKit Go.Maps

theorem mvCells_at : ∀ (ms : List Dk.Mv) (k j : Nat), k < ms.length → j < 3 → (ms.flatMap mvCells)[k * 3 + j]? = (mvCells (ms.getD k default))[j]? := by
  intro ms
  induction ms with
  | nil => intro k j h; simp at h
  | cons m ms ih =>
    intro k j hk hj
    rw [List.flatMap_cons]
    cases k with
    | zero =>
      rw [List.getElem?_append_left (by show 0 * 3 + j < 3; omega)]
      simp
    | succ k =>
      rw [List.getElem?_append_right (by show 3 ≤ _; omega), show (k + 1) * 3 + j - (mvCells m).length = k * 3 + j from by show (k + 1) * 3 + j - 3 = _; omega]
      rw [ih k j (by simp at hk; omega) hj]
      simp
/-- A row of moves, read. -/
structure MvRow (w : World) (A : Option Addr) (c : Nat) (ms : List Dk.Mv) : Prop where
  le : ms.length ≤ c
  max : c ≤ 9223372036854775807
  nil : A = none → c = 0
  get : ∀ k, k < ms.length → ∃ g, A = some ⟨g, 0, none⟩ ∧ w.cell? ⟨g, k * 3, none⟩ = some (encStr (ms.getD k default).frm) ∧ w.cell? ⟨g, k * 3 + 1, none⟩ = some (encStr (ms.getD k default).to) ∧ w.cell? ⟨g, k * 3 + 2, none⟩ = some (fileV (ms.getD k default).file)
theorem row_read {w : World} {A : Option Addr} {c : Nat} {ms : List Dk.Mv} (h : w.ownsRow 0 69 3 (.slice A ms.length c) ms.length (ms.flatMap mvCells)) : MvRow w A c ms := by
  rcases h.2 with ⟨e, h0⟩ | ⟨g, cap, cur, e, hg, hh, hle, hmax, -, -⟩
  · injection e with e1 e2 e3
    exact ⟨by omega, by omega, fun _ => e3, fun k hk => by omega⟩
  · injection e with e1 e2 e3
    subst e1 e3
    refine ⟨hle, by unfold maxLen at hmax; omega, (fun e => by cases e), fun k hk => ⟨g, rfl, ?_, ?_, ?_⟩⟩
    · rw [h.cellAt (k * 3) (by omega)]; exact mvCells_at ms k 0 hk (by omega)
    · rw [h.cellAt (k * 3 + 1) (by omega)]; exact mvCells_at ms k 1 hk (by omega)
    · rw [h.cellAt (k * 3 + 2) (by omega)]; exact mvCells_at ms k 2 hk (by omega)
theorem ons_step {ms : List Dk.Mv} {k : Nat} (hk : k < ms.length) (f : Dk.Dir) : Dk.ons (ms.take (k + 1)) f = (ms.getD k default).on (Dk.ons (ms.take k) f) := by
  rw [List.take_add_one, List.getElem?_eq_getElem hk, Option.toList_some, Dk.ons_snoc]
  simp [List.getD, hk]

/-- Names lead to files of the disk. -/
def Refs (ids : List Nat) (f : Dk.Dir) : Prop := ∀ k i, f k = some i → i ∈ ids ∧ k ≠ [] ∧ k.length ≤ 64
theorem on_ref {ids : List Nat} {m : Dk.Mv} {f : Dk.Dir} (h : Refs ids f) (hm : ∀ i, m.file = some i → i ∈ ids) (h2 : m.to.length ≤ 64) : Refs ids (m.on f) := by
  intro k i hk
  have hfr : ∀ k, (if m.frm = [] then f else Dk.upd f m.frm none) k = some i → i ∈ ids ∧ k ≠ [] ∧ k.length ≤ 64 := fun k hk => by
    split at hk
    · exact h k i hk
    · unfold Dk.upd at hk
      split at hk
      · cases hk
      · exact h k i hk
  unfold Dk.Mv.on at hk
  split at hk
  · exact hfr k hk
  · rename_i hto
    unfold Dk.upd at hk
    split at hk
    · rename_i e
      subst e
      exact ⟨hm i hk, hto, h2⟩
    · exact hfr k hk
theorem ons_ref {ids : List Nat} : ∀ (ms : List Dk.Mv) (f : Dk.Dir), Refs ids f → (∀ m ∈ ms, (∀ i, m.file = some i → i ∈ ids) ∧ m.to.length ≤ 64) → Refs ids (Dk.ons ms f) := by
  intro ms
  induction ms with
  | nil => intro f h _; exact h
  | cons m ms ih => intro f h hm; exact ih (m.on f) (on_ref h (hm m List.mem_cons_self).1 (hm m List.mem_cons_self).2) fun x hx => hm x (List.mem_cons_of_mem _ hx)
theorem fileV_ptr (f : Option Nat) : ∃ q, fileV f = .pointer q := by cases f <;> exact ⟨_, rfl⟩

set_option maxRecDepth 100000 in
set_option maxHeartbeats 1000000 in
theorem settle_any (Bd nb db : Nat) (sv : Value) (ids : List Nat) (row : Nat → Value) (s : Dk.St) (S : Nat → Prop) (n : Nat) (w : World) (h : DiskL w Bd nb db sv ids row s S) (hc : s.calls ≤ 1099511627776) (hn : n ≤ s.since.length) :
    Calls Tryd.prog 35 #[.pointer (some ⟨Bd, 0, none⟩), .int .i64 (n : Int)] w fun e w' => e = .returned (.tuple #[]) ∧ DiskL w' Bd nb db (.slice none 0 0) ids row (s.settle n) S ∧ Chg (fun b => b = Bd ∨ b = db) w w' := by
  obtain ⟨Av, cv, rfl⟩ : ∃ Av cv, sv = .slice Av s.since.length cv := by
    rcases h.since.2 with ⟨e, h0⟩ | ⟨g, cap, cur, e, _⟩
    · exact ⟨none, 0, by rw [e, h0]⟩
    · exact ⟨_, _, e⟩
  have hrd := row_read h.since
  have b3 : w.cell? ⟨Bd, 3, none⟩ = some (.slice Av s.since.length cv) := box_cell h.box 3
  obtain ⟨mm, hdur, hmm⟩ := h.dur
  have hle := hrd.le
  have hmx := hrd.max
  have hA := hrd.nil
  have HR := hide hrd
  have HD := hide h
  have HDU := hide hdur
  have HMM := hide hmm
  have HC := hide hc
  clear h hrd hdur hmm hc
  generalize hL : s.since.length = L at *
  go_enter Tryd.func35, Tryd.ntmps35
  go_wp2_with fail
  go_loopw [13] (fun i wr => ∃ k : Nat, k ≤ n ∧ i = .int .i64 k ∧ NamesAt wr db (mm + k) (Dk.ons (s.since.take k) s.dur) ∧ Chg (fun b => b = db) w wr) (fun i _ => n - (intOf i).toNat)
  case atStart => exact ⟨0, Nat.zero_le _, rfl, HDU.out, Chg.refl _ _⟩
  case round =>
    obtain ⟨k, hk, rfl, hnm, hch⟩ := hrel
    have HNM := hide hnm
    have HCH := hide hch
    have hbx := (HCH.out.block Bd (Array.getElem?_eq_some_iff.1 HD.out.box).1 (fun e => map_ne HDU.out HD.out.box e.symm)).trans HD.out.box
    have HBX := hide hbx
    clear hnm hch hbx
    by_cases hlt : k < n
    · obtain ⟨g, rfl, r0, r1, r2⟩ := HR.out.get k (by omega)
      have hgd : g ≠ db := by
        obtain ⟨cur, h4⟩ := rowBlock_at HD.out.since rfl
        exact fun e => map_ne HDU.out h4 e.symm
      have d0 := HCH.out.cell r0 hgd
      have d1 := HCH.out.cell r1 hgd
      have d2 := HCH.out.cell r2 hgd
      have hmem : s.since.getD k default ∈ s.since := by
        rw [show s.since.getD k default = s.since[k] from by simp [List.getD, show k < s.since.length by omega]]; exact List.getElem_mem _
      obtain ⟨-, x3, x1, x2⟩ := HD.out.sref _ hmem
      have HOS := hide (ons_step (show k < s.since.length by omega) s.dur)
      clear r0 r1 r2 hgd hmem
      generalize s.since.getD k default = m at *
      obtain ⟨q, hq⟩ := fileV_ptr m.file
      rw [hq] at d2
      have HIN : Hid (∀ W, Below wr.heap.size wr W → Calls Tryd.prog 50 #[.agg #[encStr m.frm, encStr m.to, .pointer q], .map (some db)] W fun e w' => e = .returned (.tuple #[]) ∧ NamesAt w' db (mm + k + 1) (m.on (Dk.ons (s.since.take k) s.dur)) ∧ Chg (fun k => k = db) W w') := hide (fun W hb => by
        have h9 := in_any m db (mm + k) _ W (HNM.out.same (hb.block db HNM.out.lt)) (by have := HMM.out; have := HC.out; omega) x1 x2 x3
        simp only [mvV, hq] at h9
        exact h9)
      clear x1 x2 x3 hq
      obtain ⟨m0, m1, m2⟩ := made3D wr (encStr m.frm) (encStr m.to) (.pointer q) 69
      have HBW := hide (balloc (Below.refl wr.heap.size wr) (.cells #[encStr m.frm, encStr m.to, .pointer q] 69))
      go_wp2_with fail
      change Code.wp _ _ _ _ (wr.alloc (.cells #[encStr m.frm, encStr m.to, .pointer q] 69))
      obtain ⟨W, hW⟩ : ∃ W, W = wr.alloc (.cells #[encStr m.frm, encStr m.to, .pointer q] 69) := ⟨_, rfl⟩
      rw [← hW] at m0 m1 m2 HBW ⊢
      have e2 : W.cell? ⟨Bd, 2, none⟩ = some (.map (some db)) := box_cell ((HBW.out.block Bd (Array.getElem?_eq_some_iff.1 HBX.out).1).trans HBX.out) 2
      clear hW d0 d1 d2
      go_still_tail 5, (by kernel_rfl)
      change wpList _ _ _ _ _ W.drew
      have HIW := hide (HIN.out W.drew ⟨HBW.out.os, HBW.out.tape, HBW.out.output, HBW.out.size, HBW.out.block⟩)
      have HCW : Hid (Chg (fun b => b = db) wr W.drew) := hide (Chg.of_below ⟨HBW.out.os, HBW.out.tape, HBW.out.output, HBW.out.size, HBW.out.block⟩)
      go_wp2_with (first
        | (go_at_call 50; refine HIW.out.mono ?_; rintro e w2 ⟨rfl, hn2, hc2⟩)
        | fail)
      have HN2 := hide hn2
      have HC2 := hide hc2
      clear hn2 hc2
      go_roundw
      case rel => exact ⟨k + 1, by omega, by go_num, by rw [HOS.out]; exact HN2.out, (HCH.out.then HCW.out).then HC2.out⟩
      case measure => simp [intOf]; omega
    · obtain rfl : k = n := by omega
      have z3 : wr.cell? ⟨Bd, 3, none⟩ = some (.slice Av L cv) := box_cell HBX.out 3
      have f3 := box_free HBX.out 3
      go_wp2_with fail
      go_end0
      have hb3 := heap_setCell_same wr Bd 3 _ _ (.slice none 0 0) HBX.out
      have ho3 : ∀ j, j ≠ Bd → (wr.setCell ⟨Bd, 3, none⟩ (.slice none 0 0)).heap[j]? = wr.heap[j]? := fun j hj => Below.heap_setCell _ _ _ _ (by exact hj)
      have hcS : Chg (fun b => b = Bd ∨ b = db) w (wr.setCell ⟨Bd, 3, none⟩ (.slice none 0 0)) := (HCH.out.mono fun b e => .inr e).then (Chg.setCell _ _ _ _ (.inl rfl))
      have HCS := hide hcS
      generalize wr.setCell ⟨Bd, 3, none⟩ (.slice none 0 0) = w5 at *
      have lt : ∀ {j : Nat} {o : Obj}, w.heap[j]? = some o → j < w.heap.size := fun h => (Array.getElem?_eq_some_iff.1 h).1
      have kcell : ∀ {j : Nat} {c : Array Value} {t : TypeId}, w.heap[j]? = some (.cells c t (0, 0)) → t ≠ 58 → w5.heap[j]? = w.heap[j]? := fun {j c t} h1 h2 =>
        HCS.out.block j (lt h1) fun e => by
          rcases e with e | e
          · exact types_ne h1 HD.out.box h2 e
          · exact map_ne HDU.out h1 e.symm
      refine ⟨rfl, HD.out.turn (s' := s.settle k) (S' := S) (by rw [hb3]; rfl) ?_ ⟨mm + k, ?_, ?_⟩ (World.ownsRow_nil _ _ _ _) rfl ?_ HD.out.nref ?_ ?_ HD.out.calls ?_ (fun _ h => h), HCS.out⟩
      · exact HD.out.names.same (HCS.out.block nb HD.out.names.lt fun e => by
          rcases e with e | e
          · exact map_ne HD.out.names HD.out.box e
          · exact HD.out.ne e)
      · exact HNM.out.same (ho3 db (map_ne HDU.out HD.out.box))
      · show mm + k + 0 ≤ s.calls.toNat
        have := HMM.out
        omega
      · intro i hi
        have hfi := HD.out.file i hi
        refine ⟨kcell hfi.box (by decide), fun g hg => ?_⟩
        obtain ⟨cur, h4⟩ := ownBlock_lt hfi.row hg
        exact kcell h4 (by decide)
      · exact ons_ref _ _ HD.out.dref fun m hm => ⟨(HD.out.sref m (List.mem_of_mem_take hm)).1, (HD.out.sref m (List.mem_of_mem_take hm)).2.2.2⟩
      · intro m hm
        cases hm
      · intro g hg
        cases hg
end Go.Proofs.YtnjcngmmgceijaaDoor
