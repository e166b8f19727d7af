/-
  What a row's reading says of an argument of ints.
  A disk under a walk: all its blocks are new since the walk began, its numbers are small; each call, so.
  A disk under a walk, by the set of its own blocks: what others own stays.
  A disk under a walk, by the set of its own blocks: the calls that a segment stands on.
  What a crash leaves, plainly: which files have a name, what of each is kept.
  A disk that has power and will have it: what each call makes of it, plainly.
-/
import Derived.Test.YtfdppggdgdnnaaaGreatDoorZ1
import Derived.Below
import Derived.OpenShut
import Derived.Test.YtfdppggdgdnnaaaGreatDoorZ6
namespace Go.Proofs.YtfdppggdgdnnaaaGreatDoor
open Go.RowKit Go.ChangeShapes Go.WideShapes Go.ChangeAt

/-- A slice that reads as these ints. -/
def Ints (w : World) (A : Option Addr) (zs : List Int) : Prop :=
  zs = [] ∨ ∃ b off, A = some ⟨b, off, none⟩ ∧ b < w.heap.size ∧ ∀ k, k < zs.length → w.cell? ⟨b, off + k, none⟩ = some (.int .i64 (zs.getD k 0))
theorem Ints.below {w w' : World} {C : Nat} {A : Option Addr} {zs : List Int} (h : Ints w A zs) (hb : Below C w w') (hC : w.heap.size ≤ C) : Ints w' A zs := by
  rcases h with h | ⟨b, off, e, hlt, hc⟩
  · exact .inl h
  · exact .inr ⟨b, off, e, by have := hb.size; omega, fun k hk => (hb.cell (p := ⟨b, off + k, none⟩) (by show b < C; omega)).trans (hc k hk)⟩
theorem cells_int : Tryz.prog.cellsOf 3 = 1 := by kernel_rfl
theorem ints_of {H : Type} {enc : TypeId × Value → H} {W : World} {base : Nat} {spare : Nat → Bool} {held : Bool} {a : Option Addr} {len cap : Nat} {d : DataW H} {p : List MemPlace}
    (h : DataW.Trod enc Tryz.prog W base spare held 22 (.slice a len cap) d p) : ∃ zs : List Int, zs.length = len ∧ len ≤ cap ∧ cap ≤ 9223372036854775807 ∧ Ints W a zs ∧ ∀ k, k < len → -9223372036854775808 ≤ zs.getD k 0 ∧ zs.getD k 0 ≤ 9223372036854775807 := by
  obtain ⟨fuel, hf⟩ := h
  rcases open_ints Tryz.underlying22 Tryz.underlying3 cells_int hf with ⟨hcs, _⟩ | ⟨x, l, c, zs, hcs, _, hl, hm, hz, _, hcell, hwz⟩
  · simp [Value.cells] at hcs
    obtain ⟨rfl, rfl, rfl⟩ := hcs
    exact ⟨[], rfl, Nat.le_refl _, by omega, .inl rfl, fun k hk => by omega⟩
  · simp [Value.cells] at hcs
    obtain ⟨rfl, rfl, rfl⟩ := hcs
    have hzl : len ≤ zs.length := by split at hz <;> omega
    have e : ∀ k, k < len → (zs.take len).getD k 0 = zs.getD k 0 := fun k hk => by simp [List.getD, hk]
    refine ⟨zs.take len, by simp; omega, hl, by simpa [maxLen] using hm, ?_, fun k hk => ?_⟩
    · by_cases h0 : len = 0
      · subst h0; exact .inl (by simp)
      · obtain ⟨b, off, spot⟩ := x
        have hc := hcell 0 (by omega)
        have hspot : spot = none := by simpa [Addr.add] using World.cell?_spot hc
        subst hspot
        refine .inr ⟨b, off, rfl, ?_, fun k hk => ?_⟩
        · rcases Nat.lt_or_ge b W.heap.size with h | h
          · exact h
          · exfalso
            simp [World.cell?, Addr.add, Array.getElem?_eq_none h] at hc
        · have hk' : k < len := by simp at hk; omega
          have hck := hcell k (by omega)
          rw [Addr.add_lit] at hck
          rw [hck, e k hk']
    · rw [e k hk]
      have hmem : zs.getD k 0 ∈ zs := by
        simp only [List.getD, List.getElem?_eq_getElem (show k < zs.length by omega), Option.getD_some]
        exact List.getElem_mem _
      exact bounds_i64 (hwz _ hmem)
end Go.Proofs.YtfdppggdgdnnaaaGreatDoor

namespace Go.Proofs.YtfdppggdgdnnaaaGreatDoor.Dk

/-- Numbers of a disk that has been told at most n things, of at most a thousand bytes each. -/
structure Small (s : St) (n : Nat) : Prop where
  armed : -9223372036854775808 ≤ s.armed ∧ s.armed ≤ 9223372036854775807
  calls : 0 ≤ s.calls ∧ s.calls ≤ n
  used : -(1000000000 * (n : Int)) ≤ s.used ∧ s.used ≤ 1000000000 * (n : Int)
  room : 0 ≤ s.room ∧ s.room ≤ 4194304
  file : ∀ i, (s.files i).bytes.length ≤ 1000 * n
theorem Small.fit {s : St} {n : Nat} (h : Small s n) (hn : n ≤ 1000) : Fit s :=
  ⟨h.armed, by have := h.calls; omega, by have := h.used; omega, by have := h.room; omega, fun i => by have := h.file i; omega⟩
theorem Small.mono {s : St} {n m : Nat} (h : Small s n) (hm : n ≤ m) : Small s m :=
  ⟨h.armed, by have := h.calls; omega, by have := h.used; omega, h.room, fun i => by have := h.file i; have := Nat.mul_le_mul_left 1000 hm; omega⟩
theorem Small.new (room : Int) (h1 : 1 ≤ room) (h2 : room ≤ 4194304) : Small (St.new room) 0 :=
  ⟨by simp [St.new], by simp [St.new], by simp [St.new], by simp only [St.new]; omega, fun i => by simp [St.new, default, instInhabitedFile.default]⟩
theorem Small.begin {s : St} {n : Nat} (h : Small s n) : Small s.begin n := by
  unfold St.begin
  split
  · exact ⟨by have := h.armed; show _ ≤ s.armed - 1 ∧ s.armed - 1 ≤ _; omega, h.calls, h.used, h.room, h.file⟩
  · exact h
theorem Small.arm {s : St} {n : Nat} (h : Small s n) (a : Int) (ha : -9223372036854775808 ≤ a ∧ a ≤ 9223372036854775807) : Small { s with armed := a } n := ⟨ha, h.calls, h.used, h.room, h.file⟩
theorem Small.setFile {s : St} {n : Nat} (h : Small s n) (i : Nat) (f : File) (hf : f.bytes.length ≤ 1000 * n) : Small (s.setFile i f) n :=
  ⟨h.armed, h.calls, h.used, h.room, fun k => by
    by_cases e : k = i
    · subst e; rw [setFile_same]; exact hf
    · rw [setFile_other _ _ _ _ e]; exact h.file k⟩
/-- Told one thing more. -/
theorem Small.more {s t : St} {n : Nat} (h : Small s n) (ha : t.armed = s.armed) (hc : t.calls = s.calls + 1) (hr : t.room = s.room) (hf : ∀ i, (t.files i).bytes.length ≤ 1000 * n + 1000)
    (hu : s.used - 1000 * n ≤ t.used ∧ t.used ≤ s.used + 1000) (hn : n ≤ 1000) : Small t (n + 1) := by
  have h1 := h.calls
  have h2 := h.used
  exact ⟨by rw [ha]; exact h.armed, by rw [hc]; omega, by omega, by rw [hr]; exact h.room, fun i => by have := hf i; omega⟩
theorem Small.create {s : St} {n : Nat} (h : Small s n) (hn : n ≤ 1000) (k : Nm) (i : Nat) : Small (s.create k i).2 (n + 1) := by
  have hb := h.begin
  unfold St.create
  split
  · exact hb.mono (by omega)
  split
  · exact hb.mono (by omega)
  split
  · exact hb.mono (by omega)
  · refine (hb.setFile i ⟨s.begin.calls, [], 0⟩ (by simp)).more rfl rfl rfl (fun j => by have := (hb.setFile i ⟨s.begin.calls, [], 0⟩ (by simp)).file j; exact Nat.le_trans this (by omega)) ?_ hn
    simp only [St.doMove, St.setFile]
    omega
theorem Small.append {s : St} {n : Nat} (h : Small s n) (hn : n ≤ 1000) (k : Nm) (b : Nm) (hl : b.length ≤ 1000) : Small (s.append k b).2 (n + 1) := by
  have hb := h.begin
  unfold St.append
  rcases find_cases s.begin k with ⟨j, hf⟩ | ⟨i, hf, _⟩
  · rw [hf]; exact hb.mono (by omega)
  · rw [hf]
    simp only
    split
    · exact hb.mono (by omega)
    · refine hb.more rfl rfl rfl (fun j => ?_) ?_ hn
      · show ((s.begin.setFile i _).files j).bytes.length ≤ _
        by_cases e : j = i
        · subst e; rw [setFile_same]; have := hb.file j; simp; omega
        · rw [setFile_other _ _ _ _ e]; have := hb.file j; omega
      · show _ ≤ s.begin.used + (b.length : Int) ∧ s.begin.used + (b.length : Int) ≤ _
        omega
/-- Told one thing more, of so many thousand bytes. -/
theorem Small.moreQ {s t : St} {n : Nat} (q : Nat) (hq : 1 ≤ q) (h : Small s n) (ha : t.armed = s.armed) (hc : t.calls = s.calls + 1) (hr : t.room = s.room) (hf : ∀ i, (t.files i).bytes.length ≤ 1000 * n + 1000 * q)
    (hu : s.used - 1000 * q ≤ t.used ∧ t.used ≤ s.used + 1000 * q) : Small t (n + q) := by
  have h1 := h.calls
  have h2 := h.used
  exact ⟨by rw [ha]; exact h.armed, by rw [hc]; omega, by omega, by rw [hr]; exact h.room, fun i => by have := hf i; omega⟩
theorem Small.appendQ {s : St} {n : Nat} (q : Nat) (hq : 1 ≤ q) (h : Small s n) (k : Nm) (b : Nm) (hl : b.length ≤ 1000 * q) : Small (s.append k b).2 (n + q) := by
  have hb := h.begin
  unfold St.append
  rcases find_cases s.begin k with ⟨j, hf⟩ | ⟨i, hf, _⟩
  · rw [hf]; exact hb.mono (by omega)
  · rw [hf]
    simp only
    split
    · exact hb.mono (by omega)
    · refine hb.moreQ q hq rfl rfl rfl (fun j => ?_) ?_
      · show ((s.begin.setFile i _).files j).bytes.length ≤ _
        by_cases e : j = i
        · subst e; rw [setFile_same]; have := hb.file j; simp; omega
        · rw [setFile_other _ _ _ _ e]; have := hb.file j; omega
      · show _ ≤ s.begin.used + (b.length : Int) ∧ s.begin.used + (b.length : Int) ≤ _
        omega
theorem Small.cut {s : St} {n : Nat} (h : Small s n) (hn : n ≤ 1000) (k : Nm) (m : Int) : Small (s.cut k m).2 (n + 1) := by
  have hb := h.begin
  unfold St.cut
  rcases find_cases s.begin k with ⟨j, hf⟩ | ⟨i, hf, _⟩
  · rw [hf]; exact hb.mono (by omega)
  · rw [hf]
    simp only
    split
    · exact hb.mono (by omega)
    · have hfi := hb.file i
      refine hb.more rfl rfl rfl (fun j => ?_) ?_ hn
      · show ((s.begin.setFile i _).files j).bytes.length ≤ _
        by_cases e : j = i
        · subst e; rw [setFile_same]; simp only [File.keep, List.length_take]; omega
        · rw [setFile_other _ _ _ _ e]; have := hb.file j; omega
      · show _ ≤ s.begin.used - (((s.begin.files i).bytes.length : Int) - m) ∧ s.begin.used - (((s.begin.files i).bytes.length : Int) - m) ≤ _
        omega
theorem Small.sync {s : St} {n : Nat} (h : Small s n) (hn : n ≤ 1000) (k : Nm) : Small (s.sync k).2 (n + 1) := by
  have hb := h.begin
  unfold St.sync
  rcases find_cases s.begin k with ⟨j, hf⟩ | ⟨i, hf, _⟩
  · rw [hf]; exact hb.mono (by omega)
  · rw [hf]
    simp only
    refine hb.more rfl rfl rfl (fun j => ?_) ?_ hn
    · show ((s.begin.setFile i _).files j).bytes.length ≤ _
      by_cases e : j = i
      · subst e; rw [setFile_same]; have := hb.file j; simp only [File.keep, List.length_take]; omega
      · rw [setFile_other _ _ _ _ e]; have := hb.file j; omega
    · show _ ≤ s.begin.used ∧ s.begin.used ≤ _
      omega
theorem Small.rename {s : St} {n : Nat} (h : Small s n) (hn : n ≤ 1000) (k tn : Nm) : Small (s.rename k tn).2 (n + 1) := by
  have hb := h.begin
  unfold St.rename
  rcases find_cases s.begin k with ⟨j, hf⟩ | ⟨i, hf, _⟩
  · rw [hf]; exact hb.mono (by omega)
  · rw [hf]
    simp only
    split
    · exact hb.mono (by omega)
    · refine hb.more rfl rfl rfl (fun j => by have := hb.file j; exact Nat.le_trans this (by omega)) ?_ hn
      show _ ≤ (match s.begin.names tn with | none => s.begin.used | some o => if o = i then s.begin.used else s.begin.used - (s.begin.files o).bytes.length) ∧ (match s.begin.names tn with | none => s.begin.used | some o => if o = i then s.begin.used else s.begin.used - (s.begin.files o).bytes.length) ≤ _
      split
      · omega
      · rename_i o _
        have := hb.file o
        by_cases e : o = i
        · rw [if_pos e]; omega
        · rw [if_neg e]; omega
theorem Small.remove {s : St} {n : Nat} (h : Small s n) (hn : n ≤ 1000) (k : Nm) : Small (s.remove k).2 (n + 1) := by
  have hb := h.begin
  unfold St.remove
  rcases find_cases s.begin k with ⟨j, hf⟩ | ⟨i, hf, _⟩
  · rw [hf]; exact hb.mono (by omega)
  · rw [hf]
    simp only
    have hfi := hb.file i
    refine hb.more rfl rfl rfl (fun j => by have := hb.file j; exact Nat.le_trans this (by omega)) ?_ hn
    show _ ≤ s.begin.used - ((s.begin.files i).bytes.length : Int) ∧ s.begin.used - ((s.begin.files i).bytes.length : Int) ≤ _
    omega
theorem Small.syncDir {s : St} {n : Nat} (h : Small s n) (hn : n ≤ 1000) : Small s.syncDir.2 (n + 1) := by
  have hb := h.begin
  unfold St.syncDir
  split
  · exact hb.mono (by omega)
  · refine hb.more rfl rfl rfl (fun j => by have := hb.file j; exact Nat.le_trans this (by omega)) ?_ hn
    show _ ≤ s.begin.used ∧ s.begin.used ≤ _
    omega
theorem keepAll_fix (picks : List Int) : ∀ (l : List Nat) (i : Nat) (s : St), (St.keepAll picks i l s).armed = s.armed ∧ (St.keepAll picks i l s).calls = s.calls ∧ (St.keepAll picks i l s).room = s.room ∧ (St.keepAll picks i l s).names = s.names ∧ (St.keepAll picks i l s).dur = s.dur ∧ (St.keepAll picks i l s).since = s.since ∧ (St.keepAll picks i l s).down = s.down
  | [], _, _ => ⟨rfl, rfl, rfl, rfl, rfl, rfl, rfl⟩
  | f :: fs, i, s => by
    obtain ⟨a, b, c, d, e, g, h⟩ := keepAll_fix picks fs (i + 1) { s.setFile f ((s.files f).keep ((s.files f).synced + pick picks i ((s.files f).bytes.length - (s.files f).synced))) with used := s.used + (((s.files f).synced + pick picks i ((s.files f).bytes.length - (s.files f).synced) : Nat) : Int) }
    exact ⟨a, b, c, d, e, g, h⟩
/-- Files are never longer behind it; what is used is bounded. -/
theorem keepAll_len (picks : List Int) (M : Nat) : ∀ (l : List Nat) (i : Nat) (s : St), (∀ k, (s.files k).bytes.length ≤ M) → (∀ k ∈ l, (s.files k).synced ≤ (s.files k).bytes.length) → 
    (∀ k, ((St.keepAll picks i l s).files k).bytes.length ≤ M) ∧ s.used ≤ (St.keepAll picks i l s).used ∧ (St.keepAll picks i l s).used ≤ s.used + M * l.length
  | [], _, s, h, _ => ⟨h, Int.le_refl _, by simp [St.keepAll]⟩
  | f :: fs, i, s, h, hs => by
    have hp := pick_le picks i ((s.files f).bytes.length - (s.files f).synced)
    have hsy := hs f (List.mem_cons_self ..)
    have hM := h f
    have hfl : ∀ k, (({ s.setFile f ((s.files f).keep ((s.files f).synced + pick picks i ((s.files f).bytes.length - (s.files f).synced))) with used := s.used + (((s.files f).synced + pick picks i ((s.files f).bytes.length - (s.files f).synced) : Nat) : Int) } : St).files k).bytes.length ≤ M ∧ (k ∈ fs → (({ s.setFile f ((s.files f).keep ((s.files f).synced + pick picks i ((s.files f).bytes.length - (s.files f).synced))) with used := s.used + (((s.files f).synced + pick picks i ((s.files f).bytes.length - (s.files f).synced) : Nat) : Int) } : St).files k).synced ≤ (({ s.setFile f ((s.files f).keep ((s.files f).synced + pick picks i ((s.files f).bytes.length - (s.files f).synced))) with used := s.used + (((s.files f).synced + pick picks i ((s.files f).bytes.length - (s.files f).synced) : Nat) : Int) } : St).files k).bytes.length) := fun k => by
      show ((s.setFile f _).files k).bytes.length ≤ M ∧ (k ∈ fs → ((s.setFile f _).files k).synced ≤ ((s.setFile f _).files k).bytes.length)
      by_cases e : k = f
      · subst e; rw [setFile_same]; simp only [File.keep, List.length_take]; omega
      · rw [setFile_other _ _ _ _ e]; exact ⟨h k, fun hk => hs k (List.mem_cons_of_mem _ hk)⟩
    obtain ⟨h1, h2, h3⟩ := keepAll_len picks M fs (i + 1) { s.setFile f ((s.files f).keep ((s.files f).synced + pick picks i ((s.files f).bytes.length - (s.files f).synced))) with used := s.used + (((s.files f).synced + pick picks i ((s.files f).bytes.length - (s.files f).synced) : Nat) : Int) } (fun k => (hfl k).1) (fun k hk => (hfl k).2 hk)
    simp only at h2 h3
    refine ⟨h1, ?_, ?_⟩
    · exact Int.le_trans (by omega) h2
    · refine Int.le_trans h3 ?_
      have e : (M : Int) * ((f :: fs).length : Int) = M * (fs.length : Int) + M := by rw [List.length_cons]; push_cast; rw [Int.mul_add, Int.mul_one]
      rw [e]
      omega
theorem Small.crash {s : St} {n : Nat} (h : Small s n) (picks : List Int) (ys : List Nat) (hy : ys.length ≤ 1000000) (hs : ∀ k ∈ ys, (s.files k).synced ≤ (s.files k).bytes.length) : Small (s.crash picks ys) n := by
  have hf := keepAll_fix picks ys 1 { (s.settle (pick picks 0 s.since.length)) with names := (s.settle (pick picks 0 s.since.length)).dur, used := 0 }
  have hl := keepAll_len picks (1000 * n) ys 1 { (s.settle (pick picks 0 s.since.length)) with names := (s.settle (pick picks 0 s.since.length)).dur, used := 0 } (fun k => h.file k) hs
  unfold St.crash
  simp only
  generalize St.keepAll picks 1 ys { (s.settle (pick picks 0 s.since.length)) with names := (s.settle (pick picks 0 s.since.length)).dur, used := 0 } = t at *
  obtain ⟨f1, f2, f3, -⟩ := hf
  obtain ⟨l1, l2, l3⟩ := hl
  refine ⟨by simp, ?_, ?_, ?_, l1⟩
  · show 0 ≤ t.calls ∧ t.calls ≤ n
    rw [f2]; exact h.calls
  · show _ ≤ t.used ∧ t.used ≤ _
    have hm : ((1000 * n : Nat) : Int) * (ys.length : Int) ≤ ((1000 * n : Nat) : Int) * 1000000 := Int.mul_le_mul_of_nonneg_left (by omega) (by omega)
    simp only at l2 l3
    omega
  · show 0 ≤ t.room ∧ t.room ≤ _
    rw [f3]; exact h.room
end Go.Proofs.YtfdppggdgdnnaaaGreatDoor.Dk

namespace Go.Proofs.YtfdppggdgdnnaaaGreatDoor
open Go.RowKit Go.Maps

/-- All of a disk's blocks are there. -/
theorem IsDisk.tight {w : World} {Bd : Nat} {s : Dk.St} {S : Nat → Prop} (h : IsDisk w Bd s S) : IsDisk w Bd s (fun k => S k ∧ k < w.heap.size) := by
  obtain ⟨nb, db, sv, ids, row, h⟩ := h
  have lt : ∀ {k : Nat} {o : Obj}, w.heap[k]? = some o → k < w.heap.size := fun h => (Array.getElem?_eq_some_iff.1 h).1
  obtain ⟨m, hd, hm⟩ := h.dur
  exact ⟨nb, db, sv, ids, row, { h with mBd := ⟨h.mBd, lt h.box⟩, mnb := ⟨h.mnb, h.names.lt⟩, mdb := ⟨h.mdb, hd.lt⟩, msv := fun g hg => ⟨h.msv g hg, (h.since.lt g hg).2⟩, mid := fun i hi => ⟨h.mid i hi, lt (h.file i hi).box⟩, mrow := fun i hi g hg => ⟨h.mrow i hi g hg, ((h.file i hi).row.lt g hg).2⟩ }⟩
/-- What a name leads to is a file of the disk: it lies there, and is synced no farther than it is long. -/
theorem IsDisk.ref {w : World} {Bd : Nat} {s : Dk.St} {S : Nat → Prop} (h : IsDisk w Bd s S) : (∀ k i, s.names k = some i → i < w.heap.size ∧ (s.files i).synced ≤ (s.files i).bytes.length ∧ k.length ≤ 64) ∧ (∀ k i, s.dur k = some i → i < w.heap.size ∧ (s.files i).synced ≤ (s.files i).bytes.length ∧ k.length ≤ 64) ∧ (∀ m ∈ s.since, ∀ i, m.file = some i → i < w.heap.size ∧ (s.files i).synced ≤ (s.files i).bytes.length) := by
  obtain ⟨nb, db, sv, ids, row, h⟩ := h
  have lt : ∀ {k : Nat} {o : Obj}, w.heap[k]? = some o → k < w.heap.size := fun h => (Array.getElem?_eq_some_iff.1 h).1
  exact ⟨fun k i hk => ⟨lt (h.file i (h.nref k i hk).1).box, (h.file i (h.nref k i hk).1).sync, (h.nref k i hk).2.2⟩, fun k i hk => ⟨lt (h.file i (h.dref k i hk).1).box, (h.file i (h.dref k i hk).1).sync, (h.dref k i hk).2.2⟩, fun m hm i hi => ⟨lt (h.file i ((h.sref m hm).1 i hi)).box, (h.file i ((h.sref m hm).1 i hi)).sync⟩⟩

/-- A disk under a walk that began in w0. -/
structure Sess (w0 : World) (n Bd : Nat) (s : Dk.St) (w : World) : Prop where
  disk : IsDisk w Bd s (fun k => w0.heap.size ≤ k ∧ k < w.heap.size)
  below : Below w0.heap.size w0 w
  small : Dk.Small s n
theorem safe_of {w0 : World} {p : Nat → Addr} (hs : SentsD w0 p) (T : Nat) : Safe (fun k => w0.heap.size ≤ k ∧ k < T) p :=
  ⟨fun j h1 h2 h3 => by have := hs.size j ⟨h1, h2⟩; have := h3.1; omega, fun j h1 h2 h3 => by have := (hs.blk j ⟨h1, h2⟩).1; have := h3.1; omega⟩
theorem SentsOn.at_ {w0 w : World} {p : Nat → Addr} (hs : SentsD w0 p) (h : Below w0.heap.size w0 w) : SentsD w p := hs.below h
theorem Sess.next {w0 w w' : World} {n m Bd : Nat} {s s' : Dk.St} (h : Sess w0 n Bd s w) (hx : Next w Bd (fun k => w0.heap.size ≤ k ∧ k < w.heap.size) s' w') (hm : Dk.Small s' m) : Sess w0 m Bd s' w' := by
  have hsz := hx.chg.size
  exact ⟨hx.disk.mono fun k hk => by rcases hk with hk | hk <;> have := h.below.size <;> (show _ ∧ _) <;> omega, h.below.trans (hx.chg.below h.below.size fun k hk => hk.1), hm⟩
/-- New blocks change nothing. -/
theorem Sess.grow {w0 w w' : World} {n Bd : Nat} {s : Dk.St} (h : Sess w0 n Bd s w) (hb : Below w.heap.size w w') : Sess w0 n Bd s w' :=
  ⟨(h.disk.below hb).mono fun _k hk => ⟨hk.1, Nat.lt_of_lt_of_le hk.2 hb.size⟩, h.below.trans (hb.mono h.below.size), h.small⟩
theorem Sess.mono {w0 w : World} {n m Bd : Nat} {s : Dk.St} (h : Sess w0 n Bd s w) (hm : n ≤ m) : Sess w0 m Bd s w := ⟨h.disk, h.below, h.small.mono hm⟩
theorem Sess.drewN {w0 w : World} {n Bd : Nat} {s : Dk.St} (h : Sess w0 n Bd s w) (q : Nat) : Sess w0 n Bd s (w.drewN q) := h.grow ⟨rfl, rfl, rfl, Nat.le_refl _, fun _ _ => rfl⟩

theorem new_sess (room : Int) (w0 w : World) (hb : Below w0.heap.size w0 w) (h1 : 1 ≤ room) (h2 : room ≤ 4194304) :
    Calls Tryz.prog 41 #[.int .i64 room] w fun e w' => ∃ Bd, e = .returned (.tuple #[.pointer (some ⟨Bd, 0, none⟩), .nilIface]) ∧ Sess w0 0 Bd (Dk.St.new room) w' ∧ w.heap.size ≤ Bd := by
  refine (new_any room w h1 h2).mono ?_
  rintro e w' ⟨Bd, rfl, hB, hd, hb2⟩
  exact ⟨Bd, rfl, ⟨hd.mono fun k hk => ⟨Nat.le_trans hb.size hk.1, hk.2⟩, hb.trans (hb2.mono hb.size), Dk.Small.new room h1 h2⟩, hB⟩
theorem Sess.create {w0 w : World} {n Bd : Nat} {s : Dk.St} (h : Sess w0 n Bd s w) (p : Nat → Addr) (hs : SentsD w0 p) (hn : n ≤ 1000) (k : Dk.Nm) (hk : k.length ≤ 1000) :
    Calls Tryz.prog 43 #[.pointer (some ⟨Bd, 0, none⟩), encStr k] w fun e w' => e = .returned (errR p (s.create k w.heap.size).1) ∧ Sess w0 (n + 1) Bd (s.create k w.heap.size).2 w' :=
  (create_any Bd s _ p k w (hs.at_ h.below) (safe_of hs _) h.disk (h.small.fit hn) (by omega)).mono fun e w' ⟨he, hx⟩ => ⟨he, h.next hx (h.small.create hn k _)⟩
theorem Sess.append {w0 w w1 : World} {n Bd : Nat} {s : Dk.St} (h : Sess w0 n Bd s w) (p : Nat → Addr) (hs : SentsD w0 p) (hn : n ≤ 1000) (k : Dk.Nm) (hk : k.length ≤ 1000)
    (A : Option Addr) (c m : Nat) (b : Dk.Nm) (hb : Below w.heap.size w w1) (ha : Arg w1 A c b) (hl : b.length = m) (hm : m ≤ 1000) (hA : ∀ x o, A = some ⟨x, o, none⟩ → b ≠ [] → x < w0.heap.size ∨ w.heap.size ≤ x) :
    Calls Tryz.prog 44 #[.pointer (some ⟨Bd, 0, none⟩), encStr k, .slice A m c] w1 fun e w' => e = .returned (errR p (s.append k b).1) ∧ Sess w0 (n + 1) Bd (s.append k b).2 w' := by
  have hb0 := h.below.trans (hb.mono h.below.size)
  refine (append_any Bd s (fun k => w0.heap.size ≤ k ∧ k < w.heap.size) p k A c m b w1 (hs.at_ hb0) (safe_of hs _) (h.disk.below hb) (h.small.fit hn) (by omega) ha hl (by omega) fun x o e hl0 hx => by rcases hA x o e hl0 with h1 | h1 <;> have := hx.1 <;> have := hx.2 <;> omega).mono fun e w' ⟨he, hx⟩ => ⟨he, ?_⟩
  have h1 := hb.size
  have h2 := hx.chg.size
  have h3 := h.below.size
  exact ⟨hx.disk.mono fun k hk => by rcases hk with hk | hk <;> (show _ ∧ _) <;> omega, hb0.trans (hx.chg.below (by omega) fun k hk => hk.1), h.small.append hn k b (by omega)⟩
theorem Sess.cut {w0 w : World} {n Bd : Nat} {s : Dk.St} (h : Sess w0 n Bd s w) (p : Nat → Addr) (hs : SentsD w0 p) (hn : n ≤ 1000) (k : Dk.Nm) (hk : k.length ≤ 1000) (m : Int) :
    Calls Tryz.prog 89 #[.pointer (some ⟨Bd, 0, none⟩), encStr k, .int .i64 m] w fun e w' => e = .returned (errR p (s.cut k m).1) ∧ Sess w0 (n + 1) Bd (s.cut k m).2 w' :=
  (cut_any Bd s _ p k m w (hs.at_ h.below) (safe_of hs _) h.disk (h.small.fit hn) (by omega)).mono fun e w' ⟨he, hx⟩ => ⟨he, h.next hx (h.small.cut hn k _)⟩
theorem Sess.sync {w0 w : World} {n Bd : Nat} {s : Dk.St} (h : Sess w0 n Bd s w) (p : Nat → Addr) (hs : SentsD w0 p) (hn : n ≤ 1000) (k : Dk.Nm) (hk : k.length ≤ 1000) :
    Calls Tryz.prog 77 #[.pointer (some ⟨Bd, 0, none⟩), encStr k] w fun e w' => e = .returned (errR p (s.sync k).1) ∧ Sess w0 (n + 1) Bd (s.sync k).2 w' :=
  (sync_any Bd s _ p k w (hs.at_ h.below) (safe_of hs _) h.disk (h.small.fit hn) (by omega)).mono fun e w' ⟨he, hx⟩ => ⟨he, h.next hx (h.small.sync hn k)⟩
theorem Sess.syncDir {w0 w : World} {n Bd : Nat} {s : Dk.St} (h : Sess w0 n Bd s w) (p : Nat → Addr) (hs : SentsD w0 p) (hn : n ≤ 1000) :
    Calls Tryz.prog 78 #[.pointer (some ⟨Bd, 0, none⟩)] w fun e w' => e = .returned (errR p s.syncDir.1) ∧ Sess w0 (n + 1) Bd s.syncDir.2 w' :=
  (syncDir_any Bd s _ p w (hs.at_ h.below) (safe_of hs _) h.disk (h.small.fit hn)).mono fun _e _w' ⟨he, hx⟩ => ⟨he, h.next hx (h.small.syncDir hn)⟩
theorem order_ref {w : World} {Bd : Nat} {s : Dk.St} {S : Nat → Prop} (h : IsDisk w Bd s S) (m : Nat) (ys : List Nat) (hy : Dk.Order (s.settle m) (s.settle m).dur ys) : ∀ k ∈ ys, (s.files k).synced ≤ (s.files k).bytes.length := by
  intro x hx
  obtain ⟨xs, hv, hp, -⟩ := hy
  obtain ⟨k, hk⟩ := vals_mem hv _ (hp.mem_iff.1 hx)
  obtain ⟨-, h2, h3⟩ := h.ref
  have hon : ∀ (ms : List Dk.Mv) (f : Dk.Dir), (∀ m ∈ ms, m ∈ s.since) → (∀ k i, f k = some i → (s.files i).synced ≤ (s.files i).bytes.length) → ∀ k i, Dk.ons ms f k = some i → (s.files i).synced ≤ (s.files i).bytes.length := by
    intro ms
    induction ms with
    | nil => intro f _ hf; exact hf
    | cons m ms ih =>
      intro f hm hf
      refine ih (m.on f) (fun x hx => hm x (List.mem_cons_of_mem _ hx)) fun k i hk => ?_
      have hmm := hm m (List.mem_cons_self ..)
      have hfr : ∀ k i, (if m.frm = [] then f else Dk.upd f m.frm none) k = some i → (s.files i).synced ≤ (s.files i).bytes.length := fun k i hk => by
        split at hk
        · exact hf k i hk
        · unfold Dk.upd at hk
          split at hk
          · cases hk
          · exact hf k i hk
      unfold Dk.Mv.on at hk
      split at hk
      · exact hfr k i hk
      · unfold Dk.upd at hk
        split at hk
        · exact (h3 m hmm i hk).2
        · exact hfr k i hk
  exact hon (s.since.take m) s.dur (fun x hx => List.mem_of_mem_take hx) (fun k i hk => (h2 k i hk).2.1) k x hk
theorem Sess.crash {w0 w w1 : World} {n Bd : Nat} {s : Dk.St} (h : Sess w0 n Bd s w) (hn : n ≤ 1000) (A : Option Addr) (c m : Nat) (zs : List Int) (hb : Below w.heap.size w w1) (hz : IntsArg w1 A c zs) (hl : zs.length = m) (hA : ∀ x o, A = some ⟨x, o, none⟩ → zs ≠ [] → (x < w0.heap.size ∨ w.heap.size ≤ x) ∧ x < w1.heap.size) :
    Calls Tryz.prog 38 #[.pointer (some ⟨Bd, 0, none⟩), .slice A m c] w1 fun e w' => e = .returned (.tuple #[]) ∧ ∃ ys, Dk.Order (s.settle (Dk.pick zs 0 s.since.length)) (s.settle (Dk.pick zs 0 s.since.length)).dur ys ∧ Sess w0 n Bd (s.crash zs ys) w' := by
  have hb0 := h.below.trans (hb.mono h.below.size)
  refine (crash_any Bd s (fun k => w0.heap.size ≤ k ∧ k < w.heap.size) A c m zs w1 (h.disk.below hb) (h.small.fit hn) (by have := h.small.calls; omega) hz hl fun x o e hl0 => ⟨fun hx => by rcases (hA x o e hl0).1 with h1 | h1 <;> have := hx.1 <;> have := hx.2 <;> omega, (hA x o e hl0).2⟩).mono fun e w' ⟨he, ys, ⟨ho, hy⟩, hd, hc⟩ => ⟨he, ys, ho, ?_⟩
  have h1 := hb.size
  have h2 := hc.size
  have h3 := h.below.size
  exact ⟨hd.mono fun k hk => by rcases hk with hk | hk <;> (show _ ∧ _) <;> omega, hb0.trans (hc.below (by omega) fun k hk => hk.1), h.small.crash zs ys hy (order_ref h.disk _ ys ho)⟩
theorem Sess.len {w0 w : World} {n Bd : Nat} {s : Dk.St} (h : Sess w0 n Bd s w) (p : Nat → Addr) (hs : SentsD w0 p) (k : Dk.Nm) (hk : k.length ≤ 1000) :
    Calls Tryz.prog 39 #[.pointer (some ⟨Bd, 0, none⟩), encStr k] w fun e w' => e = .returned (.tuple #[.int .i64 (s.lenOf k), errR p (s.find k).1]) ∧ ∃ q, w' = w.drewN q :=
  len_any Bd s _ p k w (hs.at_ h.below) h.disk (by omega)
theorem Sess.synced {w0 w : World} {n Bd : Nat} {s : Dk.St} (h : Sess w0 n Bd s w) (p : Nat → Addr) (hs : SentsD w0 p) (k : Dk.Nm) (hk : k.length ≤ 1000) :
    Calls Tryz.prog 79 #[.pointer (some ⟨Bd, 0, none⟩), encStr k] w fun e w' => e = .returned (.tuple #[.int .i64 (s.syncedOf k), errR p (s.find k).1]) ∧ ∃ q, w' = w.drewN q :=
  synced_any Bd s _ p k w (hs.at_ h.below) h.disk (by omega)
theorem Sess.read {w0 w : World} {n Bd : Nat} {s : Dk.St} (h : Sess w0 n Bd s w) (p : Nat → Addr) (hs : SentsD w0 p) (hn : n ≤ 1000) (k : Dk.Nm) (hk : k.length ≤ 1000) (a m : Int) (ha : -9223372036854775808 ≤ a ∧ a ≤ 9223372036854775807) :
    Calls Tryz.prog 87 #[.pointer (some ⟨Bd, 0, none⟩), encStr k, .int .i64 a, .int .i64 m] w fun e w' => ∃ v, e = .returned (.tuple #[v, errR p (s.readOf k a m).1]) ∧ Own w' w.heap.size v (s.readOf k a m).2 ∧ Below w.heap.size w w' :=
  dRead_any Bd s _ p k a m w (hs.at_ h.below) h.disk (by omega) (h.small.fit hn) ha
end Go.Proofs.YtfdppggdgdnnaaaGreatDoor

namespace Go.Proofs.YtfdppggdgdnnaaaGreatDoor
open Go.RowKit Go.Maps Go.Sort

/-- A disk whose blocks are S's, all of them new since w0. -/
structure SessS (S : Nat → Prop) (w0 : World) (n Bd : Nat) (s : Dk.St) (w : World) : Prop where
  disk : IsDisk w Bd s S
  lo : ∀ k, S k → w0.heap.size ≤ k ∧ k < w.heap.size
  below : Below w0.heap.size w0 w
  small : Dk.Small s n
theorem SessS.safe {S : Nat → Prop} {w0 w : World} {n Bd : Nat} {s : Dk.St} (h : SessS S w0 n Bd s w) {p : Nat → Addr} (hs : SentsD w0 p) : Safe S p :=
  ⟨fun j h1 h2 h3 => by have := hs.size j ⟨h1, h2⟩; have := (h.lo _ h3).1; omega, fun j h1 h2 h3 => by have := (hs.blk j ⟨h1, h2⟩).1; have := (h.lo _ h3).1; omega⟩
theorem SessS.next {S : Nat → Prop} {w0 w w' : World} {n m Bd : Nat} {s s' : Dk.St} (h : SessS S w0 n Bd s w) (hx : Next w Bd S s' w') (hm : Dk.Small s' m) : SessS (Up S w w') w0 m Bd s' w' ∧ Chg S w w' := by
  have h1 := hx.chg.size
  have h2 := h.below.size
  exact ⟨⟨hx.disk, fun k hk => by rcases hk with hk | hk; (have := h.lo k hk; omega); omega, h.below.trans (hx.chg.below h2 fun k hk => (h.lo k hk).1), hm⟩, hx.chg⟩
theorem SessS.grow {S : Nat → Prop} {w0 w w' : World} {n Bd : Nat} {s : Dk.St} (h : SessS S w0 n Bd s w) (hb : Below w.heap.size w w') : SessS S w0 n Bd s w' :=
  ⟨h.disk.below hb, fun k hk => by have := h.lo k hk; have := hb.size; omega, h.below.trans (hb.mono h.below.size), h.small⟩
theorem SessS.mono {S : Nat → Prop} {w0 w : World} {n m Bd : Nat} {s : Dk.St} (h : SessS S w0 n Bd s w) (hm : n ≤ m) : SessS S w0 m Bd s w := ⟨h.disk, h.lo, h.below, h.small.mono hm⟩
/-- A row that is not the disk's grows. -/
theorem SessS.but {S : Nat → Prop} {w0 w w' : World} {n Bd : Nat} {s : Dk.St} {row : Option Nat} (h : SessS S w0 n Bd s w) (hg : w.grownBy w' row) (hr : ∀ k, row = some k → ¬ S k ∧ w0.heap.size ≤ k) : SessS S w0 n Bd s w' :=
  ⟨h.disk.kept fun k hk hlt => hg.block k hlt fun e => (hr k e.symm).1 hk, fun k hk => by have := h.lo k hk; have := hg.size; omega, h.below.grown hg h.below.size fun k hk => (hr k hk).2, h.small⟩

theorem new_sessS (room : Int) (w0 w : World) (hb : Below w0.heap.size w0 w) (h1 : 1 ≤ room) (h2 : room ≤ 4194304) :
    Calls Tryz.prog 41 #[.int .i64 room] w fun e w' => ∃ Bd, e = .returned (.tuple #[.pointer (some ⟨Bd, 0, none⟩), .nilIface]) ∧ SessS (fun k => w.heap.size ≤ k ∧ k < w'.heap.size) w0 0 Bd (Dk.St.new room) w' ∧ Below w.heap.size w w' := by
  refine (new_any room w h1 h2).mono ?_
  rintro e w' ⟨Bd, rfl, -, hd, hb2⟩
  exact ⟨Bd, rfl, ⟨hd, fun k hk => ⟨Nat.le_trans hb.size hk.1, hk.2⟩, hb.trans (hb2.mono hb.size), Dk.Small.new room h1 h2⟩, hb2⟩
theorem SessS.create {S : Nat → Prop} {w0 w : World} {n Bd : Nat} {s : Dk.St} (h : SessS S w0 n Bd s w) (p : Nat → Addr) (hs : SentsD w0 p) (hn : n ≤ 1000) (k : Dk.Nm) (hk : k.length ≤ 1000) (x : Nat) (hx : w.heap.size = x) :
    Calls Tryz.prog 43 #[.pointer (some ⟨Bd, 0, none⟩), encStr k] w fun e w' => e = .returned (errR p (s.create k x).1) ∧ SessS (Up S w w') w0 (n + 1) Bd (s.create k x).2 w' ∧ Chg S w w' := by
  subst hx
  exact (create_any Bd s S p k w (hs.at_ h.below) (h.safe hs) h.disk (h.small.fit hn) (by omega)).mono fun e w' ⟨he, hx⟩ => ⟨he, h.next hx (h.small.create hn k _)⟩
theorem SessS.crash {S : Nat → Prop} {w0 w : World} {n Bd : Nat} {s : Dk.St} (h : SessS S w0 n Bd s w) (hn : n ≤ 1000) (A : Option Addr) (c m : Nat) (zs : List Int) (hz : IntsArg w A c zs) (hl : zs.length = m) (hA : ∀ x o, A = some ⟨x, o, none⟩ → zs ≠ [] → ¬ S x ∧ x < w.heap.size) :
    Calls Tryz.prog 38 #[.pointer (some ⟨Bd, 0, none⟩), .slice A m c] w fun e w' => e = .returned (.tuple #[]) ∧ ∃ ys, (Dk.Order (s.settle (Dk.pick zs 0 s.since.length)) (s.settle (Dk.pick zs 0 s.since.length)).dur ys ∧ ∀ k ∈ ys, (s.files k).synced ≤ (s.files k).bytes.length) ∧ SessS (Up S w w') w0 n Bd (s.crash zs ys) w' ∧ Chg S w w' := by
  refine (crash_any Bd s S A c m zs w h.disk (h.small.fit hn) (by have := h.small.calls; omega) hz hl hA).mono fun e w' ⟨he, ys, ⟨ho, hy⟩, hd, hc⟩ => ⟨he, ys, ⟨ho, order_ref h.disk _ ys ho⟩, ?_, hc⟩
  have h1 := hc.size
  have h2 := h.below.size
  exact ⟨hd, fun k hk => by rcases hk with hk | hk; (have := h.lo k hk; omega); omega, h.below.trans (hc.below h2 fun k hk => (h.lo k hk).1), h.small.crash zs ys hy (order_ref h.disk _ ys ho)⟩
end Go.Proofs.YtfdppggdgdnnaaaGreatDoor

namespace Go.Proofs.YtfdppggdgdnnaaaGreatDoor
open Go.RowKit Go.Maps Go.Sort

theorem SessS.append {S : Nat → Prop} {w0 w : World} {n Bd : Nat} {s : Dk.St} (h : SessS S w0 n Bd s w) (p : Nat → Addr) (hs : SentsD w0 p) (hn : n ≤ 1000) (k : Dk.Nm) (hk : k.length ≤ 1000)
    (A : Option Addr) (c m : Nat) (b : Dk.Nm) (ha : Arg w A c b) (hl : b.length = m) (hm : m ≤ 1000) (hA : ∀ x o, A = some ⟨x, o, none⟩ → b ≠ [] → ¬ S x) :
    Calls Tryz.prog 44 #[.pointer (some ⟨Bd, 0, none⟩), encStr k, .slice A m c] w fun e w' => e = .returned (errR p (s.append k b).1) ∧ SessS (Up S w w') w0 (n + 1) Bd (s.append k b).2 w' ∧ Chg S w w' :=
  (append_any Bd s S p k A c m b w (hs.at_ h.below) (h.safe hs) h.disk (h.small.fit hn) (by omega) ha hl (by omega) hA).mono fun e w' ⟨he, hx⟩ => ⟨he, h.next hx (h.small.append hn k b (by omega))⟩
theorem SessS.appendQ {S : Nat → Prop} {w0 w : World} {n Bd : Nat} {s : Dk.St} (q : Nat) (hq : 1 ≤ q ∧ q ≤ 100) (h : SessS S w0 n Bd s w) (p : Nat → Addr) (hs : SentsD w0 p) (hn : n ≤ 1000) (k : Dk.Nm) (hk : k.length ≤ 1000)
    (A : Option Addr) (c m : Nat) (b : Dk.Nm) (ha : Arg w A c b) (hl : b.length = m) (hm : m ≤ 1000 * q) (hA : ∀ x o, A = some ⟨x, o, none⟩ → b ≠ [] → ¬ S x) :
    Calls Tryz.prog 44 #[.pointer (some ⟨Bd, 0, none⟩), encStr k, .slice A m c] w fun e w' => e = .returned (errR p (s.append k b).1) ∧ SessS (Up S w w') w0 (n + q) Bd (s.append k b).2 w' ∧ Chg S w w' :=
  (append_any Bd s S p k A c m b w (hs.at_ h.below) (h.safe hs) h.disk (h.small.fit hn) (by omega) ha hl (by omega) hA).mono fun e w' ⟨he, hx⟩ => ⟨he, h.next hx (h.small.appendQ q hq.1 k b (by omega))⟩
theorem SessS.cut {S : Nat → Prop} {w0 w : World} {n Bd : Nat} {s : Dk.St} (h : SessS S w0 n Bd s w) (p : Nat → Addr) (hs : SentsD w0 p) (hn : n ≤ 1000) (k : Dk.Nm) (hk : k.length ≤ 1000) (m : Int) :
    Calls Tryz.prog 89 #[.pointer (some ⟨Bd, 0, none⟩), encStr k, .int .i64 m] w fun e w' => e = .returned (errR p (s.cut k m).1) ∧ SessS (Up S w w') w0 (n + 1) Bd (s.cut k m).2 w' ∧ Chg S w w' :=
  (cut_any Bd s S p k m w (hs.at_ h.below) (h.safe hs) h.disk (h.small.fit hn) (by omega)).mono fun e w' ⟨he, hx⟩ => ⟨he, h.next hx (h.small.cut hn k m)⟩
theorem SessS.sync {S : Nat → Prop} {w0 w : World} {n Bd : Nat} {s : Dk.St} (h : SessS S w0 n Bd s w) (p : Nat → Addr) (hs : SentsD w0 p) (hn : n ≤ 1000) (k : Dk.Nm) (hk : k.length ≤ 1000) :
    Calls Tryz.prog 77 #[.pointer (some ⟨Bd, 0, none⟩), encStr k] w fun e w' => e = .returned (errR p (s.sync k).1) ∧ SessS (Up S w w') w0 (n + 1) Bd (s.sync k).2 w' ∧ Chg S w w' :=
  (sync_any Bd s S p k w (hs.at_ h.below) (h.safe hs) h.disk (h.small.fit hn) (by omega)).mono fun e w' ⟨he, hx⟩ => ⟨he, h.next hx (h.small.sync hn k)⟩
theorem SessS.syncDir {S : Nat → Prop} {w0 w : World} {n Bd : Nat} {s : Dk.St} (h : SessS S w0 n Bd s w) (p : Nat → Addr) (hs : SentsD w0 p) (hn : n ≤ 1000) :
    Calls Tryz.prog 78 #[.pointer (some ⟨Bd, 0, none⟩)] w fun e w' => e = .returned (errR p s.syncDir.1) ∧ SessS (Up S w w') w0 (n + 1) Bd s.syncDir.2 w' ∧ Chg S w w' :=
  (syncDir_any Bd s S p w (hs.at_ h.below) (h.safe hs) h.disk (h.small.fit hn)).mono fun _e _w' ⟨he, hx⟩ => ⟨he, h.next hx (h.small.syncDir hn)⟩
theorem SessS.len {S : Nat → Prop} {w0 w : World} {n Bd : Nat} {s : Dk.St} (h : SessS S w0 n Bd s w) (p : Nat → Addr) (hs : SentsD w0 p) (k : Dk.Nm) (hk : k.length ≤ 1000) :
    Calls Tryz.prog 39 #[.pointer (some ⟨Bd, 0, none⟩), encStr k] w fun e w' => e = .returned (.tuple #[.int .i64 (s.lenOf k), errR p (s.find k).1]) ∧ ∃ q, w' = w.drewN q :=
  len_any Bd s S p k w (hs.at_ h.below) h.disk (by omega)
theorem SessS.synced {S : Nat → Prop} {w0 w : World} {n Bd : Nat} {s : Dk.St} (h : SessS S w0 n Bd s w) (p : Nat → Addr) (hs : SentsD w0 p) (k : Dk.Nm) (hk : k.length ≤ 1000) :
    Calls Tryz.prog 79 #[.pointer (some ⟨Bd, 0, none⟩), encStr k] w fun e w' => e = .returned (.tuple #[.int .i64 (s.syncedOf k), errR p (s.find k).1]) ∧ ∃ q, w' = w.drewN q :=
  synced_any Bd s S p k w (hs.at_ h.below) h.disk (by omega)
theorem SessS.read {S : Nat → Prop} {w0 w : World} {n Bd : Nat} {s : Dk.St} (h : SessS S w0 n Bd s w) (p : Nat → Addr) (hs : SentsD w0 p) (hn : n ≤ 1000) (k : Dk.Nm) (hk : k.length ≤ 1000) (a m : Int) (ha : -9223372036854775808 ≤ a ∧ a ≤ 9223372036854775807) :
    Calls Tryz.prog 87 #[.pointer (some ⟨Bd, 0, none⟩), encStr k, .int .i64 a, .int .i64 m] w fun e w' => ∃ v, e = .returned (.tuple #[v, errR p (s.readOf k a m).1]) ∧ Own w' w.heap.size v (s.readOf k a m).2 ∧ Below w.heap.size w w' :=
  dRead_any Bd s S p k a m w (hs.at_ h.below) h.disk (by omega) (h.small.fit hn) ha
end Go.Proofs.YtfdppggdgdnnaaaGreatDoor

namespace Go.Proofs.YtfdppggdgdnnaaaGreatDoor.Dk

theorem keep_keep (f : File) (k : Nat) (m : Nat) (h1 : k ≤ m) (h2 : m ≤ k) : (f.keep k).keep m = f.keep k := by
  obtain rfl : k = m := by omega
  simp [File.keep, List.take_take]
/-- What is kept of each file. -/
theorem keepAll_file (picks : List Int) (x : Nat) : ∀ (l : List Nat) (i : Nat) (s : St), (∀ k ∈ l, (s.files k).synced ≤ (s.files k).bytes.length) →
    (x ∉ l → (St.keepAll picks i l s).files x = s.files x) ∧ (x ∈ l → ∃ j, i ≤ j ∧ j < i + l.length ∧ (St.keepAll picks i l s).files x = (s.files x).keep ((s.files x).synced + pick picks j ((s.files x).bytes.length - (s.files x).synced)))
  | [], _, s, _ => ⟨fun _ => rfl, fun h => absurd h List.not_mem_nil⟩
  | f :: fs, i, s, hs => by
    have hp := pick_le picks i ((s.files f).bytes.length - (s.files f).synced)
    have hsy := hs f (List.mem_cons_self ..)
    obtain ⟨m, hm⟩ : ∃ m, m = (s.files f).synced + pick picks i ((s.files f).bytes.length - (s.files f).synced) := ⟨_, rfl⟩
    have hms : ∀ k ∈ fs, ((s.setFile f ((s.files f).keep m)).files k).synced ≤ ((s.setFile f ((s.files f).keep m)).files k).bytes.length := fun k hk => by
      by_cases e : k = f
      · subst e; rw [setFile_same]; simp only [File.keep, List.length_take]; omega
      · rw [setFile_other _ _ _ _ e]; exact hs k (List.mem_cons_of_mem _ hk)
    obtain ⟨h1, h2⟩ := keepAll_file picks x fs (i + 1) { s.setFile f ((s.files f).keep m) with used := s.used + (m : Int) } hms
    have e : St.keepAll picks i (f :: fs) s = St.keepAll picks (i + 1) fs { s.setFile f ((s.files f).keep m) with used := s.used + (m : Int) } := by rw [hm]; rfl
    rw [e]
    refine ⟨fun hx => ?_, fun hx => ?_⟩
    · have hn : x ≠ f := fun e => hx (e ▸ List.mem_cons_self ..)
      rw [h1 fun h => hx (List.mem_cons_of_mem _ h)]
      exact setFile_other _ _ _ _ hn
    · by_cases ex : x = f
      · subst ex
        refine ⟨i, Nat.le_refl _, by simp, ?_⟩
        rw [← hm]
        by_cases hin : x ∈ fs
        · obtain ⟨j, -, -, k3⟩ := h2 hin
          have hp2 := pick_le picks j (((s.setFile x ((s.files x).keep m)).files x).bytes.length - ((s.setFile x ((s.files x).keep m)).files x).synced)
          rw [k3]
          show ((s.setFile x ((s.files x).keep m)).files x).keep (((s.setFile x ((s.files x).keep m)).files x).synced + pick picks j (((s.setFile x ((s.files x).keep m)).files x).bytes.length - ((s.setFile x ((s.files x).keep m)).files x).synced)) = _
          rw [setFile_same] at hp2 ⊢
          have e1 : ((s.files x).keep m).synced = m := rfl
          have e2 : ((s.files x).keep m).bytes.length = m := by simp only [File.keep, List.length_take]; omega
          rw [e1, e2] at hp2 ⊢
          exact keep_keep _ _ _ (by omega) (by omega)
        · rw [h1 hin]
          exact setFile_same _ _ _
      · have hin : x ∈ fs := by rcases List.mem_cons.1 hx with e | e; exact absurd e ex; exact e
        obtain ⟨j, k1, k2, k3⟩ := h2 hin
        have ef : (s.setFile f ((s.files f).keep m)).files x = s.files x := setFile_other _ _ _ _ ex
        refine ⟨j, by omega, by rw [List.length_cons]; omega, ?_⟩
        rw [k3]
        show ((s.setFile f ((s.files f).keep m)).files x).keep (((s.setFile f ((s.files f).keep m)).files x).synced + pick picks j (((s.setFile f ((s.files f).keep m)).files x).bytes.length - ((s.setFile f ((s.files f).keep m)).files x).synced)) = _
        rw [ef]
/-- The names behind a crash. -/
theorem crash_names (s : St) (picks : List Int) (ys : List Nat) : (s.crash picks ys).names = ons (s.since.take (pick picks 0 s.since.length)) s.dur ∧ (s.crash picks ys).dur = ons (s.since.take (pick picks 0 s.since.length)) s.dur ∧ (s.crash picks ys).since = [] ∧ (s.crash picks ys).down = false ∧ (s.crash picks ys).armed = 0 ∧ (s.crash picks ys).calls = s.calls ∧ (s.crash picks ys).room = s.room := by
  obtain ⟨a, b, c, d, e, g, h⟩ := keepAll_fix picks ys 1 { (s.settle (pick picks 0 s.since.length)) with names := (s.settle (pick picks 0 s.since.length)).dur, used := 0 }
  exact ⟨d, e, g, rfl, rfl, b, c⟩
/-- A file that has a name behind a crash. -/
theorem crash_file (s : St) (picks : List Int) (ys : List Nat) (hy : Order (s.settle (pick picks 0 s.since.length)) (s.settle (pick picks 0 s.since.length)).dur ys) (hs : ∀ k ∈ ys, (s.files k).synced ≤ (s.files k).bytes.length) (n : Nm) (x : Nat) (hn : (s.crash picks ys).names n = some x) :
    ∃ j, 1 ≤ j ∧ j < 1 + ys.length ∧ (s.crash picks ys).files x = (s.files x).keep ((s.files x).synced + pick picks j ((s.files x).bytes.length - (s.files x).synced)) := by
  obtain ⟨xs, ⟨ks, -, hk, hm⟩, hp, -⟩ := hy
  rw [(crash_names s picks ys).1] at hn
  have hd : (s.settle (pick picks 0 s.since.length)).dur n = some x := hn
  have hx : x ∈ ys := hp.mem_iff.2 <| by
    have h1 : n ∈ ks := (hk n).2 (by rw [hd]; intro e; cases e)
    have h2 : some x ∈ xs.map some := by rw [hm, ← hd]; exact List.mem_map_of_mem h1
    simpa using h2
  exact (keepAll_file picks x ys 1 { (s.settle (pick picks 0 s.since.length)) with names := (s.settle (pick picks 0 s.since.length)).dur, used := 0 } hs).2 hx
end Go.Proofs.YtfdppggdgdnnaaaGreatDoor.Dk

namespace Go.Proofs.YtfdppggdgdnnaaaGreatDoor.Dk

/-- What is known of a disk with power. -/
structure V (s : St) (room used calls : Int) (names dur : Dir) (since : List Mv) : Prop where
  room : s.room = room
  used : s.used = used
  calls : s.calls = calls
  names : s.names = names
  dur : s.dur = dur
  since : s.since = since
  armed : s.armed = 0
  down : s.down = false
theorem V.begin {s : St} {room used calls : Int} {names dur : Dir} {since : List Mv} (h : V s room used calls names dur since) : s.begin = s := by
  unfold St.begin; rw [if_neg (by have := h.armed; omega)]
theorem V.new (room : Int) : V (St.new room) room 0 0 (fun _ => none) (fun _ => none) [] := ⟨rfl, rfl, rfl, rfl, rfl, rfl, rfl, rfl⟩
theorem V.find {s : St} {room used calls : Int} {names dur : Dir} {since : List Mv} (h : V s room used calls names dur since) (k : Nm) (i : Nat) (hn : names k = some i) : s.find k = (none, some i) := by
  unfold St.find
  rw [h.down, h.names, hn]
  rfl
theorem V.find_none {s : St} {room used calls : Int} {names dur : Dir} {since : List Mv} (h : V s room used calls names dur since) (k : Nm) (hn : names k = none) : s.find k = (some 6, none) := by
  unfold St.find
  rw [h.down, h.names, hn]
  rfl
theorem on_to (k : Nm) (v : Option Nat) (f : Dir) (hk : k ≠ []) : (⟨[], k, v⟩ : Mv).on f = upd f k v := by
  unfold Mv.on
  rw [if_neg hk]
  rfl
theorem on_from (k : Nm) (v : Option Nat) (f : Dir) (hk : k ≠ []) : (⟨k, [], v⟩ : Mv).on f = upd f k none := by
  unfold Mv.on
  rw [if_pos rfl]
  show (if k = [] then f else _) = _
  rw [if_neg hk]
theorem on_both (k tn : Nm) (v : Option Nat) (f : Dir) (hk : k ≠ []) (ht : tn ≠ []) : (⟨k, tn, v⟩ : Mv).on f = upd (upd f k none) tn v := by
  unfold Mv.on
  rw [if_neg ht]
  show upd (if k = [] then f else _) tn v = _
  rw [if_neg hk]
theorem valid_ne {k : Nm} (h : valid k = true) : k ≠ [] := fun e => by subst e; simp [valid] at h
theorem V.create {s : St} {room used calls : Int} {names dur : Dir} {since : List Mv} (h : V s room used calls names dur since) (k : Nm) (i : Nat) (hv : valid k = true) (hn : names k = none) :
    ∃ s', s.create k i = (none, s') ∧ V s' room used (calls + 1) (upd names k (some i)) dur (since ++ [⟨[], k, some i⟩]) ∧ s'.files i = ⟨calls, [], 0⟩ ∧ ∀ x, x ≠ i → s'.files x = s.files x := by
  refine ⟨(s.setFile i ⟨s.calls, [], 0⟩).doMove ⟨[], k, some i⟩, ?_, ⟨h.room, h.used, by show s.calls + 1 = _; rw [h.calls], ?_, h.dur, by show s.since ++ _ = _; rw [h.since], h.armed, h.down⟩, ?_, fun x hx => setFile_other _ _ _ _ hx⟩
  · unfold St.create
    rw [h.begin, if_neg (by rw [h.down]; simp), if_neg (by rw [hv]; simp), if_neg (by rw [h.names, hn]; simp)]
  · show Mv.on _ s.names = _
    rw [on_to _ _ _ (valid_ne hv), h.names]
  · show (s.setFile i ⟨s.calls, [], 0⟩).files i = _
    rw [setFile_same, h.calls]
theorem V.create_there {s : St} {room used calls : Int} {names dur : Dir} {since : List Mv} (h : V s room used calls names dur since) (k : Nm) (i j : Nat) (hv : valid k = true) (hn : names k = some j) : s.create k i = (some 7, s) := by
  unfold St.create
  rw [h.begin, if_neg (by rw [h.down]; simp), if_neg (by rw [hv]; simp), if_pos (by rw [h.names, hn]; simp)]
theorem V.append {s : St} {room used calls : Int} {names dur : Dir} {since : List Mv} (h : V s room used calls names dur since) (k : Nm) (i : Nat) (b : Nm) (hn : names k = some i) (hr : (b.length : Int) ≤ room - used) :
    ∃ s', s.append k b = (none, s') ∧ V s' room (used + b.length) (calls + 1) names dur since ∧ s'.files i = { s.files i with bytes := (s.files i).bytes ++ b } ∧ ∀ x, x ≠ i → s'.files x = s.files x := by
  refine ⟨{ s.setFile i { s.files i with bytes := (s.files i).bytes ++ b } with used := s.used + b.length, calls := s.calls + 1 }, ?_, ⟨h.room, by show s.used + _ = _; rw [h.used], by show s.calls + 1 = _; rw [h.calls], h.names, h.dur, h.since, h.armed, h.down⟩, setFile_same _ _ _, fun x hx => setFile_other _ _ _ _ hx⟩
  unfold St.append
  rw [h.begin, h.find k i hn]
  simp only
  rw [if_neg (by rw [h.room, h.used]; omega)]
theorem V.append_full {s : St} {room used calls : Int} {names dur : Dir} {since : List Mv} (h : V s room used calls names dur since) (k : Nm) (i : Nat) (b : Nm) (hn : names k = some i) (hr : room - used < (b.length : Int)) : s.append k b = (some 8, s) := by
  unfold St.append
  rw [h.begin, h.find k i hn]
  simp only
  rw [if_pos (by rw [h.room, h.used]; exact hr)]
theorem V.append_none {s : St} {room used calls : Int} {names dur : Dir} {since : List Mv} (h : V s room used calls names dur since) (k : Nm) (b : Nm) (hn : names k = none) : s.append k b = (some 6, s) := by
  unfold St.append
  rw [h.begin, h.find_none k hn]
theorem V.cut {s : St} {room used calls : Int} {names dur : Dir} {since : List Mv} (h : V s room used calls names dur since) (k : Nm) (i : Nat) (n : Nat) (hn : names k = some i) (hr : n ≤ (s.files i).bytes.length) :
    ∃ s', s.cut k n = (none, s') ∧ V s' room (used - (((s.files i).bytes.length : Int) - n)) (calls + 1) names dur since ∧ s'.files i = (s.files i).keep n ∧ ∀ x, x ≠ i → s'.files x = s.files x := by
  refine ⟨{ s.setFile i ((s.files i).keep n) with used := s.used - (((s.files i).bytes.length : Int) - n), calls := s.calls + 1 }, ?_, ⟨h.room, by show s.used - _ = _; rw [h.used], by show s.calls + 1 = _; rw [h.calls], h.names, h.dur, h.since, h.armed, h.down⟩, setFile_same _ _ _, fun x hx => setFile_other _ _ _ _ hx⟩
  unfold St.cut
  rw [h.begin, h.find k i hn]
  simp only
  rw [if_neg (by omega)]
  rfl
theorem V.cut_bad {s : St} {room used calls : Int} {names dur : Dir} {since : List Mv} (h : V s room used calls names dur since) (k : Nm) (i : Nat) (n : Int) (hn : names k = some i) (hr : n < 0 ∨ ((s.files i).bytes.length : Int) < n) : s.cut k n = (some 4, s) := by
  unfold St.cut
  rw [h.begin, h.find k i hn]
  simp only
  rw [if_pos hr]
theorem V.sync {s : St} {room used calls : Int} {names dur : Dir} {since : List Mv} (h : V s room used calls names dur since) (k : Nm) (i : Nat) (hn : names k = some i) :
    ∃ s', s.sync k = (none, s') ∧ V s' room used (calls + 1) names dur since ∧ s'.files i = { s.files i with synced := (s.files i).bytes.length } ∧ ∀ x, x ≠ i → s'.files x = s.files x := by
  refine ⟨{ s.setFile i ((s.files i).keep (s.files i).bytes.length) with calls := s.calls + 1 }, ?_, ⟨h.room, h.used, by show s.calls + 1 = _; rw [h.calls], h.names, h.dur, h.since, h.armed, h.down⟩, ?_, fun x hx => setFile_other _ _ _ _ hx⟩
  · unfold St.sync
    rw [h.begin, h.find k i hn]
  · show (s.setFile i _).files i = _
    rw [setFile_same]
    simp [File.keep]
theorem V.sync_none {s : St} {room used calls : Int} {names dur : Dir} {since : List Mv} (h : V s room used calls names dur since) (k : Nm) (hn : names k = none) : s.sync k = (some 6, s) := by
  unfold St.sync
  rw [h.begin, h.find_none k hn]
theorem V.syncDir {s : St} {room used calls : Int} {names dur : Dir} {since : List Mv} (h : V s room used calls names dur since) :
    ∃ s', s.syncDir = (none, s') ∧ V s' room used (calls + 1) names (ons since dur) [] ∧ ∀ x, s'.files x = s.files x := by
  refine ⟨{ s.settle s.since.length with calls := s.calls + 1 }, ?_, ⟨h.room, h.used, by show s.calls + 1 = _; rw [h.calls], h.names, ?_, rfl, h.armed, h.down⟩, fun x => rfl⟩
  · unfold St.syncDir
    rw [h.begin, if_neg (by rw [h.down]; simp)]
  · show ons (s.since.take s.since.length) s.dur = _
    rw [List.take_length, h.since, h.dur]
theorem V.remove {s : St} {room used calls : Int} {names dur : Dir} {since : List Mv} (h : V s room used calls names dur since) (k : Nm) (i : Nat) (hk : k ≠ []) (hn : names k = some i) :
    ∃ s', s.remove k = (none, s') ∧ V s' room (used - (s.files i).bytes.length) (calls + 1) (upd names k none) dur (since ++ [⟨k, [], none⟩]) ∧ ∀ x, s'.files x = s.files x := by
  refine ⟨{ s with used := s.used - (s.files i).bytes.length }.doMove ⟨k, [], none⟩, ?_, ⟨h.room, by show s.used - _ = _; rw [h.used], by show s.calls + 1 = _; rw [h.calls], ?_, h.dur, by show s.since ++ _ = _; rw [h.since], h.armed, h.down⟩, fun x => rfl⟩
  · unfold St.remove
    rw [h.begin, h.find k i hn]
  · show (⟨k, [], none⟩ : Mv).on s.names = _
    rw [on_from _ _ _ hk, h.names]
theorem V.remove_none {s : St} {room used calls : Int} {names dur : Dir} {since : List Mv} (h : V s room used calls names dur since) (k : Nm) (hn : names k = none) : s.remove k = (some 6, s) := by
  unfold St.remove
  rw [h.begin, h.find_none k hn]
theorem V.rename_none {s : St} {room used calls : Int} {names dur : Dir} {since : List Mv} (h : V s room used calls names dur since) (k tn : Nm) (hn : names k = none) : s.rename k tn = (some 6, s) := by
  unfold St.rename
  rw [h.begin, h.find_none k hn]
theorem V.rename {s : St} {room used calls : Int} {names dur : Dir} {since : List Mv} (h : V s room used calls names dur since) (k tn : Nm) (i : Nat) (hk : k ≠ []) (hv : valid tn = true) (hn : names k = some i) :
    ∃ s', s.rename k tn = (none, s') ∧ V s' room (match names tn with | none => used | some o => if o = i then used else used - (s.files o).bytes.length) (calls + 1) (upd (upd names k none) tn (some i)) dur (since ++ [⟨k, tn, some i⟩]) ∧ ∀ x, s'.files x = s.files x := by
  refine ⟨{ s with used := match s.names tn with | none => s.used | some o => if o = i then s.used else s.used - (s.files o).bytes.length }.doMove ⟨k, tn, some i⟩, ?_, ⟨h.room, ?_, by show s.calls + 1 = _; rw [h.calls], ?_, h.dur, by show s.since ++ _ = _; rw [h.since], h.armed, h.down⟩, fun x => rfl⟩
  · unfold St.rename
    rw [h.begin, h.find k i hn]
    simp only
    rw [if_neg (by rw [hv]; simp)]
    rfl
  · show (match s.names tn with | none => s.used | some o => if o = i then s.used else s.used - (s.files o).bytes.length) = _
    rw [h.names, h.used]
  · show (⟨k, tn, some i⟩ : Mv).on s.names = _
    rw [on_both _ _ _ _ hk (valid_ne hv), h.names]
theorem V.len {s : St} {room used calls : Int} {names dur : Dir} {since : List Mv} (h : V s room used calls names dur since) (k : Nm) (i : Nat) (hn : names k = some i) : s.lenOf k = ((s.files i).bytes.length : Int) ∧ s.syncedOf k = ((s.files i).synced : Int) := by
  unfold St.lenOf St.syncedOf
  rw [h.find k i hn]
  exact ⟨rfl, rfl⟩
theorem V.len_none {s : St} {room used calls : Int} {names dur : Dir} {since : List Mv} (h : V s room used calls names dur since) (k : Nm) (hn : names k = none) : s.lenOf k = 0 ∧ s.syncedOf k = 0 := by
  unfold St.lenOf St.syncedOf
  rw [h.find_none k hn]
  exact ⟨rfl, rfl⟩
theorem V.read {s : St} {room used calls : Int} {names dur : Dir} {since : List Mv} (h : V s room used calls names dur since) (k : Nm) (i n : Nat) (hn : names k = some i) (hr : n ≤ (s.files i).bytes.length) : s.readOf k 0 n = (none, (s.files i).bytes.take n) := by
  unfold St.readOf
  rw [h.find k i hn]
  simp only
  rw [if_neg (by omega)]
  simp
/-- A crash. -/
theorem V.crash {s : St} {room used calls : Int} {names dur : Dir} {since : List Mv} (h : V s room used calls names dur since) (picks : List Int) (ys : List Nat) (hy : Order (s.settle (pick picks 0 s.since.length)) (s.settle (pick picks 0 s.since.length)).dur ys) (hs : ∀ k ∈ ys, (s.files k).synced ≤ (s.files k).bytes.length) :
    ∃ m, m ≤ since.length ∧ m = pick picks 0 since.length ∧ V (s.crash picks ys) room (s.crash picks ys).used calls (ons (since.take m) dur) (ons (since.take m) dur) [] ∧ ∀ n x, ons (since.take m) dur n = some x → ∃ j, 1 ≤ j ∧ j < 1 + ys.length ∧ (s.crash picks ys).files x = (s.files x).keep ((s.files x).synced + pick picks j ((s.files x).bytes.length - (s.files x).synced)) := by
  obtain ⟨a, b, c, d, e, f, g⟩ := crash_names s picks ys
  refine ⟨pick picks 0 since.length, pick_le _ _ _, rfl, ⟨by rw [g, h.room], rfl, by rw [f, h.calls], by rw [a, h.since, h.dur], by rw [b, h.since, h.dur], c, e, d⟩, fun n x hn => ?_⟩
  exact crash_file s picks ys hy hs n x (by rw [a, h.since, h.dur]; exact hn)
end Go.Proofs.YtfdppggdgdnnaaaGreatDoor.Dk
