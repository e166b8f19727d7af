/-
  A disk under a walk: all its blocks are new since the walk began, its numbers are small; each call, so.
-/
import Derived.Test.YtnjcngmmgceijaaDoorDkJ
namespace Go.Proofs.YtnjcngmmgceijaaDoor.Dk

/-- Numbers of a disk that has been told at most n things, of at most a thousand bytes each. -/
structure Small (s : St) (n : Nat) : Prop where
  armed : -9223372036854775808 ≤ s.armed ∧ s.armed ≤ 9223372036854775807
  calls : 0 ≤ s.calls ∧ s.calls ≤ n
  used : -(1000000000 * (n : Int)) ≤ s.used ∧ s.used ≤ 1000000000 * (n : Int)
  room : 0 ≤ s.room ∧ s.room ≤ 4194304
  file : ∀ i, (s.files i).bytes.length ≤ 1000 * n
theorem Small.fit {s : St} {n : Nat} (h : Small s n) (hn : n ≤ 1000) : Fit s :=
  ⟨h.armed, by have := h.calls; omega, by have := h.used; omega, by have := h.room; omega, fun i => by have := h.file i; omega⟩
theorem Small.mono {s : St} {n m : Nat} (h : Small s n) (hm : n ≤ m) : Small s m :=
  ⟨h.armed, by have := h.calls; omega, by have := h.used; omega, h.room, fun i => by have := h.file i; have := Nat.mul_le_mul_left 1000 hm; omega⟩
theorem Small.new (room : Int) (h1 : 1 ≤ room) (h2 : room ≤ 4194304) : Small (St.new room) 0 :=
  ⟨by simp [St.new], by simp [St.new], by simp [St.new], by simp only [St.new]; omega, fun i => by simp [St.new, default, instInhabitedFile.default]⟩
theorem Small.begin {s : St} {n : Nat} (h : Small s n) : Small s.begin n := by
  unfold St.begin
  split
  · exact ⟨by have := h.armed; show _ ≤ s.armed - 1 ∧ s.armed - 1 ≤ _; omega, h.calls, h.used, h.room, h.file⟩
  · exact h
theorem Small.arm {s : St} {n : Nat} (h : Small s n) (a : Int) (ha : -9223372036854775808 ≤ a ∧ a ≤ 9223372036854775807) : Small { s with armed := a } n := ⟨ha, h.calls, h.used, h.room, h.file⟩
theorem Small.setFile {s : St} {n : Nat} (h : Small s n) (i : Nat) (f : File) (hf : f.bytes.length ≤ 1000 * n) : Small (s.setFile i f) n :=
  ⟨h.armed, h.calls, h.used, h.room, fun k => by
    by_cases e : k = i
    · subst e; rw [setFile_same]; exact hf
    · rw [setFile_other _ _ _ _ e]; exact h.file k⟩
/-- Told one thing more. -/
theorem Small.more {s t : St} {n : Nat} (h : Small s n) (ha : t.armed = s.armed) (hc : t.calls = s.calls + 1) (hr : t.room = s.room) (hf : ∀ i, (t.files i).bytes.length ≤ 1000 * n + 1000)
    (hu : s.used - 1000 * n ≤ t.used ∧ t.used ≤ s.used + 1000) (hn : n ≤ 1000) : Small t (n + 1) := by
  have h1 := h.calls
  have h2 := h.used
  exact ⟨by rw [ha]; exact h.armed, by rw [hc]; omega, by omega, by rw [hr]; exact h.room, fun i => by have := hf i; omega⟩
theorem Small.create {s : St} {n : Nat} (h : Small s n) (hn : n ≤ 1000) (k : Nm) (i : Nat) : Small (s.create k i).2 (n + 1) := by
  have hb := h.begin
  unfold St.create
  split
  · exact hb.mono (by omega)
  split
  · exact hb.mono (by omega)
  split
  · exact hb.mono (by omega)
  · refine (hb.setFile i ⟨s.begin.calls, [], 0⟩ (by simp)).more rfl rfl rfl (fun j => by have := (hb.setFile i ⟨s.begin.calls, [], 0⟩ (by simp)).file j; exact Nat.le_trans this (by omega)) ?_ hn
    simp only [St.doMove, St.setFile]
    omega
theorem Small.append {s : St} {n : Nat} (h : Small s n) (hn : n ≤ 1000) (k : Nm) (b : Nm) (hl : b.length ≤ 1000) : Small (s.append k b).2 (n + 1) := by
  have hb := h.begin
  unfold St.append
  rcases find_cases s.begin k with ⟨j, hf⟩ | ⟨i, hf, _⟩
  · rw [hf]; exact hb.mono (by omega)
  · rw [hf]
    simp only
    split
    · exact hb.mono (by omega)
    · refine hb.more rfl rfl rfl (fun j => ?_) ?_ hn
      · show ((s.begin.setFile i _).files j).bytes.length ≤ _
        by_cases e : j = i
        · subst e; rw [setFile_same]; have := hb.file j; simp; omega
        · rw [setFile_other _ _ _ _ e]; have := hb.file j; omega
      · show _ ≤ s.begin.used + (b.length : Int) ∧ s.begin.used + (b.length : Int) ≤ _
        omega
theorem Small.cut {s : St} {n : Nat} (h : Small s n) (hn : n ≤ 1000) (k : Nm) (m : Int) : Small (s.cut k m).2 (n + 1) := by
  have hb := h.begin
  unfold St.cut
  rcases find_cases s.begin k with ⟨j, hf⟩ | ⟨i, hf, _⟩
  · rw [hf]; exact hb.mono (by omega)
  · rw [hf]
    simp only
    split
    · exact hb.mono (by omega)
    · have hfi := hb.file i
      refine hb.more rfl rfl rfl (fun j => ?_) ?_ hn
      · show ((s.begin.setFile i _).files j).bytes.length ≤ _
        by_cases e : j = i
        · subst e; rw [setFile_same]; simp only [File.keep, List.length_take]; omega
        · rw [setFile_other _ _ _ _ e]; have := hb.file j; omega
      · show _ ≤ s.begin.used - (((s.begin.files i).bytes.length : Int) - m) ∧ s.begin.used - (((s.begin.files i).bytes.length : Int) - m) ≤ _
        omega
theorem Small.sync {s : St} {n : Nat} (h : Small s n) (hn : n ≤ 1000) (k : Nm) : Small (s.sync k).2 (n + 1) := by
  have hb := h.begin
  unfold St.sync
  rcases find_cases s.begin k with ⟨j, hf⟩ | ⟨i, hf, _⟩
  · rw [hf]; exact hb.mono (by omega)
  · rw [hf]
    simp only
    refine hb.more rfl rfl rfl (fun j => ?_) ?_ hn
    · show ((s.begin.setFile i _).files j).bytes.length ≤ _
      by_cases e : j = i
      · subst e; rw [setFile_same]; have := hb.file j; simp only [File.keep, List.length_take]; omega
      · rw [setFile_other _ _ _ _ e]; have := hb.file j; omega
    · show _ ≤ s.begin.used ∧ s.begin.used ≤ _
      omega
theorem Small.rename {s : St} {n : Nat} (h : Small s n) (hn : n ≤ 1000) (k to : Nm) : Small (s.rename k to).2 (n + 1) := by
  have hb := h.begin
  unfold St.rename
  rcases find_cases s.begin k with ⟨j, hf⟩ | ⟨i, hf, _⟩
  · rw [hf]; exact hb.mono (by omega)
  · rw [hf]
    simp only
    split
    · exact hb.mono (by omega)
    · refine hb.more rfl rfl rfl (fun j => by have := hb.file j; exact Nat.le_trans this (by omega)) ?_ hn
      show _ ≤ (match s.begin.names to with | none => s.begin.used | some o => if o = i then s.begin.used else s.begin.used - (s.begin.files o).bytes.length) ∧ (match s.begin.names to with | none => s.begin.used | some o => if o = i then s.begin.used else s.begin.used - (s.begin.files o).bytes.length) ≤ _
      split
      · omega
      · rename_i o _
        have := hb.file o
        by_cases e : o = i
        · rw [if_pos e]; omega
        · rw [if_neg e]; omega
theorem Small.remove {s : St} {n : Nat} (h : Small s n) (hn : n ≤ 1000) (k : Nm) : Small (s.remove k).2 (n + 1) := by
  have hb := h.begin
  unfold St.remove
  rcases find_cases s.begin k with ⟨j, hf⟩ | ⟨i, hf, _⟩
  · rw [hf]; exact hb.mono (by omega)
  · rw [hf]
    simp only
    have hfi := hb.file i
    refine hb.more rfl rfl rfl (fun j => by have := hb.file j; exact Nat.le_trans this (by omega)) ?_ hn
    show _ ≤ s.begin.used - ((s.begin.files i).bytes.length : Int) ∧ s.begin.used - ((s.begin.files i).bytes.length : Int) ≤ _
    omega
theorem Small.syncDir {s : St} {n : Nat} (h : Small s n) (hn : n ≤ 1000) : Small s.syncDir.2 (n + 1) := by
  have hb := h.begin
  unfold St.syncDir
  split
  · exact hb.mono (by omega)
  · refine hb.more rfl rfl rfl (fun j => by have := hb.file j; exact Nat.le_trans this (by omega)) ?_ hn
    show _ ≤ s.begin.used ∧ s.begin.used ≤ _
    omega
theorem keepAll_fix (picks : List Int) : ∀ (l : List Nat) (i : Nat) (s : St), (St.keepAll picks i l s).armed = s.armed ∧ (St.keepAll picks i l s).calls = s.calls ∧ (St.keepAll picks i l s).room = s.room ∧ (St.keepAll picks i l s).names = s.names ∧ (St.keepAll picks i l s).dur = s.dur ∧ (St.keepAll picks i l s).since = s.since ∧ (St.keepAll picks i l s).down = s.down
  | [], _, _ => ⟨rfl, rfl, rfl, rfl, rfl, rfl, rfl⟩
  | f :: fs, i, s => by
    obtain ⟨a, b, c, d, e, g, h⟩ := keepAll_fix picks fs (i + 1) { s.setFile f ((s.files f).keep ((s.files f).synced + pick picks i ((s.files f).bytes.length - (s.files f).synced))) with used := s.used + (((s.files f).synced + pick picks i ((s.files f).bytes.length - (s.files f).synced) : Nat) : Int) }
    exact ⟨a, b, c, d, e, g, h⟩
/-- Files are never longer behind it; what is used is bounded. -/
theorem keepAll_len (picks : List Int) (M : Nat) : ∀ (l : List Nat) (i : Nat) (s : St), (∀ k, (s.files k).bytes.length ≤ M) → (∀ k ∈ l, (s.files k).synced ≤ (s.files k).bytes.length) → 
    (∀ k, ((St.keepAll picks i l s).files k).bytes.length ≤ M) ∧ s.used ≤ (St.keepAll picks i l s).used ∧ (St.keepAll picks i l s).used ≤ s.used + M * l.length
  | [], _, s, h, _ => ⟨h, Int.le_refl _, by simp [St.keepAll]⟩
  | f :: fs, i, s, h, hs => by
    have hp := pick_le picks i ((s.files f).bytes.length - (s.files f).synced)
    have hsy := hs f (List.mem_cons_self ..)
    have hM := h f
    have hfl : ∀ k, (({ s.setFile f ((s.files f).keep ((s.files f).synced + pick picks i ((s.files f).bytes.length - (s.files f).synced))) with used := s.used + (((s.files f).synced + pick picks i ((s.files f).bytes.length - (s.files f).synced) : Nat) : Int) } : St).files k).bytes.length ≤ M ∧ (k ∈ fs → (({ s.setFile f ((s.files f).keep ((s.files f).synced + pick picks i ((s.files f).bytes.length - (s.files f).synced))) with used := s.used + (((s.files f).synced + pick picks i ((s.files f).bytes.length - (s.files f).synced) : Nat) : Int) } : St).files k).synced ≤ (({ s.setFile f ((s.files f).keep ((s.files f).synced + pick picks i ((s.files f).bytes.length - (s.files f).synced))) with used := s.used + (((s.files f).synced + pick picks i ((s.files f).bytes.length - (s.files f).synced) : Nat) : Int) } : St).files k).bytes.length) := fun k => by
      show ((s.setFile f _).files k).bytes.length ≤ M ∧ (k ∈ fs → ((s.setFile f _).files k).synced ≤ ((s.setFile f _).files k).bytes.length)
      by_cases e : k = f
      · subst e; rw [setFile_same]; simp only [File.keep, List.length_take]; omega
      · rw [setFile_other _ _ _ _ e]; exact ⟨h k, fun hk => hs k (List.mem_cons_of_mem _ hk)⟩
    obtain ⟨h1, h2, h3⟩ := keepAll_len picks M fs (i + 1) { s.setFile f ((s.files f).keep ((s.files f).synced + pick picks i ((s.files f).bytes.length - (s.files f).synced))) with used := s.used + (((s.files f).synced + pick picks i ((s.files f).bytes.length - (s.files f).synced) : Nat) : Int) } (fun k => (hfl k).1) (fun k hk => (hfl k).2 hk)
    simp only at h2 h3
    refine ⟨h1, ?_, ?_⟩
    · exact Int.le_trans (by omega) h2
    · refine Int.le_trans h3 ?_
      have e : (M : Int) * ((f :: fs).length : Int) = M * (fs.length : Int) + M := by rw [List.length_cons]; push_cast; rw [Int.mul_add, Int.mul_one]
      rw [e]
      omega
theorem Small.crash {s : St} {n : Nat} (h : Small s n) (picks : List Int) (ys : List Nat) (hy : ys.length ≤ 1000000) (hs : ∀ k ∈ ys, (s.files k).synced ≤ (s.files k).bytes.length) : Small (s.crash picks ys) n := by
  have hf := keepAll_fix picks ys 1 { (s.settle (pick picks 0 s.since.length)) with names := (s.settle (pick picks 0 s.since.length)).dur, used := 0 }
  have hl := keepAll_len picks (1000 * n) ys 1 { (s.settle (pick picks 0 s.since.length)) with names := (s.settle (pick picks 0 s.since.length)).dur, used := 0 } (fun k => h.file k) hs
  unfold St.crash
  simp only
  generalize St.keepAll picks 1 ys { (s.settle (pick picks 0 s.since.length)) with names := (s.settle (pick picks 0 s.since.length)).dur, used := 0 } = t at *
  obtain ⟨f1, f2, f3, -⟩ := hf
  obtain ⟨l1, l2, l3⟩ := hl
  refine ⟨by simp, ?_, ?_, ?_, l1⟩
  · show 0 ≤ t.calls ∧ t.calls ≤ n
    rw [f2]; exact h.calls
  · show _ ≤ t.used ∧ t.used ≤ _
    have hm : ((1000 * n : Nat) : Int) * (ys.length : Int) ≤ ((1000 * n : Nat) : Int) * 1000000 := Int.mul_le_mul_of_nonneg_left (by omega) (by omega)
    simp only at l2 l3
    omega
  · show 0 ≤ t.room ∧ t.room ≤ _
    rw [f3]; exact h.room
end Go.Proofs.YtnjcngmmgceijaaDoor.Dk

namespace Go.Proofs.YtnjcngmmgceijaaDoor
open Go.RowKit Go.Maps

/-- All of a disk's blocks are there. -/
theorem IsDisk.tight {w : World} {Bd : Nat} {s : Dk.St} {S : Nat → Prop} (h : IsDisk w Bd s S) : IsDisk w Bd s (fun k => S k ∧ k < w.heap.size) := by
  obtain ⟨nb, db, sv, ids, row, h⟩ := h
  have lt : ∀ {k : Nat} {o : Obj}, w.heap[k]? = some o → k < w.heap.size := fun h => (Array.getElem?_eq_some_iff.1 h).1
  obtain ⟨m, hd, hm⟩ := h.dur
  exact ⟨nb, db, sv, ids, row, { h with mBd := ⟨h.mBd, lt h.box⟩, mnb := ⟨h.mnb, h.names.lt⟩, mdb := ⟨h.mdb, hd.lt⟩, msv := fun g hg => ⟨h.msv g hg, (h.since.lt g hg).2⟩, mid := fun i hi => ⟨h.mid i hi, lt (h.file i hi).box⟩, mrow := fun i hi g hg => ⟨h.mrow i hi g hg, ((h.file i hi).row.lt g hg).2⟩ }⟩
/-- What a name leads to is a file of the disk: it lies there, and is synced no farther than it is long. -/
theorem IsDisk.ref {w : World} {Bd : Nat} {s : Dk.St} {S : Nat → Prop} (h : IsDisk w Bd s S) : (∀ k i, s.names k = some i → i < w.heap.size ∧ (s.files i).synced ≤ (s.files i).bytes.length ∧ k.length ≤ 64) ∧ (∀ k i, s.dur k = some i → i < w.heap.size ∧ (s.files i).synced ≤ (s.files i).bytes.length ∧ k.length ≤ 64) ∧ (∀ m ∈ s.since, ∀ i, m.file = some i → i < w.heap.size ∧ (s.files i).synced ≤ (s.files i).bytes.length) := by
  obtain ⟨nb, db, sv, ids, row, h⟩ := h
  have lt : ∀ {k : Nat} {o : Obj}, w.heap[k]? = some o → k < w.heap.size := fun h => (Array.getElem?_eq_some_iff.1 h).1
  exact ⟨fun k i hk => ⟨lt (h.file i (h.nref k i hk).1).box, (h.file i (h.nref k i hk).1).sync, (h.nref k i hk).2.2⟩, fun k i hk => ⟨lt (h.file i (h.dref k i hk).1).box, (h.file i (h.dref k i hk).1).sync, (h.dref k i hk).2.2⟩, fun m hm i hi => ⟨lt (h.file i ((h.sref m hm).1 i hi)).box, (h.file i ((h.sref m hm).1 i hi)).sync⟩⟩

/-- A disk under a walk that began in w0. -/
structure Sess (w0 : World) (n Bd : Nat) (s : Dk.St) (w : World) : Prop where
  disk : IsDisk w Bd s (fun k => w0.heap.size ≤ k ∧ k < w.heap.size)
  below : Below w0.heap.size w0 w
  small : Dk.Small s n
theorem safe_of {w0 : World} {p : Nat → Addr} (hs : SentsD w0 p) (T : Nat) : Safe (fun k => w0.heap.size ≤ k ∧ k < T) p :=
  ⟨fun j h1 h2 h3 => by have := hs.size j ⟨h1, h2⟩; have := h3.1; omega, fun j h1 h2 h3 => by have := (hs.blk j ⟨h1, h2⟩).1; have := h3.1; omega⟩
theorem SentsOn.at_ {w0 w : World} {p : Nat → Addr} (hs : SentsD w0 p) (h : Below w0.heap.size w0 w) : SentsD w p := hs.below h
theorem Sess.next {w0 w w' : World} {n m Bd : Nat} {s s' : Dk.St} (h : Sess w0 n Bd s w) (hx : Next w Bd (fun k => w0.heap.size ≤ k ∧ k < w.heap.size) s' w') (hm : Dk.Small s' m) : Sess w0 m Bd s' w' := by
  have hsz := hx.chg.size
  exact ⟨hx.disk.mono fun k hk => by rcases hk with hk | hk <;> have := h.below.size <;> (show _ ∧ _) <;> omega, h.below.trans (hx.chg.below h.below.size fun k hk => hk.1), hm⟩
/-- New blocks change nothing. -/
theorem Sess.grow {w0 w w' : World} {n Bd : Nat} {s : Dk.St} (h : Sess w0 n Bd s w) (hb : Below w.heap.size w w') : Sess w0 n Bd s w' :=
  ⟨(h.disk.below hb).mono fun k hk => ⟨hk.1, Nat.lt_of_lt_of_le hk.2 hb.size⟩, h.below.trans (hb.mono h.below.size), h.small⟩
theorem Sess.mono {w0 w : World} {n m Bd : Nat} {s : Dk.St} (h : Sess w0 n Bd s w) (hm : n ≤ m) : Sess w0 m Bd s w := ⟨h.disk, h.below, h.small.mono hm⟩
theorem Sess.drewN {w0 w : World} {n Bd : Nat} {s : Dk.St} (h : Sess w0 n Bd s w) (q : Nat) : Sess w0 n Bd s (w.drewN q) := h.grow ⟨rfl, rfl, rfl, Nat.le_refl _, fun _ _ => rfl⟩

theorem new_sess (room : Int) (w0 w : World) (hb : Below w0.heap.size w0 w) (h1 : 1 ≤ room) (h2 : room ≤ 4194304) :
    Calls Tryd.prog 9 #[.int .i64 room] w fun e w' => ∃ Bd, e = .returned (.tuple #[.pointer (some ⟨Bd, 0, none⟩), .nilIface]) ∧ Sess w0 0 Bd (Dk.St.new room) w' ∧ w.heap.size ≤ Bd := by
  refine (new_any room w h1 h2).mono ?_
  rintro e w' ⟨Bd, rfl, hB, hd, hb2⟩
  exact ⟨Bd, rfl, ⟨hd.mono fun k hk => ⟨Nat.le_trans hb.size hk.1, hk.2⟩, hb.trans (hb2.mono hb.size), Dk.Small.new room h1 h2⟩, hB⟩
theorem Sess.create {w0 w : World} {n Bd : Nat} {s : Dk.St} (h : Sess w0 n Bd s w) (p : Nat → Addr) (hs : SentsD w0 p) (hn : n ≤ 1000) (k : Dk.Nm) (hk : k.length ≤ 1000) :
    Calls Tryd.prog 12 #[.pointer (some ⟨Bd, 0, none⟩), encStr k] w fun e w' => e = .returned (errR p (s.create k w.heap.size).1) ∧ Sess w0 (n + 1) Bd (s.create k w.heap.size).2 w' :=
  (create_any Bd s _ p k w (hs.at_ h.below) (safe_of hs _) h.disk (h.small.fit hn) (by omega)).mono fun e w' ⟨he, hx⟩ => ⟨he, h.next hx (h.small.create hn k _)⟩
theorem Sess.append {w0 w w1 : World} {n Bd : Nat} {s : Dk.St} (h : Sess w0 n Bd s w) (p : Nat → Addr) (hs : SentsD w0 p) (hn : n ≤ 1000) (k : Dk.Nm) (hk : k.length ≤ 1000)
    (A : Option Addr) (c m : Nat) (b : Dk.Nm) (hb : Below w.heap.size w w1) (ha : Arg w1 A c b) (hl : b.length = m) (hm : m ≤ 1000) (hA : ∀ x o, A = some ⟨x, o, none⟩ → b ≠ [] → x < w0.heap.size ∨ w.heap.size ≤ x) :
    Calls Tryd.prog 19 #[.pointer (some ⟨Bd, 0, none⟩), encStr k, .slice A m c] w1 fun e w' => e = .returned (errR p (s.append k b).1) ∧ Sess w0 (n + 1) Bd (s.append k b).2 w' := by
  have hb0 := h.below.trans (hb.mono h.below.size)
  refine (append_any Bd s (fun k => w0.heap.size ≤ k ∧ k < w.heap.size) p k A c m b w1 (hs.at_ hb0) (safe_of hs _) (h.disk.below hb) (h.small.fit hn) (by omega) ha hl (by omega) fun x o e hl0 hx => by rcases hA x o e hl0 with h1 | h1 <;> have := hx.1 <;> have := hx.2 <;> omega).mono fun e w' ⟨he, hx⟩ => ⟨he, ?_⟩
  have h1 := hb.size
  have h2 := hx.chg.size
  have h3 := h.below.size
  exact ⟨hx.disk.mono fun k hk => by rcases hk with hk | hk <;> (show _ ∧ _) <;> omega, hb0.trans (hx.chg.below (by omega) fun k hk => hk.1), h.small.append hn k b (by omega)⟩
theorem Sess.sync {w0 w : World} {n Bd : Nat} {s : Dk.St} (h : Sess w0 n Bd s w) (p : Nat → Addr) (hs : SentsD w0 p) (hn : n ≤ 1000) (k : Dk.Nm) (hk : k.length ≤ 1000) :
    Calls Tryd.prog 26 #[.pointer (some ⟨Bd, 0, none⟩), encStr k] w fun e w' => e = .returned (errR p (s.sync k).1) ∧ Sess w0 (n + 1) Bd (s.sync k).2 w' :=
  (sync_any Bd s _ p k w (hs.at_ h.below) (safe_of hs _) h.disk (h.small.fit hn) (by omega)).mono fun e w' ⟨he, hx⟩ => ⟨he, h.next hx (h.small.sync hn k)⟩
theorem Sess.rename {w0 w : World} {n Bd : Nat} {s : Dk.St} (h : Sess w0 n Bd s w) (p : Nat → Addr) (hs : SentsD w0 p) (hn : n ≤ 1000) (k to : Dk.Nm) (hk : k.length ≤ 1000) (ht : to.length ≤ 1000) :
    Calls Tryd.prog 14 #[.pointer (some ⟨Bd, 0, none⟩), encStr k, encStr to] w fun e w' => e = .returned (errR p (s.rename k to).1) ∧ Sess w0 (n + 1) Bd (s.rename k to).2 w' :=
  (rename_any Bd s _ p k to w (hs.at_ h.below) (safe_of hs _) h.disk (h.small.fit hn) (by omega) (by omega)).mono fun e w' ⟨he, hx⟩ => ⟨he, h.next hx (h.small.rename hn k to)⟩
theorem Sess.remove {w0 w : World} {n Bd : Nat} {s : Dk.St} (h : Sess w0 n Bd s w) (p : Nat → Addr) (hs : SentsD w0 p) (hn : n ≤ 1000) (k : Dk.Nm) (hk : k.length ≤ 1000) :
    Calls Tryd.prog 13 #[.pointer (some ⟨Bd, 0, none⟩), encStr k] w fun e w' => e = .returned (errR p (s.remove k).1) ∧ Sess w0 (n + 1) Bd (s.remove k).2 w' :=
  (remove_any Bd s _ p k w (hs.at_ h.below) (safe_of hs _) h.disk (h.small.fit hn) (by omega)).mono fun e w' ⟨he, hx⟩ => ⟨he, h.next hx (h.small.remove hn k)⟩
theorem Sess.syncDir {w0 w : World} {n Bd : Nat} {s : Dk.St} (h : Sess w0 n Bd s w) (p : Nat → Addr) (hs : SentsD w0 p) (hn : n ≤ 1000) :
    Calls Tryd.prog 17 #[.pointer (some ⟨Bd, 0, none⟩)] w fun e w' => e = .returned (errR p s.syncDir.1) ∧ Sess w0 (n + 1) Bd s.syncDir.2 w' :=
  (syncDir_any Bd s _ p w (hs.at_ h.below) (safe_of hs _) h.disk (h.small.fit hn)).mono fun e w' ⟨he, hx⟩ => ⟨he, h.next hx (h.small.syncDir hn)⟩
theorem Sess.arm {w0 w : World} {n Bd : Nat} {s : Dk.St} (h : Sess w0 n Bd s w) (a : Int) (ha : -9223372036854775808 ≤ a ∧ a ≤ 9223372036854775807) :
    Calls Tryd.prog 18 #[.pointer (some ⟨Bd, 0, none⟩), .int .i64 a] w fun e w' => e = .returned (.tuple #[]) ∧ Sess w0 n Bd { s with armed := a } w' :=
  (arm_any Bd s _ a w h.disk).mono fun e w' ⟨he, hd, hc, hz⟩ => ⟨he, h.next ⟨hd.mono up_self, hc⟩ (h.small.arm a ha)⟩
theorem order_ref {w : World} {Bd : Nat} {s : Dk.St} {S : Nat → Prop} (h : IsDisk w Bd s S) (m : Nat) (ys : List Nat) (hy : Dk.Order (s.settle m) (s.settle m).dur ys) : ∀ k ∈ ys, (s.files k).synced ≤ (s.files k).bytes.length := by
  intro x hx
  obtain ⟨xs, hv, hp, -⟩ := hy
  obtain ⟨k, hk⟩ := vals_mem hv _ (hp.mem_iff.1 hx)
  obtain ⟨-, h2, h3⟩ := h.ref
  have hon : ∀ (ms : List Dk.Mv) (f : Dk.Dir), (∀ m ∈ ms, m ∈ s.since) → (∀ k i, f k = some i → (s.files i).synced ≤ (s.files i).bytes.length) → ∀ k i, Dk.ons ms f k = some i → (s.files i).synced ≤ (s.files i).bytes.length := by
    intro ms
    induction ms with
    | nil => intro f _ hf; exact hf
    | cons m ms ih =>
      intro f hm hf
      refine ih (m.on f) (fun x hx => hm x (List.mem_cons_of_mem _ hx)) fun k i hk => ?_
      have hmm := hm m (List.mem_cons_self ..)
      have hfr : ∀ k i, (if m.frm = [] then f else Dk.upd f m.frm none) k = some i → (s.files i).synced ≤ (s.files i).bytes.length := fun k i hk => by
        split at hk
        · exact hf k i hk
        · unfold Dk.upd at hk
          split at hk
          · cases hk
          · exact hf k i hk
      unfold Dk.Mv.on at hk
      split at hk
      · exact hfr k i hk
      · unfold Dk.upd at hk
        split at hk
        · exact (h3 m hmm i hk).2
        · exact hfr k i hk
  exact hon (s.since.take m) s.dur (fun x hx => List.mem_of_mem_take hx) (fun k i hk => (h2 k i hk).2.1) k x hk
theorem Sess.crash {w0 w w1 : World} {n Bd : Nat} {s : Dk.St} (h : Sess w0 n Bd s w) (hn : n ≤ 1000) (A : Option Addr) (c m : Nat) (zs : List Int) (hb : Below w.heap.size w w1) (hz : IntsArg w1 A c zs) (hl : zs.length = m) (hA : ∀ x o, A = some ⟨x, o, none⟩ → zs ≠ [] → (x < w0.heap.size ∨ w.heap.size ≤ x) ∧ x < w1.heap.size) :
    Calls Tryd.prog 15 #[.pointer (some ⟨Bd, 0, none⟩), .slice A m c] w1 fun e w' => e = .returned (.tuple #[]) ∧ ∃ ys, Dk.Order (s.settle (Dk.pick zs 0 s.since.length)) (s.settle (Dk.pick zs 0 s.since.length)).dur ys ∧ Sess w0 n Bd (s.crash zs ys) w' := by
  have hb0 := h.below.trans (hb.mono h.below.size)
  refine (crash_any Bd s (fun k => w0.heap.size ≤ k ∧ k < w.heap.size) A c m zs w1 (h.disk.below hb) (h.small.fit hn) (by have := h.small.calls; omega) hz hl fun x o e hl0 => ⟨fun hx => by rcases (hA x o e hl0).1 with h1 | h1 <;> have := hx.1 <;> have := hx.2 <;> omega, (hA x o e hl0).2⟩).mono fun e w' ⟨he, ys, ⟨ho, hy⟩, hd, hc⟩ => ⟨he, ys, ho, ?_⟩
  have h1 := hb.size
  have h2 := hc.size
  have h3 := h.below.size
  exact ⟨hd.mono fun k hk => by rcases hk with hk | hk <;> (show _ ∧ _) <;> omega, hb0.trans (hc.below (by omega) fun k hk => hk.1), h.small.crash zs ys hy (order_ref h.disk _ ys ho)⟩
theorem Sess.len {w0 w : World} {n Bd : Nat} {s : Dk.St} (h : Sess w0 n Bd s w) (p : Nat → Addr) (hs : SentsD w0 p) (k : Dk.Nm) (hk : k.length ≤ 1000) :
    Calls Tryd.prog 24 #[.pointer (some ⟨Bd, 0, none⟩), encStr k] w fun e w' => e = .returned (.tuple #[.int .i64 (s.lenOf k), errR p (s.find k).1]) ∧ ∃ q, w' = w.drewN q :=
  len_any Bd s _ p k w (hs.at_ h.below) h.disk (by omega)
theorem Sess.read {w0 w : World} {n Bd : Nat} {s : Dk.St} (h : Sess w0 n Bd s w) (p : Nat → Addr) (hs : SentsD w0 p) (hn : n ≤ 1000) (k : Dk.Nm) (hk : k.length ≤ 1000) (a m : Int) (ha : -9223372036854775808 ≤ a ∧ a ≤ 9223372036854775807) :
    Calls Tryd.prog 23 #[.pointer (some ⟨Bd, 0, none⟩), encStr k, .int .i64 a, .int .i64 m] w fun e w' => ∃ v, e = .returned (.tuple #[v, errR p (s.readOf k a m).1]) ∧ Own w' w.heap.size v (s.readOf k a m).2 ∧ Below w.heap.size w w' :=
  read_any Bd s _ p k a m w (hs.at_ h.below) h.disk (by omega) (h.small.fit hn) ha
end Go.Proofs.YtnjcngmmgceijaaDoor
