/-
  A disk under a walk: all its blocks are new since the walk began, its numbers are small; each call, so.
  What a crash leaves, plainly: which files have a name, what of each is kept.
  A disk that has power and will have it: what each call makes of it, plainly.
  A disk under a walk, by the set of its own blocks: what others own stays.
  A disk under a walk, by the set of its own blocks: the calls that a segment stands on.
  The chapter's examples: what every statement of the disk begins with.
  What was synced is there behind any crash: the states, plainly; what a walk wants of its arguments.
  DiskDown: a disk without power tells nothing and changes nothing; the states, plainly.
  Package point, plainly: what a Write makes of a disk, with power or armed, and what a crash leaves of it; the states of its statements.
-/
import Derived.Test.YtfjanenooembkaaDoorQ6
import Derived.Lib.SlBytesConst
import Derived.Test.YtfjanenooembkaaDoorQ1
import Derived.Test.YtfjanenooembkaaDoorQ3
namespace Go.Proofs.YtfjanenooembkaaDoor.Dk

/-- Numbers of a disk that has been told at most n things, of at most a thousand bytes each. -/
structure Small (s : St) (n : Nat) : Prop where
  armed : -9223372036854775808 ≤ s.armed ∧ s.armed ≤ 9223372036854775807
  calls : 0 ≤ s.calls ∧ s.calls ≤ n
  used : -(1000000000 * (n : Int)) ≤ s.used ∧ s.used ≤ 1000000000 * (n : Int)
  room : 0 ≤ s.room ∧ s.room ≤ 4194304
  file : ∀ i, (s.files i).bytes.length ≤ 1000 * n
theorem Small.fit {s : St} {n : Nat} (h : Small s n) (hn : n ≤ 1000) : Fit s :=
  ⟨h.armed, by have := h.calls; omega, by have := h.used; omega, by have := h.room; omega, fun i => by have := h.file i; omega⟩
theorem Small.mono {s : St} {n m : Nat} (h : Small s n) (hm : n ≤ m) : Small s m :=
  ⟨h.armed, by have := h.calls; omega, by have := h.used; omega, h.room, fun i => by have := h.file i; have := Nat.mul_le_mul_left 1000 hm; omega⟩
theorem Small.new (room : Int) (h1 : 1 ≤ room) (h2 : room ≤ 4194304) : Small (St.new room) 0 :=
  ⟨by simp [St.new], by simp [St.new], by simp [St.new], by simp only [St.new]; omega, fun i => by simp [St.new, default, instInhabitedFile.default]⟩
theorem Small.begin {s : St} {n : Nat} (h : Small s n) : Small s.begin n := by
  unfold St.begin
  split
  · exact ⟨by have := h.armed; show _ ≤ s.armed - 1 ∧ s.armed - 1 ≤ _; omega, h.calls, h.used, h.room, h.file⟩
  · exact h
theorem Small.arm {s : St} {n : Nat} (h : Small s n) (a : Int) (ha : -9223372036854775808 ≤ a ∧ a ≤ 9223372036854775807) : Small { s with armed := a } n := ⟨ha, h.calls, h.used, h.room, h.file⟩
theorem Small.setFile {s : St} {n : Nat} (h : Small s n) (i : Nat) (f : File) (hf : f.bytes.length ≤ 1000 * n) : Small (s.setFile i f) n :=
  ⟨h.armed, h.calls, h.used, h.room, fun k => by
    by_cases e : k = i
    · subst e; rw [setFile_same]; exact hf
    · rw [setFile_other _ _ _ _ e]; exact h.file k⟩
/-- Told one thing more. -/
theorem Small.more {s t : St} {n : Nat} (h : Small s n) (ha : t.armed = s.armed) (hc : t.calls = s.calls + 1) (hr : t.room = s.room) (hf : ∀ i, (t.files i).bytes.length ≤ 1000 * n + 1000)
    (hu : s.used - 1000 * n ≤ t.used ∧ t.used ≤ s.used + 1000) (hn : n ≤ 1000) : Small t (n + 1) := by
  have h1 := h.calls
  have h2 := h.used
  exact ⟨by rw [ha]; exact h.armed, by rw [hc]; omega, by omega, by rw [hr]; exact h.room, fun i => by have := hf i; omega⟩
theorem Small.create {s : St} {n : Nat} (h : Small s n) (hn : n ≤ 1000) (k : Nm) (i : Nat) : Small (s.create k i).2 (n + 1) := by
  have hb := h.begin
  unfold St.create
  split
  · exact hb.mono (by omega)
  split
  · exact hb.mono (by omega)
  split
  · exact hb.mono (by omega)
  · refine (hb.setFile i ⟨s.begin.calls, [], 0⟩ (by simp)).more rfl rfl rfl (fun j => by have := (hb.setFile i ⟨s.begin.calls, [], 0⟩ (by simp)).file j; exact Nat.le_trans this (by omega)) ?_ hn
    simp only [St.doMove, St.setFile]
    omega
theorem Small.append {s : St} {n : Nat} (h : Small s n) (hn : n ≤ 1000) (k : Nm) (b : Nm) (hl : b.length ≤ 1000) : Small (s.append k b).2 (n + 1) := by
  have hb := h.begin
  unfold St.append
  rcases find_cases s.begin k with ⟨j, hf⟩ | ⟨i, hf, _⟩
  · rw [hf]; exact hb.mono (by omega)
  · rw [hf]
    simp only
    split
    · exact hb.mono (by omega)
    · refine hb.more rfl rfl rfl (fun j => ?_) ?_ hn
      · show ((s.begin.setFile i _).files j).bytes.length ≤ _
        by_cases e : j = i
        · subst e; rw [setFile_same]; have := hb.file j; simp; omega
        · rw [setFile_other _ _ _ _ e]; have := hb.file j; omega
      · show _ ≤ s.begin.used + (b.length : Int) ∧ s.begin.used + (b.length : Int) ≤ _
        omega
theorem Small.cut {s : St} {n : Nat} (h : Small s n) (hn : n ≤ 1000) (k : Nm) (m : Int) : Small (s.cut k m).2 (n + 1) := by
  have hb := h.begin
  unfold St.cut
  rcases find_cases s.begin k with ⟨j, hf⟩ | ⟨i, hf, _⟩
  · rw [hf]; exact hb.mono (by omega)
  · rw [hf]
    simp only
    split
    · exact hb.mono (by omega)
    · have hfi := hb.file i
      refine hb.more rfl rfl rfl (fun j => ?_) ?_ hn
      · show ((s.begin.setFile i _).files j).bytes.length ≤ _
        by_cases e : j = i
        · subst e; rw [setFile_same]; simp only [File.keep, List.length_take]; omega
        · rw [setFile_other _ _ _ _ e]; have := hb.file j; omega
      · show _ ≤ s.begin.used - (((s.begin.files i).bytes.length : Int) - m) ∧ s.begin.used - (((s.begin.files i).bytes.length : Int) - m) ≤ _
        omega
theorem Small.sync {s : St} {n : Nat} (h : Small s n) (hn : n ≤ 1000) (k : Nm) : Small (s.sync k).2 (n + 1) := by
  have hb := h.begin
  unfold St.sync
  rcases find_cases s.begin k with ⟨j, hf⟩ | ⟨i, hf, _⟩
  · rw [hf]; exact hb.mono (by omega)
  · rw [hf]
    simp only
    refine hb.more rfl rfl rfl (fun j => ?_) ?_ hn
    · show ((s.begin.setFile i _).files j).bytes.length ≤ _
      by_cases e : j = i
      · subst e; rw [setFile_same]; have := hb.file j; simp only [File.keep, List.length_take]; omega
      · rw [setFile_other _ _ _ _ e]; have := hb.file j; omega
    · show _ ≤ s.begin.used ∧ s.begin.used ≤ _
      omega
theorem Small.rename {s : St} {n : Nat} (h : Small s n) (hn : n ≤ 1000) (k tn : Nm) : Small (s.rename k tn).2 (n + 1) := by
  have hb := h.begin
  unfold St.rename
  rcases find_cases s.begin k with ⟨j, hf⟩ | ⟨i, hf, _⟩
  · rw [hf]; exact hb.mono (by omega)
  · rw [hf]
    simp only
    split
    · exact hb.mono (by omega)
    · refine hb.more rfl rfl rfl (fun j => by have := hb.file j; exact Nat.le_trans this (by omega)) ?_ hn
      show _ ≤ (match s.begin.names tn with | none => s.begin.used | some o => if o = i then s.begin.used else s.begin.used - (s.begin.files o).bytes.length) ∧ (match s.begin.names tn with | none => s.begin.used | some o => if o = i then s.begin.used else s.begin.used - (s.begin.files o).bytes.length) ≤ _
      split
      · omega
      · rename_i o _
        have := hb.file o
        by_cases e : o = i
        · rw [if_pos e]; omega
        · rw [if_neg e]; omega
theorem Small.remove {s : St} {n : Nat} (h : Small s n) (hn : n ≤ 1000) (k : Nm) : Small (s.remove k).2 (n + 1) := by
  have hb := h.begin
  unfold St.remove
  rcases find_cases s.begin k with ⟨j, hf⟩ | ⟨i, hf, _⟩
  · rw [hf]; exact hb.mono (by omega)
  · rw [hf]
    simp only
    have hfi := hb.file i
    refine hb.more rfl rfl rfl (fun j => by have := hb.file j; exact Nat.le_trans this (by omega)) ?_ hn
    show _ ≤ s.begin.used - ((s.begin.files i).bytes.length : Int) ∧ s.begin.used - ((s.begin.files i).bytes.length : Int) ≤ _
    omega
theorem Small.syncDir {s : St} {n : Nat} (h : Small s n) (hn : n ≤ 1000) : Small s.syncDir.2 (n + 1) := by
  have hb := h.begin
  unfold St.syncDir
  split
  · exact hb.mono (by omega)
  · refine hb.more rfl rfl rfl (fun j => by have := hb.file j; exact Nat.le_trans this (by omega)) ?_ hn
    show _ ≤ s.begin.used ∧ s.begin.used ≤ _
    omega
theorem keepAll_fix (picks : List Int) : ∀ (l : List Nat) (i : Nat) (s : St), (St.keepAll picks i l s).armed = s.armed ∧ (St.keepAll picks i l s).calls = s.calls ∧ (St.keepAll picks i l s).room = s.room ∧ (St.keepAll picks i l s).names = s.names ∧ (St.keepAll picks i l s).dur = s.dur ∧ (St.keepAll picks i l s).since = s.since ∧ (St.keepAll picks i l s).down = s.down
  | [], _, _ => ⟨rfl, rfl, rfl, rfl, rfl, rfl, rfl⟩
  | f :: fs, i, s => by
    obtain ⟨a, b, c, d, e, g, h⟩ := keepAll_fix picks fs (i + 1) { s.setFile f ((s.files f).keep ((s.files f).synced + pick picks i ((s.files f).bytes.length - (s.files f).synced))) with used := s.used + (((s.files f).synced + pick picks i ((s.files f).bytes.length - (s.files f).synced) : Nat) : Int) }
    exact ⟨a, b, c, d, e, g, h⟩
/-- Files are never longer behind it; what is used is bounded. -/
theorem keepAll_len (picks : List Int) (M : Nat) : ∀ (l : List Nat) (i : Nat) (s : St), (∀ k, (s.files k).bytes.length ≤ M) → (∀ k ∈ l, (s.files k).synced ≤ (s.files k).bytes.length) → 
    (∀ k, ((St.keepAll picks i l s).files k).bytes.length ≤ M) ∧ s.used ≤ (St.keepAll picks i l s).used ∧ (St.keepAll picks i l s).used ≤ s.used + M * l.length
  | [], _, s, h, _ => ⟨h, Int.le_refl _, by simp [St.keepAll]⟩
  | f :: fs, i, s, h, hs => by
    have hp := pick_le picks i ((s.files f).bytes.length - (s.files f).synced)
    have hsy := hs f (List.mem_cons_self ..)
    have hM := h f
    have hfl : ∀ k, (({ s.setFile f ((s.files f).keep ((s.files f).synced + pick picks i ((s.files f).bytes.length - (s.files f).synced))) with used := s.used + (((s.files f).synced + pick picks i ((s.files f).bytes.length - (s.files f).synced) : Nat) : Int) } : St).files k).bytes.length ≤ M ∧ (k ∈ fs → (({ s.setFile f ((s.files f).keep ((s.files f).synced + pick picks i ((s.files f).bytes.length - (s.files f).synced))) with used := s.used + (((s.files f).synced + pick picks i ((s.files f).bytes.length - (s.files f).synced) : Nat) : Int) } : St).files k).synced ≤ (({ s.setFile f ((s.files f).keep ((s.files f).synced + pick picks i ((s.files f).bytes.length - (s.files f).synced))) with used := s.used + (((s.files f).synced + pick picks i ((s.files f).bytes.length - (s.files f).synced) : Nat) : Int) } : St).files k).bytes.length) := fun k => by
      show ((s.setFile f _).files k).bytes.length ≤ M ∧ (k ∈ fs → ((s.setFile f _).files k).synced ≤ ((s.setFile f _).files k).bytes.length)
      by_cases e : k = f
      · subst e; rw [setFile_same]; simp only [File.keep, List.length_take]; omega
      · rw [setFile_other _ _ _ _ e]; exact ⟨h k, fun hk => hs k (List.mem_cons_of_mem _ hk)⟩
    obtain ⟨h1, h2, h3⟩ := keepAll_len picks M fs (i + 1) { s.setFile f ((s.files f).keep ((s.files f).synced + pick picks i ((s.files f).bytes.length - (s.files f).synced))) with used := s.used + (((s.files f).synced + pick picks i ((s.files f).bytes.length - (s.files f).synced) : Nat) : Int) } (fun k => (hfl k).1) (fun k hk => (hfl k).2 hk)
    simp only at h2 h3
    refine ⟨h1, ?_, ?_⟩
    · exact Int.le_trans (by omega) h2
    · refine Int.le_trans h3 ?_
      have e : (M : Int) * ((f :: fs).length : Int) = M * (fs.length : Int) + M := by rw [List.length_cons]; push_cast; rw [Int.mul_add, Int.mul_one]
      rw [e]
      omega
theorem Small.crash {s : St} {n : Nat} (h : Small s n) (picks : List Int) (ys : List Nat) (hy : ys.length ≤ 1000000) (hs : ∀ k ∈ ys, (s.files k).synced ≤ (s.files k).bytes.length) : Small (s.crash picks ys) n := by
  have hf := keepAll_fix picks ys 1 { (s.settle (pick picks 0 s.since.length)) with names := (s.settle (pick picks 0 s.since.length)).dur, used := 0 }
  have hl := keepAll_len picks (1000 * n) ys 1 { (s.settle (pick picks 0 s.since.length)) with names := (s.settle (pick picks 0 s.since.length)).dur, used := 0 } (fun k => h.file k) hs
  unfold St.crash
  simp only
  generalize St.keepAll picks 1 ys { (s.settle (pick picks 0 s.since.length)) with names := (s.settle (pick picks 0 s.since.length)).dur, used := 0 } = t at *
  obtain ⟨f1, f2, f3, -⟩ := hf
  obtain ⟨l1, l2, l3⟩ := hl
  refine ⟨by simp, ?_, ?_, ?_, l1⟩
  · show 0 ≤ t.calls ∧ t.calls ≤ n
    rw [f2]; exact h.calls
  · show _ ≤ t.used ∧ t.used ≤ _
    have hm : ((1000 * n : Nat) : Int) * (ys.length : Int) ≤ ((1000 * n : Nat) : Int) * 1000000 := Int.mul_le_mul_of_nonneg_left (by omega) (by omega)
    simp only at l2 l3
    omega
  · show 0 ≤ t.room ∧ t.room ≤ _
    rw [f3]; exact h.room
end Go.Proofs.YtfjanenooembkaaDoor.Dk

namespace Go.Proofs.YtfjanenooembkaaDoor
open Go.RowKit Go.Maps

/-- All of a disk's blocks are there. -/
theorem IsDisk.tight {w : World} {Bd : Nat} {s : Dk.St} {S : Nat → Prop} (h : IsDisk w Bd s S) : IsDisk w Bd s (fun k => S k ∧ k < w.heap.size) := by
  obtain ⟨nb, db, sv, ids, row, h⟩ := h
  have lt : ∀ {k : Nat} {o : Obj}, w.heap[k]? = some o → k < w.heap.size := fun h => (Array.getElem?_eq_some_iff.1 h).1
  obtain ⟨m, hd, hm⟩ := h.dur
  exact ⟨nb, db, sv, ids, row, { h with mBd := ⟨h.mBd, lt h.box⟩, mnb := ⟨h.mnb, h.names.lt⟩, mdb := ⟨h.mdb, hd.lt⟩, msv := fun g hg => ⟨h.msv g hg, (h.since.lt g hg).2⟩, mid := fun i hi => ⟨h.mid i hi, lt (h.file i hi).box⟩, mrow := fun i hi g hg => ⟨h.mrow i hi g hg, ((h.file i hi).row.lt g hg).2⟩ }⟩
/-- What a name leads to is a file of the disk: it lies there, and is synced no farther than it is long. -/
theorem IsDisk.ref {w : World} {Bd : Nat} {s : Dk.St} {S : Nat → Prop} (h : IsDisk w Bd s S) : (∀ k i, s.names k = some i → i < w.heap.size ∧ (s.files i).synced ≤ (s.files i).bytes.length ∧ k.length ≤ 64) ∧ (∀ k i, s.dur k = some i → i < w.heap.size ∧ (s.files i).synced ≤ (s.files i).bytes.length ∧ k.length ≤ 64) ∧ (∀ m ∈ s.since, ∀ i, m.file = some i → i < w.heap.size ∧ (s.files i).synced ≤ (s.files i).bytes.length) := by
  obtain ⟨nb, db, sv, ids, row, h⟩ := h
  have lt : ∀ {k : Nat} {o : Obj}, w.heap[k]? = some o → k < w.heap.size := fun h => (Array.getElem?_eq_some_iff.1 h).1
  exact ⟨fun k i hk => ⟨lt (h.file i (h.nref k i hk).1).box, (h.file i (h.nref k i hk).1).sync, (h.nref k i hk).2.2⟩, fun k i hk => ⟨lt (h.file i (h.dref k i hk).1).box, (h.file i (h.dref k i hk).1).sync, (h.dref k i hk).2.2⟩, fun m hm i hi => ⟨lt (h.file i ((h.sref m hm).1 i hi)).box, (h.file i ((h.sref m hm).1 i hi)).sync⟩⟩

/-- A disk under a walk that began in w0. -/
structure Sess (w0 : World) (n Bd : Nat) (s : Dk.St) (w : World) : Prop where
  disk : IsDisk w Bd s (fun k => w0.heap.size ≤ k ∧ k < w.heap.size)
  below : Below w0.heap.size w0 w
  small : Dk.Small s n
theorem safe_of {w0 : World} {p : Nat → Addr} (hs : SentsD w0 p) (T : Nat) : Safe (fun k => w0.heap.size ≤ k ∧ k < T) p :=
  ⟨fun j h1 h2 h3 => by have := hs.size j ⟨h1, h2⟩; have := h3.1; omega, fun j h1 h2 h3 => by have := (hs.blk j ⟨h1, h2⟩).1; have := h3.1; omega⟩
theorem SentsOn.at_ {w0 w : World} {p : Nat → Addr} (hs : SentsD w0 p) (h : Below w0.heap.size w0 w) : SentsD w p := hs.below h
theorem Sess.next {w0 w w' : World} {n m Bd : Nat} {s s' : Dk.St} (h : Sess w0 n Bd s w) (hx : Next w Bd (fun k => w0.heap.size ≤ k ∧ k < w.heap.size) s' w') (hm : Dk.Small s' m) : Sess w0 m Bd s' w' := by
  have hsz := hx.chg.size
  exact ⟨hx.disk.mono fun k hk => by rcases hk with hk | hk <;> have := h.below.size <;> (show _ ∧ _) <;> omega, h.below.trans (hx.chg.below h.below.size fun k hk => hk.1), hm⟩
/-- New blocks change nothing. -/
theorem Sess.grow {w0 w w' : World} {n Bd : Nat} {s : Dk.St} (h : Sess w0 n Bd s w) (hb : Below w.heap.size w w') : Sess w0 n Bd s w' :=
  ⟨(h.disk.below hb).mono fun _k hk => ⟨hk.1, Nat.lt_of_lt_of_le hk.2 hb.size⟩, h.below.trans (hb.mono h.below.size), h.small⟩
theorem Sess.mono {w0 w : World} {n m Bd : Nat} {s : Dk.St} (h : Sess w0 n Bd s w) (hm : n ≤ m) : Sess w0 m Bd s w := ⟨h.disk, h.below, h.small.mono hm⟩
theorem Sess.drewN {w0 w : World} {n Bd : Nat} {s : Dk.St} (h : Sess w0 n Bd s w) (q : Nat) : Sess w0 n Bd s (w.drewN q) := h.grow ⟨rfl, rfl, rfl, Nat.le_refl _, fun _ _ => rfl⟩

theorem new_sess (room : Int) (w0 w : World) (hb : Below w0.heap.size w0 w) (h1 : 1 ≤ room) (h2 : room ≤ 4194304) :
    Calls Tryd.prog 10 #[.int .i64 room] w fun e w' => ∃ Bd, e = .returned (.tuple #[.pointer (some ⟨Bd, 0, none⟩), .nilIface]) ∧ Sess w0 0 Bd (Dk.St.new room) w' ∧ w.heap.size ≤ Bd := by
  refine (new_any room w h1 h2).mono ?_
  rintro e w' ⟨Bd, rfl, hB, hd, hb2⟩
  exact ⟨Bd, rfl, ⟨hd.mono fun k hk => ⟨Nat.le_trans hb.size hk.1, hk.2⟩, hb.trans (hb2.mono hb.size), Dk.Small.new room h1 h2⟩, hB⟩
theorem Sess.create {w0 w : World} {n Bd : Nat} {s : Dk.St} (h : Sess w0 n Bd s w) (p : Nat → Addr) (hs : SentsD w0 p) (hn : n ≤ 1000) (k : Dk.Nm) (hk : k.length ≤ 1000) :
    Calls Tryd.prog 74 #[.pointer (some ⟨Bd, 0, none⟩), encStr k] w fun e w' => e = .returned (errR p (s.create k w.heap.size).1) ∧ Sess w0 (n + 1) Bd (s.create k w.heap.size).2 w' :=
  (create_any Bd s _ p k w (hs.at_ h.below) (safe_of hs _) h.disk (h.small.fit hn) (by omega)).mono fun e w' ⟨he, hx⟩ => ⟨he, h.next hx (h.small.create hn k _)⟩
theorem Sess.append {w0 w w1 : World} {n Bd : Nat} {s : Dk.St} (h : Sess w0 n Bd s w) (p : Nat → Addr) (hs : SentsD w0 p) (hn : n ≤ 1000) (k : Dk.Nm) (hk : k.length ≤ 1000)
    (A : Option Addr) (c m : Nat) (b : Dk.Nm) (hb : Below w.heap.size w w1) (ha : Arg w1 A c b) (hl : b.length = m) (hm : m ≤ 1000) (hA : ∀ x o, A = some ⟨x, o, none⟩ → b ≠ [] → x < w0.heap.size ∨ w.heap.size ≤ x) :
    Calls Tryd.prog 25 #[.pointer (some ⟨Bd, 0, none⟩), encStr k, .slice A m c] w1 fun e w' => e = .returned (errR p (s.append k b).1) ∧ Sess w0 (n + 1) Bd (s.append k b).2 w' := by
  have hb0 := h.below.trans (hb.mono h.below.size)
  refine (append_any Bd s (fun k => w0.heap.size ≤ k ∧ k < w.heap.size) p k A c m b w1 (hs.at_ hb0) (safe_of hs _) (h.disk.below hb) (h.small.fit hn) (by omega) ha hl (by omega) fun x o e hl0 hx => by rcases hA x o e hl0 with h1 | h1 <;> have := hx.1 <;> have := hx.2 <;> omega).mono fun e w' ⟨he, hx⟩ => ⟨he, ?_⟩
  have h1 := hb.size
  have h2 := hx.chg.size
  have h3 := h.below.size
  exact ⟨hx.disk.mono fun k hk => by rcases hk with hk | hk <;> (show _ ∧ _) <;> omega, hb0.trans (hx.chg.below (by omega) fun k hk => hk.1), h.small.append hn k b (by omega)⟩
theorem Sess.cut {w0 w : World} {n Bd : Nat} {s : Dk.St} (h : Sess w0 n Bd s w) (p : Nat → Addr) (hs : SentsD w0 p) (hn : n ≤ 1000) (k : Dk.Nm) (hk : k.length ≤ 1000) (m : Int) :
    Calls Tryd.prog 24 #[.pointer (some ⟨Bd, 0, none⟩), encStr k, .int .i64 m] w fun e w' => e = .returned (errR p (s.cut k m).1) ∧ Sess w0 (n + 1) Bd (s.cut k m).2 w' :=
  (cut_any Bd s _ p k m w (hs.at_ h.below) (safe_of hs _) h.disk (h.small.fit hn) (by omega)).mono fun e w' ⟨he, hx⟩ => ⟨he, h.next hx (h.small.cut hn k _)⟩
theorem Sess.sync {w0 w : World} {n Bd : Nat} {s : Dk.St} (h : Sess w0 n Bd s w) (p : Nat → Addr) (hs : SentsD w0 p) (hn : n ≤ 1000) (k : Dk.Nm) (hk : k.length ≤ 1000) :
    Calls Tryd.prog 75 #[.pointer (some ⟨Bd, 0, none⟩), encStr k] w fun e w' => e = .returned (errR p (s.sync k).1) ∧ Sess w0 (n + 1) Bd (s.sync k).2 w' :=
  (sync_any Bd s _ p k w (hs.at_ h.below) (safe_of hs _) h.disk (h.small.fit hn) (by omega)).mono fun e w' ⟨he, hx⟩ => ⟨he, h.next hx (h.small.sync hn k)⟩
theorem Sess.rename {w0 w : World} {n Bd : Nat} {s : Dk.St} (h : Sess w0 n Bd s w) (p : Nat → Addr) (hs : SentsD w0 p) (hn : n ≤ 1000) (k tn : Dk.Nm) (hk : k.length ≤ 1000) (ht : tn.length ≤ 1000) :
    Calls Tryd.prog 42 #[.pointer (some ⟨Bd, 0, none⟩), encStr k, encStr tn] w fun e w' => e = .returned (errR p (s.rename k tn).1) ∧ Sess w0 (n + 1) Bd (s.rename k tn).2 w' :=
  (rename_any Bd s _ p k tn w (hs.at_ h.below) (safe_of hs _) h.disk (h.small.fit hn) (by omega) (by omega)).mono fun e w' ⟨he, hx⟩ => ⟨he, h.next hx (h.small.rename hn k tn)⟩
theorem Sess.remove {w0 w : World} {n Bd : Nat} {s : Dk.St} (h : Sess w0 n Bd s w) (p : Nat → Addr) (hs : SentsD w0 p) (hn : n ≤ 1000) (k : Dk.Nm) (hk : k.length ≤ 1000) :
    Calls Tryd.prog 73 #[.pointer (some ⟨Bd, 0, none⟩), encStr k] w fun e w' => e = .returned (errR p (s.remove k).1) ∧ Sess w0 (n + 1) Bd (s.remove k).2 w' :=
  (remove_any Bd s _ p k w (hs.at_ h.below) (safe_of hs _) h.disk (h.small.fit hn) (by omega)).mono fun e w' ⟨he, hx⟩ => ⟨he, h.next hx (h.small.remove hn k)⟩
theorem Sess.syncDir {w0 w : World} {n Bd : Nat} {s : Dk.St} (h : Sess w0 n Bd s w) (p : Nat → Addr) (hs : SentsD w0 p) (hn : n ≤ 1000) :
    Calls Tryd.prog 43 #[.pointer (some ⟨Bd, 0, none⟩)] w fun e w' => e = .returned (errR p s.syncDir.1) ∧ Sess w0 (n + 1) Bd s.syncDir.2 w' :=
  (syncDir_any Bd s _ p w (hs.at_ h.below) (safe_of hs _) h.disk (h.small.fit hn)).mono fun _e _w' ⟨he, hx⟩ => ⟨he, h.next hx (h.small.syncDir hn)⟩
theorem Sess.arm {w0 w : World} {n Bd : Nat} {s : Dk.St} (h : Sess w0 n Bd s w) (a : Int) (ha : -9223372036854775808 ≤ a ∧ a ≤ 9223372036854775807) :
    Calls Tryd.prog 15 #[.pointer (some ⟨Bd, 0, none⟩), .int .i64 a] w fun e w' => e = .returned (.tuple #[]) ∧ Sess w0 n Bd { s with armed := a } w' :=
  (arm_any Bd s _ a w h.disk).mono fun _e _w' ⟨he, hd, hc, _hz⟩ => ⟨he, h.next ⟨hd.mono up_self, hc⟩ (h.small.arm a ha)⟩
theorem order_ref {w : World} {Bd : Nat} {s : Dk.St} {S : Nat → Prop} (h : IsDisk w Bd s S) (m : Nat) (ys : List Nat) (hy : Dk.Order (s.settle m) (s.settle m).dur ys) : ∀ k ∈ ys, (s.files k).synced ≤ (s.files k).bytes.length := by
  intro x hx
  obtain ⟨xs, hv, hp, -⟩ := hy
  obtain ⟨k, hk⟩ := vals_mem hv _ (hp.mem_iff.1 hx)
  obtain ⟨-, h2, h3⟩ := h.ref
  have hon : ∀ (ms : List Dk.Mv) (f : Dk.Dir), (∀ m ∈ ms, m ∈ s.since) → (∀ k i, f k = some i → (s.files i).synced ≤ (s.files i).bytes.length) → ∀ k i, Dk.ons ms f k = some i → (s.files i).synced ≤ (s.files i).bytes.length := by
    intro ms
    induction ms with
    | nil => intro f _ hf; exact hf
    | cons m ms ih =>
      intro f hm hf
      refine ih (m.on f) (fun x hx => hm x (List.mem_cons_of_mem _ hx)) fun k i hk => ?_
      have hmm := hm m (List.mem_cons_self ..)
      have hfr : ∀ k i, (if m.frm = [] then f else Dk.upd f m.frm none) k = some i → (s.files i).synced ≤ (s.files i).bytes.length := fun k i hk => by
        split at hk
        · exact hf k i hk
        · unfold Dk.upd at hk
          split at hk
          · cases hk
          · exact hf k i hk
      unfold Dk.Mv.on at hk
      split at hk
      · exact hfr k i hk
      · unfold Dk.upd at hk
        split at hk
        · exact (h3 m hmm i hk).2
        · exact hfr k i hk
  exact hon (s.since.take m) s.dur (fun x hx => List.mem_of_mem_take hx) (fun k i hk => (h2 k i hk).2.1) k x hk
theorem Sess.crash {w0 w w1 : World} {n Bd : Nat} {s : Dk.St} (h : Sess w0 n Bd s w) (hn : n ≤ 1000) (A : Option Addr) (c m : Nat) (zs : List Int) (hb : Below w.heap.size w w1) (hz : IntsArg w1 A c zs) (hl : zs.length = m) (hA : ∀ x o, A = some ⟨x, o, none⟩ → zs ≠ [] → (x < w0.heap.size ∨ w.heap.size ≤ x) ∧ x < w1.heap.size) :
    Calls Tryd.prog 18 #[.pointer (some ⟨Bd, 0, none⟩), .slice A m c] w1 fun e w' => e = .returned (.tuple #[]) ∧ ∃ ys, Dk.Order (s.settle (Dk.pick zs 0 s.since.length)) (s.settle (Dk.pick zs 0 s.since.length)).dur ys ∧ Sess w0 n Bd (s.crash zs ys) w' := by
  have hb0 := h.below.trans (hb.mono h.below.size)
  refine (crash_any Bd s (fun k => w0.heap.size ≤ k ∧ k < w.heap.size) A c m zs w1 (h.disk.below hb) (h.small.fit hn) (by have := h.small.calls; omega) hz hl fun x o e hl0 => ⟨fun hx => by rcases (hA x o e hl0).1 with h1 | h1 <;> have := hx.1 <;> have := hx.2 <;> omega, (hA x o e hl0).2⟩).mono fun e w' ⟨he, ys, ⟨ho, hy⟩, hd, hc⟩ => ⟨he, ys, ho, ?_⟩
  have h1 := hb.size
  have h2 := hc.size
  have h3 := h.below.size
  exact ⟨hd.mono fun k hk => by rcases hk with hk | hk <;> (show _ ∧ _) <;> omega, hb0.trans (hc.below (by omega) fun k hk => hk.1), h.small.crash zs ys hy (order_ref h.disk _ ys ho)⟩
theorem Sess.len {w0 w : World} {n Bd : Nat} {s : Dk.St} (h : Sess w0 n Bd s w) (p : Nat → Addr) (hs : SentsD w0 p) (k : Dk.Nm) (hk : k.length ≤ 1000) :
    Calls Tryd.prog 44 #[.pointer (some ⟨Bd, 0, none⟩), encStr k] w fun e w' => e = .returned (.tuple #[.int .i64 (s.lenOf k), errR p (s.find k).1]) ∧ ∃ q, w' = w.drewN q :=
  len_any Bd s _ p k w (hs.at_ h.below) h.disk (by omega)
theorem Sess.read {w0 w : World} {n Bd : Nat} {s : Dk.St} (h : Sess w0 n Bd s w) (p : Nat → Addr) (hs : SentsD w0 p) (hn : n ≤ 1000) (k : Dk.Nm) (hk : k.length ≤ 1000) (a m : Int) (ha : -9223372036854775808 ≤ a ∧ a ≤ 9223372036854775807) :
    Calls Tryd.prog 22 #[.pointer (some ⟨Bd, 0, none⟩), encStr k, .int .i64 a, .int .i64 m] w fun e w' => ∃ v, e = .returned (.tuple #[v, errR p (s.readOf k a m).1]) ∧ Own w' w.heap.size v (s.readOf k a m).2 ∧ Below w.heap.size w w' :=
  dRead_any Bd s _ p k a m w (hs.at_ h.below) h.disk (by omega) (h.small.fit hn) ha
end Go.Proofs.YtfjanenooembkaaDoor

namespace Go.Proofs.YtfjanenooembkaaDoor.Dk

theorem keep_keep (f : File) (k : Nat) (m : Nat) (h1 : k ≤ m) (h2 : m ≤ k) : (f.keep k).keep m = f.keep k := by
  obtain rfl : k = m := by omega
  simp [File.keep, List.take_take]
/-- What is kept of each file. -/
theorem keepAll_file (picks : List Int) (x : Nat) : ∀ (l : List Nat) (i : Nat) (s : St), (∀ k ∈ l, (s.files k).synced ≤ (s.files k).bytes.length) →
    (x ∉ l → (St.keepAll picks i l s).files x = s.files x) ∧ (x ∈ l → ∃ j, i ≤ j ∧ j < i + l.length ∧ (St.keepAll picks i l s).files x = (s.files x).keep ((s.files x).synced + pick picks j ((s.files x).bytes.length - (s.files x).synced)))
  | [], _, s, _ => ⟨fun _ => rfl, fun h => absurd h List.not_mem_nil⟩
  | f :: fs, i, s, hs => by
    have hp := pick_le picks i ((s.files f).bytes.length - (s.files f).synced)
    have hsy := hs f (List.mem_cons_self ..)
    obtain ⟨m, hm⟩ : ∃ m, m = (s.files f).synced + pick picks i ((s.files f).bytes.length - (s.files f).synced) := ⟨_, rfl⟩
    have hms : ∀ k ∈ fs, ((s.setFile f ((s.files f).keep m)).files k).synced ≤ ((s.setFile f ((s.files f).keep m)).files k).bytes.length := fun k hk => by
      by_cases e : k = f
      · subst e; rw [setFile_same]; simp only [File.keep, List.length_take]; omega
      · rw [setFile_other _ _ _ _ e]; exact hs k (List.mem_cons_of_mem _ hk)
    obtain ⟨h1, h2⟩ := keepAll_file picks x fs (i + 1) { s.setFile f ((s.files f).keep m) with used := s.used + (m : Int) } hms
    have e : St.keepAll picks i (f :: fs) s = St.keepAll picks (i + 1) fs { s.setFile f ((s.files f).keep m) with used := s.used + (m : Int) } := by rw [hm]; rfl
    rw [e]
    refine ⟨fun hx => ?_, fun hx => ?_⟩
    · have hn : x ≠ f := fun e => hx (e ▸ List.mem_cons_self ..)
      rw [h1 fun h => hx (List.mem_cons_of_mem _ h)]
      exact setFile_other _ _ _ _ hn
    · by_cases ex : x = f
      · subst ex
        refine ⟨i, Nat.le_refl _, by simp, ?_⟩
        rw [← hm]
        by_cases hin : x ∈ fs
        · obtain ⟨j, -, -, k3⟩ := h2 hin
          have hp2 := pick_le picks j (((s.setFile x ((s.files x).keep m)).files x).bytes.length - ((s.setFile x ((s.files x).keep m)).files x).synced)
          rw [k3]
          show ((s.setFile x ((s.files x).keep m)).files x).keep (((s.setFile x ((s.files x).keep m)).files x).synced + pick picks j (((s.setFile x ((s.files x).keep m)).files x).bytes.length - ((s.setFile x ((s.files x).keep m)).files x).synced)) = _
          rw [setFile_same] at hp2 ⊢
          have e1 : ((s.files x).keep m).synced = m := rfl
          have e2 : ((s.files x).keep m).bytes.length = m := by simp only [File.keep, List.length_take]; omega
          rw [e1, e2] at hp2 ⊢
          exact keep_keep _ _ _ (by omega) (by omega)
        · rw [h1 hin]
          exact setFile_same _ _ _
      · have hin : x ∈ fs := by rcases List.mem_cons.1 hx with e | e; exact absurd e ex; exact e
        obtain ⟨j, k1, k2, k3⟩ := h2 hin
        have ef : (s.setFile f ((s.files f).keep m)).files x = s.files x := setFile_other _ _ _ _ ex
        refine ⟨j, by omega, by rw [List.length_cons]; omega, ?_⟩
        rw [k3]
        show ((s.setFile f ((s.files f).keep m)).files x).keep (((s.setFile f ((s.files f).keep m)).files x).synced + pick picks j (((s.setFile f ((s.files f).keep m)).files x).bytes.length - ((s.setFile f ((s.files f).keep m)).files x).synced)) = _
        rw [ef]
/-- The names behind a crash. -/
theorem crash_names (s : St) (picks : List Int) (ys : List Nat) : (s.crash picks ys).names = ons (s.since.take (pick picks 0 s.since.length)) s.dur ∧ (s.crash picks ys).dur = ons (s.since.take (pick picks 0 s.since.length)) s.dur ∧ (s.crash picks ys).since = [] ∧ (s.crash picks ys).down = false ∧ (s.crash picks ys).armed = 0 ∧ (s.crash picks ys).calls = s.calls ∧ (s.crash picks ys).room = s.room := by
  obtain ⟨a, b, c, d, e, g, h⟩ := keepAll_fix picks ys 1 { (s.settle (pick picks 0 s.since.length)) with names := (s.settle (pick picks 0 s.since.length)).dur, used := 0 }
  exact ⟨d, e, g, rfl, rfl, b, c⟩
/-- A file that has a name behind a crash. -/
theorem crash_file (s : St) (picks : List Int) (ys : List Nat) (hy : Order (s.settle (pick picks 0 s.since.length)) (s.settle (pick picks 0 s.since.length)).dur ys) (hs : ∀ k ∈ ys, (s.files k).synced ≤ (s.files k).bytes.length) (n : Nm) (x : Nat) (hn : (s.crash picks ys).names n = some x) :
    ∃ j, 1 ≤ j ∧ j < 1 + ys.length ∧ (s.crash picks ys).files x = (s.files x).keep ((s.files x).synced + pick picks j ((s.files x).bytes.length - (s.files x).synced)) := by
  obtain ⟨xs, ⟨ks, -, hk, hm⟩, hp, -⟩ := hy
  rw [(crash_names s picks ys).1] at hn
  have hd : (s.settle (pick picks 0 s.since.length)).dur n = some x := hn
  have hx : x ∈ ys := hp.mem_iff.2 <| by
    have h1 : n ∈ ks := (hk n).2 (by rw [hd]; intro e; cases e)
    have h2 : some x ∈ xs.map some := by rw [hm, ← hd]; exact List.mem_map_of_mem h1
    simpa using h2
  exact (keepAll_file picks x ys 1 { (s.settle (pick picks 0 s.since.length)) with names := (s.settle (pick picks 0 s.since.length)).dur, used := 0 } hs).2 hx
end Go.Proofs.YtfjanenooembkaaDoor.Dk

namespace Go.Proofs.YtfjanenooembkaaDoor.Dk

/-- What is known of a disk with power. -/
structure V (s : St) (room used calls : Int) (names dur : Dir) (since : List Mv) : Prop where
  room : s.room = room
  used : s.used = used
  calls : s.calls = calls
  names : s.names = names
  dur : s.dur = dur
  since : s.since = since
  armed : s.armed = 0
  down : s.down = false
theorem V.begin {s : St} {room used calls : Int} {names dur : Dir} {since : List Mv} (h : V s room used calls names dur since) : s.begin = s := by
  unfold St.begin; rw [if_neg (by have := h.armed; omega)]
theorem V.new (room : Int) : V (St.new room) room 0 0 (fun _ => none) (fun _ => none) [] := ⟨rfl, rfl, rfl, rfl, rfl, rfl, rfl, rfl⟩
theorem V.find {s : St} {room used calls : Int} {names dur : Dir} {since : List Mv} (h : V s room used calls names dur since) (k : Nm) (i : Nat) (hn : names k = some i) : s.find k = (none, some i) := by
  unfold St.find
  rw [h.down, h.names, hn]
  rfl
theorem V.find_none {s : St} {room used calls : Int} {names dur : Dir} {since : List Mv} (h : V s room used calls names dur since) (k : Nm) (hn : names k = none) : s.find k = (some 6, none) := by
  unfold St.find
  rw [h.down, h.names, hn]
  rfl
theorem on_to (k : Nm) (v : Option Nat) (f : Dir) (hk : k ≠ []) : (⟨[], k, v⟩ : Mv).on f = upd f k v := by
  unfold Mv.on
  rw [if_neg hk]
  rfl
theorem on_from (k : Nm) (v : Option Nat) (f : Dir) (hk : k ≠ []) : (⟨k, [], v⟩ : Mv).on f = upd f k none := by
  unfold Mv.on
  rw [if_pos rfl]
  show (if k = [] then f else _) = _
  rw [if_neg hk]
theorem on_both (k tn : Nm) (v : Option Nat) (f : Dir) (hk : k ≠ []) (ht : tn ≠ []) : (⟨k, tn, v⟩ : Mv).on f = upd (upd f k none) tn v := by
  unfold Mv.on
  rw [if_neg ht]
  show upd (if k = [] then f else _) tn v = _
  rw [if_neg hk]
theorem valid_ne {k : Nm} (h : valid k = true) : k ≠ [] := fun e => by subst e; simp [valid] at h
theorem V.create {s : St} {room used calls : Int} {names dur : Dir} {since : List Mv} (h : V s room used calls names dur since) (k : Nm) (i : Nat) (hv : valid k = true) (hn : names k = none) :
    ∃ s', s.create k i = (none, s') ∧ V s' room used (calls + 1) (upd names k (some i)) dur (since ++ [⟨[], k, some i⟩]) ∧ s'.files i = ⟨calls, [], 0⟩ ∧ ∀ x, x ≠ i → s'.files x = s.files x := by
  refine ⟨(s.setFile i ⟨s.calls, [], 0⟩).doMove ⟨[], k, some i⟩, ?_, ⟨h.room, h.used, by show s.calls + 1 = _; rw [h.calls], ?_, h.dur, by show s.since ++ _ = _; rw [h.since], h.armed, h.down⟩, ?_, fun x hx => setFile_other _ _ _ _ hx⟩
  · unfold St.create
    rw [h.begin, if_neg (by rw [h.down]; simp), if_neg (by rw [hv]; simp), if_neg (by rw [h.names, hn]; simp)]
  · show Mv.on _ s.names = _
    rw [on_to _ _ _ (valid_ne hv), h.names]
  · show (s.setFile i ⟨s.calls, [], 0⟩).files i = _
    rw [setFile_same, h.calls]
theorem V.create_there {s : St} {room used calls : Int} {names dur : Dir} {since : List Mv} (h : V s room used calls names dur since) (k : Nm) (i j : Nat) (hv : valid k = true) (hn : names k = some j) : s.create k i = (some 7, s) := by
  unfold St.create
  rw [h.begin, if_neg (by rw [h.down]; simp), if_neg (by rw [hv]; simp), if_pos (by rw [h.names, hn]; simp)]
theorem V.append {s : St} {room used calls : Int} {names dur : Dir} {since : List Mv} (h : V s room used calls names dur since) (k : Nm) (i : Nat) (b : Nm) (hn : names k = some i) (hr : (b.length : Int) ≤ room - used) :
    ∃ s', s.append k b = (none, s') ∧ V s' room (used + b.length) (calls + 1) names dur since ∧ s'.files i = { s.files i with bytes := (s.files i).bytes ++ b } ∧ ∀ x, x ≠ i → s'.files x = s.files x := by
  refine ⟨{ s.setFile i { s.files i with bytes := (s.files i).bytes ++ b } with used := s.used + b.length, calls := s.calls + 1 }, ?_, ⟨h.room, by show s.used + _ = _; rw [h.used], by show s.calls + 1 = _; rw [h.calls], h.names, h.dur, h.since, h.armed, h.down⟩, setFile_same _ _ _, fun x hx => setFile_other _ _ _ _ hx⟩
  unfold St.append
  rw [h.begin, h.find k i hn]
  simp only
  rw [if_neg (by rw [h.room, h.used]; omega)]
theorem V.append_full {s : St} {room used calls : Int} {names dur : Dir} {since : List Mv} (h : V s room used calls names dur since) (k : Nm) (i : Nat) (b : Nm) (hn : names k = some i) (hr : room - used < (b.length : Int)) : s.append k b = (some 8, s) := by
  unfold St.append
  rw [h.begin, h.find k i hn]
  simp only
  rw [if_pos (by rw [h.room, h.used]; exact hr)]
theorem V.append_none {s : St} {room used calls : Int} {names dur : Dir} {since : List Mv} (h : V s room used calls names dur since) (k : Nm) (b : Nm) (hn : names k = none) : s.append k b = (some 6, s) := by
  unfold St.append
  rw [h.begin, h.find_none k hn]
theorem V.cut {s : St} {room used calls : Int} {names dur : Dir} {since : List Mv} (h : V s room used calls names dur since) (k : Nm) (i : Nat) (n : Nat) (hn : names k = some i) (hr : n ≤ (s.files i).bytes.length) :
    ∃ s', s.cut k n = (none, s') ∧ V s' room (used - (((s.files i).bytes.length : Int) - n)) (calls + 1) names dur since ∧ s'.files i = (s.files i).keep n ∧ ∀ x, x ≠ i → s'.files x = s.files x := by
  refine ⟨{ s.setFile i ((s.files i).keep n) with used := s.used - (((s.files i).bytes.length : Int) - n), calls := s.calls + 1 }, ?_, ⟨h.room, by show s.used - _ = _; rw [h.used], by show s.calls + 1 = _; rw [h.calls], h.names, h.dur, h.since, h.armed, h.down⟩, setFile_same _ _ _, fun x hx => setFile_other _ _ _ _ hx⟩
  unfold St.cut
  rw [h.begin, h.find k i hn]
  simp only
  rw [if_neg (by omega)]
  rfl
theorem V.cut_bad {s : St} {room used calls : Int} {names dur : Dir} {since : List Mv} (h : V s room used calls names dur since) (k : Nm) (i : Nat) (n : Int) (hn : names k = some i) (hr : n < 0 ∨ ((s.files i).bytes.length : Int) < n) : s.cut k n = (some 4, s) := by
  unfold St.cut
  rw [h.begin, h.find k i hn]
  simp only
  rw [if_pos hr]
theorem V.sync {s : St} {room used calls : Int} {names dur : Dir} {since : List Mv} (h : V s room used calls names dur since) (k : Nm) (i : Nat) (hn : names k = some i) :
    ∃ s', s.sync k = (none, s') ∧ V s' room used (calls + 1) names dur since ∧ s'.files i = { s.files i with synced := (s.files i).bytes.length } ∧ ∀ x, x ≠ i → s'.files x = s.files x := by
  refine ⟨{ s.setFile i ((s.files i).keep (s.files i).bytes.length) with calls := s.calls + 1 }, ?_, ⟨h.room, h.used, by show s.calls + 1 = _; rw [h.calls], h.names, h.dur, h.since, h.armed, h.down⟩, ?_, fun x hx => setFile_other _ _ _ _ hx⟩
  · unfold St.sync
    rw [h.begin, h.find k i hn]
  · show (s.setFile i _).files i = _
    rw [setFile_same]
    simp [File.keep]
theorem V.sync_none {s : St} {room used calls : Int} {names dur : Dir} {since : List Mv} (h : V s room used calls names dur since) (k : Nm) (hn : names k = none) : s.sync k = (some 6, s) := by
  unfold St.sync
  rw [h.begin, h.find_none k hn]
theorem V.syncDir {s : St} {room used calls : Int} {names dur : Dir} {since : List Mv} (h : V s room used calls names dur since) :
    ∃ s', s.syncDir = (none, s') ∧ V s' room used (calls + 1) names (ons since dur) [] ∧ ∀ x, s'.files x = s.files x := by
  refine ⟨{ s.settle s.since.length with calls := s.calls + 1 }, ?_, ⟨h.room, h.used, by show s.calls + 1 = _; rw [h.calls], h.names, ?_, rfl, h.armed, h.down⟩, fun x => rfl⟩
  · unfold St.syncDir
    rw [h.begin, if_neg (by rw [h.down]; simp)]
  · show ons (s.since.take s.since.length) s.dur = _
    rw [List.take_length, h.since, h.dur]
theorem V.remove {s : St} {room used calls : Int} {names dur : Dir} {since : List Mv} (h : V s room used calls names dur since) (k : Nm) (i : Nat) (hk : k ≠ []) (hn : names k = some i) :
    ∃ s', s.remove k = (none, s') ∧ V s' room (used - (s.files i).bytes.length) (calls + 1) (upd names k none) dur (since ++ [⟨k, [], none⟩]) ∧ ∀ x, s'.files x = s.files x := by
  refine ⟨{ s with used := s.used - (s.files i).bytes.length }.doMove ⟨k, [], none⟩, ?_, ⟨h.room, by show s.used - _ = _; rw [h.used], by show s.calls + 1 = _; rw [h.calls], ?_, h.dur, by show s.since ++ _ = _; rw [h.since], h.armed, h.down⟩, fun x => rfl⟩
  · unfold St.remove
    rw [h.begin, h.find k i hn]
  · show (⟨k, [], none⟩ : Mv).on s.names = _
    rw [on_from _ _ _ hk, h.names]
theorem V.remove_none {s : St} {room used calls : Int} {names dur : Dir} {since : List Mv} (h : V s room used calls names dur since) (k : Nm) (hn : names k = none) : s.remove k = (some 6, s) := by
  unfold St.remove
  rw [h.begin, h.find_none k hn]
theorem V.rename_none {s : St} {room used calls : Int} {names dur : Dir} {since : List Mv} (h : V s room used calls names dur since) (k tn : Nm) (hn : names k = none) : s.rename k tn = (some 6, s) := by
  unfold St.rename
  rw [h.begin, h.find_none k hn]
theorem V.rename {s : St} {room used calls : Int} {names dur : Dir} {since : List Mv} (h : V s room used calls names dur since) (k tn : Nm) (i : Nat) (hk : k ≠ []) (hv : valid tn = true) (hn : names k = some i) :
    ∃ s', s.rename k tn = (none, s') ∧ V s' room (match names tn with | none => used | some o => if o = i then used else used - (s.files o).bytes.length) (calls + 1) (upd (upd names k none) tn (some i)) dur (since ++ [⟨k, tn, some i⟩]) ∧ ∀ x, s'.files x = s.files x := by
  refine ⟨{ s with used := match s.names tn with | none => s.used | some o => if o = i then s.used else s.used - (s.files o).bytes.length }.doMove ⟨k, tn, some i⟩, ?_, ⟨h.room, ?_, by show s.calls + 1 = _; rw [h.calls], ?_, h.dur, by show s.since ++ _ = _; rw [h.since], h.armed, h.down⟩, fun x => rfl⟩
  · unfold St.rename
    rw [h.begin, h.find k i hn]
    simp only
    rw [if_neg (by rw [hv]; simp)]
    rfl
  · show (match s.names tn with | none => s.used | some o => if o = i then s.used else s.used - (s.files o).bytes.length) = _
    rw [h.names, h.used]
  · show (⟨k, tn, some i⟩ : Mv).on s.names = _
    rw [on_both _ _ _ _ hk (valid_ne hv), h.names]
theorem V.len {s : St} {room used calls : Int} {names dur : Dir} {since : List Mv} (h : V s room used calls names dur since) (k : Nm) (i : Nat) (hn : names k = some i) : s.lenOf k = ((s.files i).bytes.length : Int) ∧ s.syncedOf k = ((s.files i).synced : Int) := by
  unfold St.lenOf St.syncedOf
  rw [h.find k i hn]
  exact ⟨rfl, rfl⟩
theorem V.len_none {s : St} {room used calls : Int} {names dur : Dir} {since : List Mv} (h : V s room used calls names dur since) (k : Nm) (hn : names k = none) : s.lenOf k = 0 ∧ s.syncedOf k = 0 := by
  unfold St.lenOf St.syncedOf
  rw [h.find_none k hn]
  exact ⟨rfl, rfl⟩
theorem V.read {s : St} {room used calls : Int} {names dur : Dir} {since : List Mv} (h : V s room used calls names dur since) (k : Nm) (i n : Nat) (hn : names k = some i) (hr : n ≤ (s.files i).bytes.length) : s.readOf k 0 n = (none, (s.files i).bytes.take n) := by
  unfold St.readOf
  rw [h.find k i hn]
  simp only
  rw [if_neg (by omega)]
  simp
/-- A crash. -/
theorem V.crash {s : St} {room used calls : Int} {names dur : Dir} {since : List Mv} (h : V s room used calls names dur since) (picks : List Int) (ys : List Nat) (hy : Order (s.settle (pick picks 0 s.since.length)) (s.settle (pick picks 0 s.since.length)).dur ys) (hs : ∀ k ∈ ys, (s.files k).synced ≤ (s.files k).bytes.length) :
    ∃ m, m ≤ since.length ∧ m = pick picks 0 since.length ∧ V (s.crash picks ys) room (s.crash picks ys).used calls (ons (since.take m) dur) (ons (since.take m) dur) [] ∧ ∀ n x, ons (since.take m) dur n = some x → ∃ j, 1 ≤ j ∧ j < 1 + ys.length ∧ (s.crash picks ys).files x = (s.files x).keep ((s.files x).synced + pick picks j ((s.files x).bytes.length - (s.files x).synced)) := by
  obtain ⟨a, b, c, d, e, f, g⟩ := crash_names s picks ys
  refine ⟨pick picks 0 since.length, pick_le _ _ _, rfl, ⟨by rw [g, h.room], rfl, by rw [f, h.calls], by rw [a, h.since, h.dur], by rw [b, h.since, h.dur], c, e, d⟩, fun n x hn => ?_⟩
  exact crash_file s picks ys hy hs n x (by rw [a, h.since, h.dur]; exact hn)
end Go.Proofs.YtfjanenooembkaaDoor.Dk

namespace Go.Proofs.YtfjanenooembkaaDoor
open Go.RowKit Go.Maps Go.Sort

/-- A disk whose blocks are S's, all of them new since w0. -/
structure SessS (S : Nat → Prop) (w0 : World) (n Bd : Nat) (s : Dk.St) (w : World) : Prop where
  disk : IsDisk w Bd s S
  lo : ∀ k, S k → w0.heap.size ≤ k ∧ k < w.heap.size
  below : Below w0.heap.size w0 w
  small : Dk.Small s n
theorem SessS.safe {S : Nat → Prop} {w0 w : World} {n Bd : Nat} {s : Dk.St} (h : SessS S w0 n Bd s w) {p : Nat → Addr} (hs : SentsD w0 p) : Safe S p :=
  ⟨fun j h1 h2 h3 => by have := hs.size j ⟨h1, h2⟩; have := (h.lo _ h3).1; omega, fun j h1 h2 h3 => by have := (hs.blk j ⟨h1, h2⟩).1; have := (h.lo _ h3).1; omega⟩
theorem SessS.next {S : Nat → Prop} {w0 w w' : World} {n m Bd : Nat} {s s' : Dk.St} (h : SessS S w0 n Bd s w) (hx : Next w Bd S s' w') (hm : Dk.Small s' m) : SessS (Up S w w') w0 m Bd s' w' ∧ Chg S w w' := by
  have h1 := hx.chg.size
  have h2 := h.below.size
  exact ⟨⟨hx.disk, fun k hk => by rcases hk with hk | hk; (have := h.lo k hk; omega); omega, h.below.trans (hx.chg.below h2 fun k hk => (h.lo k hk).1), hm⟩, hx.chg⟩
theorem SessS.grow {S : Nat → Prop} {w0 w w' : World} {n Bd : Nat} {s : Dk.St} (h : SessS S w0 n Bd s w) (hb : Below w.heap.size w w') : SessS S w0 n Bd s w' :=
  ⟨h.disk.below hb, fun k hk => by have := h.lo k hk; have := hb.size; omega, h.below.trans (hb.mono h.below.size), h.small⟩
theorem SessS.mono {S : Nat → Prop} {w0 w : World} {n m Bd : Nat} {s : Dk.St} (h : SessS S w0 n Bd s w) (hm : n ≤ m) : SessS S w0 m Bd s w := ⟨h.disk, h.lo, h.below, h.small.mono hm⟩
/-- A row that is not the disk's grows. -/
theorem SessS.but {S : Nat → Prop} {w0 w w' : World} {n Bd : Nat} {s : Dk.St} {row : Option Nat} (h : SessS S w0 n Bd s w) (hg : w.grownBy w' row) (hr : ∀ k, row = some k → ¬ S k ∧ w0.heap.size ≤ k) : SessS S w0 n Bd s w' :=
  ⟨h.disk.kept fun k hk hlt => hg.block k hlt fun e => (hr k e.symm).1 hk, fun k hk => by have := h.lo k hk; have := hg.size; omega, h.below.grown hg h.below.size fun k hk => (hr k hk).2, h.small⟩

theorem new_sessS (room : Int) (w0 w : World) (hb : Below w0.heap.size w0 w) (h1 : 1 ≤ room) (h2 : room ≤ 4194304) :
    Calls Tryd.prog 10 #[.int .i64 room] w fun e w' => ∃ Bd, e = .returned (.tuple #[.pointer (some ⟨Bd, 0, none⟩), .nilIface]) ∧ SessS (fun k => w.heap.size ≤ k ∧ k < w'.heap.size) w0 0 Bd (Dk.St.new room) w' ∧ Below w.heap.size w w' := by
  refine (new_any room w h1 h2).mono ?_
  rintro e w' ⟨Bd, rfl, -, hd, hb2⟩
  exact ⟨Bd, rfl, ⟨hd, fun k hk => ⟨Nat.le_trans hb.size hk.1, hk.2⟩, hb.trans (hb2.mono hb.size), Dk.Small.new room h1 h2⟩, hb2⟩
theorem SessS.create {S : Nat → Prop} {w0 w : World} {n Bd : Nat} {s : Dk.St} (h : SessS S w0 n Bd s w) (p : Nat → Addr) (hs : SentsD w0 p) (hn : n ≤ 1000) (k : Dk.Nm) (hk : k.length ≤ 1000) (x : Nat) (hx : w.heap.size = x) :
    Calls Tryd.prog 74 #[.pointer (some ⟨Bd, 0, none⟩), encStr k] w fun e w' => e = .returned (errR p (s.create k x).1) ∧ SessS (Up S w w') w0 (n + 1) Bd (s.create k x).2 w' ∧ Chg S w w' := by
  subst hx
  exact (create_any Bd s S p k w (hs.at_ h.below) (h.safe hs) h.disk (h.small.fit hn) (by omega)).mono fun e w' ⟨he, hx⟩ => ⟨he, h.next hx (h.small.create hn k _)⟩
theorem SessS.remove {S : Nat → Prop} {w0 w : World} {n Bd : Nat} {s : Dk.St} (h : SessS S w0 n Bd s w) (p : Nat → Addr) (hs : SentsD w0 p) (hn : n ≤ 1000) (k : Dk.Nm) (hk : k.length ≤ 1000) :
    Calls Tryd.prog 73 #[.pointer (some ⟨Bd, 0, none⟩), encStr k] w fun e w' => e = .returned (errR p (s.remove k).1) ∧ SessS (Up S w w') w0 (n + 1) Bd (s.remove k).2 w' ∧ Chg S w w' :=
  (remove_any Bd s S p k w (hs.at_ h.below) (h.safe hs) h.disk (h.small.fit hn) (by omega)).mono fun e w' ⟨he, hx⟩ => ⟨he, h.next hx (h.small.remove hn k)⟩
theorem SessS.rename {S : Nat → Prop} {w0 w : World} {n Bd : Nat} {s : Dk.St} (h : SessS S w0 n Bd s w) (p : Nat → Addr) (hs : SentsD w0 p) (hn : n ≤ 1000) (k tn : Dk.Nm) (hk : k.length ≤ 1000) (ht : tn.length ≤ 1000) :
    Calls Tryd.prog 42 #[.pointer (some ⟨Bd, 0, none⟩), encStr k, encStr tn] w fun e w' => e = .returned (errR p (s.rename k tn).1) ∧ SessS (Up S w w') w0 (n + 1) Bd (s.rename k tn).2 w' ∧ Chg S w w' :=
  (rename_any Bd s S p k tn w (hs.at_ h.below) (h.safe hs) h.disk (h.small.fit hn) (by omega) (by omega)).mono fun e w' ⟨he, hx⟩ => ⟨he, h.next hx (h.small.rename hn k tn)⟩
theorem SessS.crash {S : Nat → Prop} {w0 w : World} {n Bd : Nat} {s : Dk.St} (h : SessS S w0 n Bd s w) (hn : n ≤ 1000) (A : Option Addr) (c m : Nat) (zs : List Int) (hz : IntsArg w A c zs) (hl : zs.length = m) (hA : ∀ x o, A = some ⟨x, o, none⟩ → zs ≠ [] → ¬ S x ∧ x < w.heap.size) :
    Calls Tryd.prog 18 #[.pointer (some ⟨Bd, 0, none⟩), .slice A m c] w fun e w' => e = .returned (.tuple #[]) ∧ ∃ ys, (Dk.Order (s.settle (Dk.pick zs 0 s.since.length)) (s.settle (Dk.pick zs 0 s.since.length)).dur ys ∧ ∀ k ∈ ys, (s.files k).synced ≤ (s.files k).bytes.length) ∧ SessS (Up S w w') w0 n Bd (s.crash zs ys) w' ∧ Chg S w w' := by
  refine (crash_any Bd s S A c m zs w h.disk (h.small.fit hn) (by have := h.small.calls; omega) hz hl hA).mono fun e w' ⟨he, ys, ⟨ho, hy⟩, hd, hc⟩ => ⟨he, ys, ⟨ho, order_ref h.disk _ ys ho⟩, ?_, hc⟩
  have h1 := hc.size
  have h2 := h.below.size
  exact ⟨hd, fun k hk => by rcases hk with hk | hk; (have := h.lo k hk; omega); omega, h.below.trans (hc.below h2 fun k hk => (h.lo k hk).1), h.small.crash zs ys hy (order_ref h.disk _ ys ho)⟩
end Go.Proofs.YtfjanenooembkaaDoor

namespace Go.Proofs.YtfjanenooembkaaDoor
open Go.RowKit Go.Maps Go.Sort

theorem SessS.append {S : Nat → Prop} {w0 w : World} {n Bd : Nat} {s : Dk.St} (h : SessS S w0 n Bd s w) (p : Nat → Addr) (hs : SentsD w0 p) (hn : n ≤ 1000) (k : Dk.Nm) (hk : k.length ≤ 1000)
    (A : Option Addr) (c m : Nat) (b : Dk.Nm) (ha : Arg w A c b) (hl : b.length = m) (hm : m ≤ 1000) (hA : ∀ x o, A = some ⟨x, o, none⟩ → b ≠ [] → ¬ S x) :
    Calls Tryd.prog 25 #[.pointer (some ⟨Bd, 0, none⟩), encStr k, .slice A m c] w fun e w' => e = .returned (errR p (s.append k b).1) ∧ SessS (Up S w w') w0 (n + 1) Bd (s.append k b).2 w' ∧ Chg S w w' :=
  (append_any Bd s S p k A c m b w (hs.at_ h.below) (h.safe hs) h.disk (h.small.fit hn) (by omega) ha hl (by omega) hA).mono fun e w' ⟨he, hx⟩ => ⟨he, h.next hx (h.small.append hn k b (by omega))⟩
theorem SessS.cut {S : Nat → Prop} {w0 w : World} {n Bd : Nat} {s : Dk.St} (h : SessS S w0 n Bd s w) (p : Nat → Addr) (hs : SentsD w0 p) (hn : n ≤ 1000) (k : Dk.Nm) (hk : k.length ≤ 1000) (m : Int) :
    Calls Tryd.prog 24 #[.pointer (some ⟨Bd, 0, none⟩), encStr k, .int .i64 m] w fun e w' => e = .returned (errR p (s.cut k m).1) ∧ SessS (Up S w w') w0 (n + 1) Bd (s.cut k m).2 w' ∧ Chg S w w' :=
  (cut_any Bd s S p k m w (hs.at_ h.below) (h.safe hs) h.disk (h.small.fit hn) (by omega)).mono fun e w' ⟨he, hx⟩ => ⟨he, h.next hx (h.small.cut hn k m)⟩
theorem SessS.sync {S : Nat → Prop} {w0 w : World} {n Bd : Nat} {s : Dk.St} (h : SessS S w0 n Bd s w) (p : Nat → Addr) (hs : SentsD w0 p) (hn : n ≤ 1000) (k : Dk.Nm) (hk : k.length ≤ 1000) :
    Calls Tryd.prog 75 #[.pointer (some ⟨Bd, 0, none⟩), encStr k] w fun e w' => e = .returned (errR p (s.sync k).1) ∧ SessS (Up S w w') w0 (n + 1) Bd (s.sync k).2 w' ∧ Chg S w w' :=
  (sync_any Bd s S p k w (hs.at_ h.below) (h.safe hs) h.disk (h.small.fit hn) (by omega)).mono fun e w' ⟨he, hx⟩ => ⟨he, h.next hx (h.small.sync hn k)⟩
theorem SessS.syncDir {S : Nat → Prop} {w0 w : World} {n Bd : Nat} {s : Dk.St} (h : SessS S w0 n Bd s w) (p : Nat → Addr) (hs : SentsD w0 p) (hn : n ≤ 1000) :
    Calls Tryd.prog 43 #[.pointer (some ⟨Bd, 0, none⟩)] w fun e w' => e = .returned (errR p s.syncDir.1) ∧ SessS (Up S w w') w0 (n + 1) Bd s.syncDir.2 w' ∧ Chg S w w' :=
  (syncDir_any Bd s S p w (hs.at_ h.below) (h.safe hs) h.disk (h.small.fit hn)).mono fun _e _w' ⟨he, hx⟩ => ⟨he, h.next hx (h.small.syncDir hn)⟩
theorem SessS.len {S : Nat → Prop} {w0 w : World} {n Bd : Nat} {s : Dk.St} (h : SessS S w0 n Bd s w) (p : Nat → Addr) (hs : SentsD w0 p) (k : Dk.Nm) (hk : k.length ≤ 1000) :
    Calls Tryd.prog 44 #[.pointer (some ⟨Bd, 0, none⟩), encStr k] w fun e w' => e = .returned (.tuple #[.int .i64 (s.lenOf k), errR p (s.find k).1]) ∧ ∃ q, w' = w.drewN q :=
  len_any Bd s S p k w (hs.at_ h.below) h.disk (by omega)
theorem SessS.read {S : Nat → Prop} {w0 w : World} {n Bd : Nat} {s : Dk.St} (h : SessS S w0 n Bd s w) (p : Nat → Addr) (hs : SentsD w0 p) (hn : n ≤ 1000) (k : Dk.Nm) (hk : k.length ≤ 1000) (a m : Int) (ha : -9223372036854775808 ≤ a ∧ a ≤ 9223372036854775807) :
    Calls Tryd.prog 22 #[.pointer (some ⟨Bd, 0, none⟩), encStr k, .int .i64 a, .int .i64 m] w fun e w' => ∃ v, e = .returned (.tuple #[v, errR p (s.readOf k a m).1]) ∧ Own w' w.heap.size v (s.readOf k a m).2 ∧ Below w.heap.size w w' :=
  dRead_any Bd s S p k a m w (hs.at_ h.below) h.disk (by omega) (h.small.fit hn) ha
end Go.Proofs.YtfjanenooembkaaDoor

namespace Go.Proofs.YtfjanenooembkaaDoor
open Go.RowKit Go.Maps

theorem one_vals {k : Dk.Nm} {i : Nat} {f : Dk.Dir} {l : List Nat} (hf : ∀ x, f x ≠ none ↔ x = k) (hk : f k = some i) (h : Dk.Vals f l) : l = [i] := by
  obtain ⟨ks, hnd, hmem, hmap⟩ := h
  have e : ks = [k] := by
    have h1 : k ∈ ks := (hmem k).2 ((hf k).2 rfl)
    have h2 : ∀ x ∈ ks, x = k := fun x hx => (hf x).1 ((hmem x).1 hx)
    cases ks with
    | nil => simp at h1
    | cons a r =>
      obtain rfl := h2 a (List.mem_cons_self ..)
      cases r with
      | nil => rfl
      | cons b r =>
        have := h2 b (List.mem_cons_of_mem _ (List.mem_cons_self ..))
        subst this
        simp at hnd
  subst e
  simp [hk] at hmap
  cases l with
  | nil => simp at hmap
  | cons a r => simp at hmap; simp [hmap]

theorem argMade (w : World) (l : List UInt8) (cs : Array Value) (e : TypeId) (fr : Nat × Nat) (hc : (cells l).toArray = cs) (hl : l.length ≤ 1000) : Arg (w.alloc (.cells cs e fr)) (some ⟨w.heap.size, 0, none⟩) l.length l :=
  ⟨Nat.le_refl _, by omega, fun h => (by cases h), Reads.made w l cs e fr _ rfl hc⟩
theorem intsNone (w : World) : IntsArg w none 0 [] := ⟨Nat.le_refl _, by simp, fun _ => rfl, fun j hj => absurd hj (Nat.not_lt_zero _), fun z hz => absurd hz List.not_mem_nil⟩
theorem pick_nil (i most : Nat) : Dk.pick [] i most = 0 := by unfold Dk.pick; rw [if_neg (by simp)]
theorem Sess.refs {w0 w : World} {n Bd : Nat} {s : Dk.St} (h : Sess w0 n Bd s w) (m : Nat) (ys : List Nat) (hy : Dk.Order (s.settle m) (s.settle m).dur ys) : ∀ k ∈ ys, (s.files k).synced ≤ (s.files k).bytes.length := order_ref h.disk m ys hy

end Go.Proofs.YtfjanenooembkaaDoor

namespace Go.Proofs.YtfjanenooembkaaDoor.Dk

/-- A disk behind the crash: f is there with what was synced, and some of what was not; g is there whole, or not at all. -/
structure Kept (t : St) (i1 i2 : Nat) (a b c : Nm) (n : Nat) : Prop where
  lo : a.length ≤ n
  hi : n ≤ a.length + b.length
  find : t.find [102] = (none, some i1)
  len : t.lenOf [102] = (n : Int)
  syn : t.syncedOf [102] = (n : Int)
  read : t.readOf [102] 0 n = (none, (a ++ b).take n)
  other : (t.find [103] = (none, some i2) ∧ t.lenOf [103] = (c.length : Int)) ∨ (t.find [103] = (some 6, none) ∧ t.lenOf [103] = 0)

theorem keeps_states (i1 : Nat) (a b c : Nm) (ha : a.length ≤ 300) (hb : b.length ≤ 300) (hc : c.length ≤ 300) :
    ∃ s3 s4 s5 s6 s7, (St.new 2000).create [102] i1 = (none, s3) ∧ s3.syncDir = (none, s4) ∧ s4.append [102] a = (none, s5) ∧ s5.sync [102] = (none, s6) ∧ s6.append [102] b = (none, s7) ∧ s7.names [102] = some i1 ∧
      ∀ i2, i2 ≠ i1 → ∃ s8 s9 s10, s7.create [103] i2 = (none, s8) ∧ s8.append [103] c = (none, s9) ∧ s9.sync [103] = (none, s10) ∧
        ∀ picks ys, Order (s10.settle (pick picks 0 s10.since.length)) (s10.settle (pick picks 0 s10.since.length)).dur ys → (∀ k ∈ ys, (s10.files k).synced ≤ (s10.files k).bytes.length) → ∃ n, Kept (s10.crash picks ys) i1 i2 a b c n := by
  obtain ⟨s3, e3, v3, f3, -⟩ := (V.new 2000).create [102] i1 (by decide) rfl
  obtain ⟨s4, e4, v4, f4⟩ := v3.syncDir
  obtain ⟨s5, e5, v5, f5, -⟩ := v4.append [102] i1 a (by simp [upd]) (by omega)
  obtain ⟨s6, e6, v6, f6, -⟩ := v5.sync [102] i1 (by simp [upd])
  obtain ⟨s7, e7, v7, f7, -⟩ := v6.append [102] i1 b (by simp [upd]) (by omega)
  refine ⟨s3, s4, s5, s6, s7, e3, e4, e5, e6, e7, by rw [v7.names]; simp [upd], fun i2 hne => ?_⟩
  obtain ⟨s8, e8, v8, f8, g8⟩ := v7.create [103] i2 (by decide) (by simp [upd])
  obtain ⟨s9, e9, v9, f9, g9⟩ := v8.append [103] i2 c (by simp [upd]) (by omega)
  obtain ⟨s10, e10, v10, f10, g10⟩ := v9.sync [103] i2 (by simp [upd])
  refine ⟨s8, s9, s10, e8, e9, e10, fun picks ys hy hs => ?_⟩
  have h1 : s10.files i1 = ⟨0, a ++ b, a.length⟩ := by
    rw [g10 _ hne.symm, g9 _ hne.symm, g8 _ hne.symm, f7, f6, f5, f4, f3]
    simp
  have h2 : (s10.files i2).bytes = c ∧ (s10.files i2).synced = c.length := by
    rw [f10, f9, f8]
    simp
  obtain ⟨m, hm, -, vc, fc⟩ := v10.crash picks ys hy hs
  clear f3 f4 f5 f6 f7 f8 f9 f10 g8 g9 g10 e3 e4 e5 e6 e7 e8 e9 e10 v3 v4 v5 v6 v7 v8 v9 v10
  have hd : ∀ k, ons ([] ++ [(⟨[], [102], some i1⟩ : Mv)]) (fun _ => none) k = if k = [102] then some i1 else none := fun k => by
    simp [ons, on_to, upd]
  have hn1 : ons (([] ++ [(⟨[], [103], some i2⟩ : Mv)]).take m) (ons ([] ++ [(⟨[], [102], some i1⟩ : Mv)]) fun _ => none) [102] = some i1 := by
    match m, hm with
    | 0, _ => simp [ons, on_to, upd]
    | 1, _ => simp [ons, on_to, upd]
  have hn2 : ons (([] ++ [(⟨[], [103], some i2⟩ : Mv)]).take m) (ons ([] ++ [(⟨[], [102], some i1⟩ : Mv)]) fun _ => none) [103] = some i2 ∨ ons (([] ++ [(⟨[], [103], some i2⟩ : Mv)]).take m) (ons ([] ++ [(⟨[], [102], some i1⟩ : Mv)]) fun _ => none) [103] = none := by
    match m, hm with
    | 0, _ => exact .inr (by simp [ons, on_to, upd])
    | 1, _ => exact .inl (by simp [ons, on_to, upd])
  obtain ⟨j, -, -, hj⟩ := fc [102] i1 hn1
  rw [h1] at hj
  have hp := pick_le picks j ((a ++ b).length - a.length)
  simp only at hj
  generalize hk : pick picks j ((a ++ b).length - a.length) = k at *
  have hlen : ((s10.crash picks ys).files i1).bytes.length = a.length + k ∧ ((s10.crash picks ys).files i1).synced = a.length + k := by
    rw [hj]
    simp only [File.keep, List.length_take, List.length_append, and_true] at hp ⊢
    omega
  have hl := vc.len [102] i1 hn1
  simp only [List.length_append] at hp
  refine ⟨a.length + k, by omega, by omega, vc.find [102] i1 hn1, by rw [hl.1, hlen.1], by rw [hl.2, hlen.2], ?_, ?_⟩
  · rw [vc.read [102] i1 (a.length + k) hn1 (by rw [hlen.1]; exact Nat.le_refl _), hj]
    simp [File.keep, List.take_take]
  · rcases hn2 with hn2 | hn2
    · refine .inl ⟨vc.find [103] i2 hn2, ?_⟩
      obtain ⟨j', -, -, hj'⟩ := fc [103] i2 hn2
      rw [(vc.len [103] i2 hn2).1, hj', h2.1, h2.2, Nat.sub_self]
      have h0 := pick_le picks j' 0
      have h0' : pick picks j' 0 = 0 := by omega
      rw [h0', Nat.add_zero]
      show (((s10.files i2).bytes.take c.length).length : Int) = _
      rw [h2.1, List.take_length]
    · exact .inr ⟨vc.find_none [103] hn2, (vc.len_none [103] hn2).1⟩
end Go.Proofs.YtfjanenooembkaaDoor.Dk

namespace Go.Proofs.YtfjanenooembkaaDoor
open Go.RowKit Go.ChangeShapes Go.WideShapes Go.ChangeAt

theorem IntsArg.below {w w' : World} {C : Nat} {A : Option Addr} {c : Nat} {zs : List Int} (h : IntsArg w A c zs) (hb : Below C w w') (hC : w.heap.size ≤ C) : IntsArg w' A c zs :=
  ⟨h.le, h.max, h.nil, fun j hj => by
    obtain ⟨b, off, e, hc⟩ := h.get j hj
    refine ⟨b, off, e, (hb.cell (p := ⟨b, off + j, none⟩) ?_).trans hc⟩
    show b < C
    rcases Nat.lt_or_ge b w.heap.size with h1 | h1
    · omega
    · exfalso
      simp [World.cell?, Array.getElem?_eq_none h1] at hc, h.fit⟩
theorem IntsArg.lt {w : World} {A : Option Addr} {c : Nat} {zs : List Int} (h : IntsArg w A c zs) (x o : Nat) (e : A = some ⟨x, o, none⟩) (hz : zs ≠ []) : x < w.heap.size := by
  obtain ⟨b, off, e', hc⟩ := h.get 0 (List.length_pos_iff.2 hz)
  rw [e] at e'
  cases e'
  rcases Nat.lt_or_ge x w.heap.size with h1 | h1
  · exact h1
  · exfalso
    simp [World.cell?, Array.getElem?_eq_none h1] at hc
theorem Arg.lt {w : World} {A : Option Addr} {c : Nat} {l : List UInt8} (h : Arg w A c l) (x o : Nat) (e : A = some ⟨x, o, none⟩) (hl : l ≠ []) : x < w.heap.size := by
  rcases h.reads with h1 | ⟨b, off, h1, h2, -⟩
  · exact absurd h1 hl
  · rw [h1] at e; cases e; exact h2
theorem intsCap_of {H : Type} {enc : TypeId × Value → H} {W : World} {base : Nat} {spare : Nat → Bool} {held : Bool} {a : Option Addr} {len cap : Nat} {d : DataW H} {p : List MemPlace}
    (h : DataW.Trod enc Tryd.prog W base spare held 23 (.slice a len cap) d p) : a = none → cap = 0 := by
  obtain ⟨fuel, hf⟩ := h
  rcases open_ints Tryd.underlying23 Tryd.underlying3 cells_int hf with ⟨hcs, _⟩ | ⟨x, l, c, zs, hcs, _⟩
  · simp [Value.cells] at hcs
    obtain ⟨rfl, rfl, rfl⟩ := hcs
    exact fun _ => rfl
  · simp [Value.cells] at hcs
    obtain ⟨rfl, rfl, rfl⟩ := hcs
    intro e
    cases e
theorem intsArg_of {W : World} {A : Option Addr} {cap : Nat} {zs : List Int} (le : zs.length ≤ cap) (mx : cap ≤ 9223372036854775807) (hi : Ints W A zs) (hz : ∀ k, k < zs.length → -9223372036854775808 ≤ zs.getD k 0 ∧ zs.getD k 0 ≤ 9223372036854775807) (hn : A = none → cap = 0) : IntsArg W A cap zs :=
  ⟨le, mx, hn, fun j hj => by
    rcases hi with h | ⟨b, off, e, -, hc⟩
    · subst h; exact absurd hj (Nat.not_lt_zero _)
    · exact ⟨b, off, e, hc j hj⟩, fun z hz' => by
    obtain ⟨k, hk, rfl⟩ := List.getElem_of_mem hz'
    have := hz k hk
    simpa [List.getD, List.getElem?_eq_getElem hk] using this⟩
theorem own_n {w : World} {base n : Nat} {v : Value} {l : List UInt8} (h : Own w base v l) (hl : l.length = n) : ∃ A c, v = .slice A n c ∧ Arg w A c l := by
  obtain ⟨A, c, hv, ha⟩ := h.arg
  exact ⟨A, c, by rw [hv, hl], ha⟩
end Go.Proofs.YtfjanenooembkaaDoor

namespace Go.Proofs.YtfjanenooembkaaDoor.Dk

/-- A disk whose power is gone. -/
structure Off (s : St) : Prop where
  down : s.down = true
  armed : s.armed = 0
theorem Off.begin {s : St} (h : Off s) : s.begin = s := by
  unfold St.begin; rw [if_neg (by have := h.armed; omega)]
theorem Off.find {s : St} (h : Off s) (k : Nm) : s.find k = (some 9, none) := by
  unfold St.find; rw [h.down, if_pos rfl]
theorem Off.create {s : St} (h : Off s) (k : Nm) (i : Nat) : s.create k i = (some 9, s) := by
  unfold St.create; rw [h.begin, h.down, if_pos rfl]
theorem Off.append {s : St} (h : Off s) (k b : Nm) : s.append k b = (some 9, s) := by
  unfold St.append; rw [h.begin, h.find]
theorem Off.cut {s : St} (h : Off s) (k : Nm) (n : Int) : s.cut k n = (some 9, s) := by
  unfold St.cut; rw [h.begin, h.find]
theorem Off.sync {s : St} (h : Off s) (k : Nm) : s.sync k = (some 9, s) := by
  unfold St.sync; rw [h.begin, h.find]
theorem Off.rename {s : St} (h : Off s) (k tn : Nm) : s.rename k tn = (some 9, s) := by
  unfold St.rename; rw [h.begin, h.find]
theorem Off.remove {s : St} (h : Off s) (k : Nm) : s.remove k = (some 9, s) := by
  unfold St.remove; rw [h.begin, h.find]
theorem Off.syncDir {s : St} (h : Off s) : s.syncDir = (some 9, s) := by
  unfold St.syncDir; rw [h.begin, h.down, if_pos rfl]
theorem Off.read {s : St} (h : Off s) (k : Nm) (a m : Int) : (s.readOf k a m).1 = some 9 := by
  unfold St.readOf; rw [h.find]

theorem down_states (i1 : Nat) (b : Nm) (hb : b.length ≤ 50) :
    ∃ s3 s4 s5 s6 s8, (St.new 500).create [97] i1 = (none, s3) ∧ s3.append [97] b = (none, s4) ∧ s4.sync [97] = (none, s5) ∧ s5.syncDir = (none, s6) ∧ ({ s6 with armed := 1 } : St).syncDir = (some 9, s8) ∧ Off s8 ∧
      ∀ ys, Order (s8.settle (pick [] 0 s8.since.length)) (s8.settle (pick [] 0 s8.since.length)).dur ys → (∀ x ∈ ys, (s8.files x).synced ≤ (s8.files x).bytes.length) →
        (s8.crash [] ys).down = false ∧ (s8.crash [] ys).readOf [97] 0 (b.length : Int) = (none, b) ∧ ∀ i, ((s8.crash [] ys).create [98] i).1 = none := by
  obtain ⟨s3, e3, v3, f3, -⟩ := (V.new 500).create [97] i1 (by decide) rfl
  obtain ⟨s4, e4, v4, f4, -⟩ := v3.append [97] i1 b (by simp [upd]) (by omega)
  obtain ⟨s5, e5, v5, f5, -⟩ := v4.sync [97] i1 (by simp [upd])
  obtain ⟨s6, e6, v6, f6⟩ := v5.syncDir
  have h6 : s6.files i1 = ⟨0, b, b.length⟩ := by rw [f6, f5, f4, f3]; simp
  refine ⟨s3, s4, s5, s6, { s6 with armed := 0, down := true }, e3, e4, e5, e6, ?_, ⟨rfl, rfl⟩, fun ys hy hs => ?_⟩
  · have hbg : ({ s6 with armed := 1 } : St).begin = { s6 with armed := 0, down := true } := by
      unfold St.begin
      rw [if_pos (by show (0 : Int) < 1; omega)]
      simp
    unfold St.syncDir
    rw [hbg, if_pos rfl]
  · obtain ⟨a1, a2, a3, a4, a5, a6, a7⟩ := crash_names ({ s6 with armed := 0, down := true } : St) [] ys
    have hn : ons (({ s6 with armed := 0, down := true } : St).since.take (pick [] 0 ({ s6 with armed := 0, down := true } : St).since.length)) ({ s6 with armed := 0, down := true } : St).dur = upd (fun _ => none) [97] (some i1) := by
      show ons (s6.since.take _) s6.dur = _
      rw [v6.since, v6.dur]
      simp [ons, on_to]
    rw [hn] at a1 a2
    have vt : V (St.crash ({ s6 with armed := 0, down := true } : St) [] ys) (St.crash ({ s6 with armed := 0, down := true } : St) [] ys).room (St.crash ({ s6 with armed := 0, down := true } : St) [] ys).used (St.crash ({ s6 with armed := 0, down := true } : St) [] ys).calls (upd (fun _ => none) [97] (some i1)) (upd (fun _ => none) [97] (some i1)) [] := ⟨rfl, rfl, rfl, a1, a2, a3, a5, a4⟩
    obtain ⟨j, -, -, hj⟩ := crash_file ({ s6 with armed := 0, down := true } : St) [] ys hy hs [97] i1 (by rw [a1]; simp [upd])
    have hj' : (St.crash ({ s6 with armed := 0, down := true } : St) [] ys).files i1 = (s6.files i1).keep ((s6.files i1).synced + pick [] j ((s6.files i1).bytes.length - (s6.files i1).synced)) := hj
    rw [h6] at hj'
    have hp := pick_le [] j (b.length - b.length)
    simp only at hj'
    generalize pick [] j (b.length - b.length) = x at *
    obtain rfl : x = 0 := by omega
    have hby : ((St.crash ({ s6 with armed := 0, down := true } : St) [] ys).files i1).bytes = b := by
      rw [hj']
      simp [File.keep]
    refine ⟨a4, ?_, fun i => ?_⟩
    · rw [vt.read [97] i1 b.length (by simp [upd]) (by rw [hby]; exact Nat.le_refl _), hby, List.take_length]
    · obtain ⟨s', e', -⟩ := vt.create [98] i (by decide) (by simp [upd])
      rw [e']
end Go.Proofs.YtfjanenooembkaaDoor.Dk

namespace Go.Proofs.YtfjanenooembkaaDoor
open Go.RowKit Go.Maps

theorem Sess.down {w0 w : World} {n Bd : Nat} {s : Dk.St} (h : Sess w0 n Bd s w) : Calls Tryd.prog 16 #[.pointer (some ⟨Bd, 0, none⟩)] w fun e w' => e = .returned (.bool s.down) ∧ w' = w := down_any Bd s _ w h.disk
theorem Sess.back {w0 w : World} {n m Bd : Nat} {s : Dk.St} (h : Sess w0 n Bd s w) (hs : Dk.Small s m) : Sess w0 m Bd s w := ⟨h.disk, h.below, hs⟩
end Go.Proofs.YtfjanenooembkaaDoor

namespace Go.Proofs.YtfjanenooembkaaDoor.Dk

/-- What a name has behind it while it is being laid. -/
def fresh : Nm := [46, 110, 101, 119]
/-- Bytes with their sum behind them. -/
def sealed (b : Nm) : Nm := b ++ Crc.little (Crc.sum b)
theorem sealed_len (b : Nm) : (sealed b).length = b.length + 4 := by rw [sealed, List.length_append, Crc.little_len]

def St.drop (s : St) (k : Nm) : End :=
  match s.find k with
  | (some j, _) => if j = 6 then (none, s) else (some j, s)
  | (none, _) => s.remove k
def St.lay (s : St) (k b : Nm) (id : Nat) : End :=
  match s.create k id with
  | (some j, s1) => (some j, s1)
  | (none, s1) =>
    match s1.append k b with
    | (some j, s2) => (some j, s2)
    | (none, s2) => s2.sync k
/-- What Write makes of a disk. -/
def St.write (s : St) (k b : Nm) (id : Nat) : End :=
  match s.drop (k ++ fresh) with
  | (some j, s1) => (some j, s1)
  | (none, s1) =>
    match s1.lay (k ++ fresh) (sealed b) id with
    | (some j, s2) => (some j, s2)
    | (none, s2) =>
      match s2.rename (k ++ fresh) k with
      | (some j, s3) => (some j, s3)
      | (none, s3) => s3.syncDir

/-- Armed anew. -/
def St.arm (s : St) (a : Int) : St := { s with armed := a }
def tick (a : Int) : Int := if 0 < a then a - 1 else a
/-- With power, nothing armed. -/
structure On (s : St) : Prop where
  armed : s.armed = 0
  down : s.down = false
theorem On.begin {s : St} (h : On s) : s.begin = s := by unfold St.begin; rw [if_neg (by have := h.armed; omega)]
theorem On.begin_arm {s : St} (h : On s) (a : Int) (ha : a ≠ 1) : (s.arm a).begin = s.arm (tick a) := by
  have hd := h.down
  unfold St.begin tick
  show (if 0 < a then _ else _) = _
  by_cases h0 : 0 < a
  · rw [if_pos h0, if_pos h0]
    show ({ s.arm a with armed := a - 1, down := s.down || decide (a - 1 = 0) } : St) = s.arm (a - 1)
    rw [decide_eq_false (by omega), Bool.or_false]
    rfl
  · rw [if_neg h0, if_neg h0]
theorem On.begin_off {s : St} (h : On s) : (s.arm 1).begin = { s with armed := 0, down := true } := by
  have hd := h.down
  unfold St.begin
  show (if (0 : Int) < 1 then _ else _) = _
  rw [if_pos (by omega)]
  show ({ s.arm 1 with armed := 1 - 1, down := s.down || decide ((1 : Int) - 1 = 0) } : St) = _
  rw [decide_eq_true (by omega), Bool.or_true]
  rfl
theorem On.create_arm {s : St} (h : On s) (a : Int) (ha : a ≠ 1) (k : Nm) (i : Nat) : (s.arm a).create k i = ((s.create k i).1, (s.create k i).2.arm (tick a)) := by
  unfold St.create
  rw [h.begin_arm a ha, h.begin]
  have e1 : (s.arm (tick a)).down = s.down := rfl
  have e2 : (s.arm (tick a)).names = s.names := rfl
  rw [e1, e2, h.down]
  cases valid k
  · rfl
  · cases s.names k <;> rfl
theorem On.append_arm {s : St} (h : On s) (a : Int) (ha : a ≠ 1) (k b : Nm) : (s.arm a).append k b = ((s.append k b).1, (s.append k b).2.arm (tick a)) := by
  unfold St.append
  rw [h.begin_arm a ha, h.begin]
  have e1 : (s.arm (tick a)).find k = s.find k := rfl
  rw [e1]
  rcases s.find k with ⟨_ | j, _ | i⟩
  · rfl
  · have e2 : (s.arm (tick a)).room = s.room := rfl
    have e3 : (s.arm (tick a)).used = s.used := rfl
    simp only [e2, e3]
    by_cases hr : s.room - s.used < (b.length : Int)
    · rw [if_pos hr, if_pos hr]
    · rw [if_neg hr, if_neg hr]; rfl
  · rfl
  · rfl
theorem On.sync_arm {s : St} (h : On s) (a : Int) (ha : a ≠ 1) (k : Nm) : (s.arm a).sync k = ((s.sync k).1, (s.sync k).2.arm (tick a)) := by
  unfold St.sync
  rw [h.begin_arm a ha, h.begin]
  have e1 : (s.arm (tick a)).find k = s.find k := rfl
  rw [e1]
  rcases s.find k with ⟨_ | j, _ | i⟩ <;> rfl
theorem On.rename_arm {s : St} (h : On s) (a : Int) (ha : a ≠ 1) (k tn : Nm) : (s.arm a).rename k tn = ((s.rename k tn).1, (s.rename k tn).2.arm (tick a)) := by
  unfold St.rename
  rw [h.begin_arm a ha, h.begin]
  have e1 : (s.arm (tick a)).find k = s.find k := rfl
  rw [e1]
  rcases s.find k with ⟨_ | j, _ | i⟩
  · rfl
  · cases hv : valid tn <;> simp only [if_true, if_false, reduceCtorEq] <;> rfl
  · rfl
  · rfl
theorem On.syncDir_arm {s : St} (h : On s) (a : Int) (ha : a ≠ 1) : (s.arm a).syncDir = (s.syncDir.1, s.syncDir.2.arm (tick a)) := by
  unfold St.syncDir
  rw [h.begin_arm a ha, h.begin]
  have e1 : (s.arm (tick a)).down = s.down := rfl
  rw [e1, h.down]
  rfl
/-- The call at which the power goes. -/
theorem On.off {s : St} (h : On s) (k tn b : Nm) (i : Nat) : (s.arm 1).create k i = (some 9, { s with armed := 0, down := true }) ∧ (s.arm 1).append k b = (some 9, { s with armed := 0, down := true }) ∧ (s.arm 1).sync k = (some 9, { s with armed := 0, down := true }) ∧
    (s.arm 1).rename k tn = (some 9, { s with armed := 0, down := true }) ∧ (s.arm 1).syncDir = (some 9, { s with armed := 0, down := true }) := by
  have hf : (St.mk s.room s.names s.dur s.since s.used s.calls 0 true s.files).find k = (some 9, none) := rfl
  refine ⟨?_, ?_, ?_, ?_, ?_⟩
  · unfold St.create; rw [h.begin_off]; rfl
  · unfold St.append; rw [h.begin_off, hf]
  · unfold St.sync; rw [h.begin_off, hf]
  · unfold St.rename; rw [h.begin_off, hf]
  · unfold St.syncDir; rw [h.begin_off]; rfl

/-- Names that lead to what is kept: T tells what; names with '.new' behind them may be left over. -/
structure Dirs (files : Nat → File) (f : Dir) (L : List Nm) (T : Nm → Option Nm) : Prop where
  inj : ∀ k k' i, f k = some i → f k' = some i → k = k'
  has : ∀ k b, T k = some b → ∃ i, f k = some i ∧ (files i).bytes = sealed b ∧ (files i).synced = (sealed b).length
  bare : ∀ k, T k = none → f k = none ∨ ∃ k', k = k' ++ fresh
  isin : ∀ k, f k ≠ none → k ∈ L
theorem Dirs.files {files files' : Nat → File} {f : Dir} {L : List Nm} {T : Nm → Option Nm} (h : Dirs files f L T) (hf : ∀ k i, f k = some i → files' i = files i) : Dirs files' f L T :=
  ⟨h.inj, fun k b hk => by obtain ⟨i, h1, h2, h3⟩ := h.has k b hk; exact ⟨i, h1, by rw [hf k i h1]; exact h2, by rw [hf k i h1]; exact h3⟩, h.bare, h.isin⟩
/-- What is synced whole is kept. -/
theorem Dirs.files2 {files files' : Nat → File} {f : Dir} {L : List Nm} {T : Nm → Option Nm} (h : Dirs files f L T) (hf : ∀ k i, f k = some i → (files i).synced = (files i).bytes.length → (files' i).bytes = (files i).bytes ∧ (files' i).synced = (files i).bytes.length) : Dirs files' f L T :=
  ⟨h.inj, fun k b hk => by
    obtain ⟨i, h1, h2, h3⟩ := h.has k b hk
    obtain ⟨g1, g2⟩ := hf k i h1 (by rw [h3, h2])
    exact ⟨i, h1, by rw [g1, h2], by rw [g2, h2]⟩, h.bare, h.isin⟩
/-- A file that is being laid. -/
theorem Dirs.new {files files' : Nat → File} {f : Dir} {L : List Nm} {T : Nm → Option Nm} (h : Dirs files f L T) (k : Nm) (id : Nat) (hid : ∀ x, f x ≠ some id) (hL : k ++ fresh ∈ L) (hT : T (k ++ fresh) = none) (hf : ∀ i, i ≠ id → files' i = files i) : Dirs files' (upd f (k ++ fresh) (some id)) L T := by
  refine ⟨fun a b i ha hb => ?_, fun a b ha => ?_, fun a ha => ?_, fun a ha => ?_⟩
  · unfold upd at ha hb
    split at ha <;> split at hb
    · simp_all
    · injection ha with ha; subst ha; exact absurd hb (hid b)
    · injection hb with hb; subst hb; exact absurd ha (hid a)
    · exact h.inj a b i ha hb
  · have hne : a ≠ k ++ fresh := fun e => by rw [e, hT] at ha; cases ha
    obtain ⟨i, h1, h2, h3⟩ := h.has a b ha
    have hi : i ≠ id := fun e => hid a (by rw [← e]; exact h1)
    exact ⟨i, by rw [upd_other _ _ _ _ hne]; exact h1, by rw [hf i hi]; exact h2, by rw [hf i hi]; exact h3⟩
  · by_cases e : a = k ++ fresh
    · exact .inr ⟨k, e⟩
    · rw [upd_other _ _ _ _ e]; exact h.bare a ha
  · by_cases e : a = k ++ fresh
    · rw [e]; exact hL
    · rw [upd_other _ _ _ _ e] at ha; exact h.isin a ha
/-- It has its name. -/
theorem Dirs.moved {files files' : Nat → File} {f : Dir} {L : List Nm} {T : Nm → Option Nm} (h : Dirs files f L T) (k b : Nm) (id : Nat) (hid : ∀ x, f x ≠ some id) (hL : k ∈ L) (hf : ∀ i, i ≠ id → files' i = files i) (hb : (files' id).bytes = sealed b) (hs : (files' id).synced = (sealed b).length) (hT : T (k ++ fresh) = none) :
    Dirs files' (upd (upd (upd f (k ++ fresh) (some id)) (k ++ fresh) none) k (some id)) L (fun x => if x = k then some b else T x) := by
  have hkk : k ++ fresh ≠ k := fun e => by have := congrArg List.length e; simp [fresh] at this
  have old : ∀ x, x ≠ k → upd (upd (upd f (k ++ fresh) (some id)) (k ++ fresh) none) k (some id) x = if x = k ++ fresh then none else f x := fun x hx => by
    rw [upd_other _ _ _ _ hx]
    unfold upd
    split <;> simp_all
  refine ⟨fun a c i ha hc => ?_, fun a c ha => ?_, fun a ha => ?_, fun a ha => ?_⟩
  · by_cases e1 : a = k <;> by_cases e2 : c = k
    · rw [e1, e2]
    · subst e1
      rw [upd_same] at ha
      rw [old c e2] at hc
      split at hc
      · cases hc
      · injection ha with ha; subst ha; exact absurd hc (hid c)
    · subst e2
      rw [upd_same] at hc
      rw [old a e1] at ha
      split at ha
      · cases ha
      · injection hc with hc; subst hc; exact absurd ha (hid a)
    · rw [old a e1] at ha
      rw [old c e2] at hc
      split at ha
      · cases ha
      split at hc
      · cases hc
      exact h.inj a c i ha hc
  · by_cases e1 : a = k
    · subst e1
      rw [if_pos rfl] at ha
      injection ha with ha
      subst ha
      exact ⟨id, upd_same _ _ _, hb, hs⟩
    · rw [if_neg e1] at ha
      have hne : a ≠ k ++ fresh := fun e => by rw [e, hT] at ha; cases ha
      obtain ⟨i, h1, h2, h3⟩ := h.has a c ha
      have hi : i ≠ id := fun e => hid a (by rw [← e]; exact h1)
      exact ⟨i, by rw [old a e1, if_neg hne]; exact h1, by rw [hf i hi]; exact h2, by rw [hf i hi]; exact h3⟩
  · by_cases e1 : a = k
    · rw [if_pos e1] at ha; cases ha
    · rw [if_neg e1] at ha
      rw [old a e1]
      split
      · exact .inl rfl
      · exact h.bare a ha
  · by_cases e1 : a = k
    · rw [e1]; exact hL
    · rw [old a e1] at ha
      split at ha
      · exact absurd rfl ha
      · exact h.isin a ha
/-- A left-over goes. -/
theorem Dirs.gone {files : Nat → File} {f : Dir} {L : List Nm} {T : Nm → Option Nm} (h : Dirs files f L T) (k : Nm) (hT : T k = none) : Dirs files (upd f k none) L T := by
  refine ⟨fun a b i ha hb => ?_, fun a b ha => ?_, fun a ha => ?_, fun a ha => ?_⟩
  · unfold upd at ha hb
    split at ha
    · cases ha
    split at hb
    · cases hb
    exact h.inj a b i ha hb
  · have hne : a ≠ k := fun e => by rw [e, hT] at ha; cases ha
    rw [upd_other _ _ _ _ hne]
    exact h.has a b ha
  · unfold upd
    split
    · exact .inl rfl
    · exact h.bare a ha
  · unfold upd at ha
    split at ha
    · exact absurd rfl ha
    · exact h.isin a ha

/-- A disk that keeps what T tells, all of it durable: at most U bytes are used, no file is longer than M. -/
structure Pt (s : St) (room U : Int) (M : Nat) (L : List Nm) (T : Nm → Option Nm) : Prop where
  on : On s
  since : s.since = []
  dur : s.dur = s.names
  room : s.room = room
  used : s.used ≤ U
  len : ∀ i, (s.files i).bytes.length ≤ M
  dirs : Dirs s.files s.names L T
theorem Pt.new (room : Int) (M : Nat) (L : List Nm) : Pt (St.new room) room 0 M L (fun _ => none) :=
  ⟨⟨rfl, rfl⟩, rfl, rfl, rfl, Int.le_refl _, fun i => by simp [St.new, default, instInhabitedFile.default], ⟨fun k k' i h => (by cases h), fun k b h => (by cases h), fun k _ => .inl rfl, fun k h => absurd rfl h⟩⟩
theorem Pt.v {s : St} {room U : Int} {M : Nat} {L : List Nm} {T : Nm → Option Nm} (h : Pt s room U M L T) : V s room s.used s.calls s.names s.names [] :=
  ⟨h.room, rfl, rfl, rfl, h.dur, h.since, h.on.armed, h.on.down⟩
theorem V.on {s : St} {room used calls : Int} {names dur : Dir} {since : List Mv} (h : V s room used calls names dur since) : On s := ⟨h.armed, h.down⟩


theorem fresh_ne (k : Nm) : k ++ fresh ≠ k := fun e => by have := congrArg List.length e; simp [fresh] at this
/-- What stands behind each call of a Write on a disk with power. -/
structure Steps (s : St) (k b : Nm) (id : Nat) (s1 s2 s3 s4 s5 : St) : Prop where
  e1 : s.create (k ++ fresh) id = (none, s1)
  e2 : s1.append (k ++ fresh) (sealed b) = (none, s2)
  e3 : s2.sync (k ++ fresh) = (none, s3)
  e4 : s3.rename (k ++ fresh) k = (none, s4)
  e5 : s4.syncDir = (none, s5)
  o1 : On s1
  o2 : On s2
  o3 : On s3
  o4 : On s4
  d1 : s1.dur = s.dur ∧ s2.dur = s.dur ∧ s3.dur = s.dur ∧ s4.dur = s.dur
  m1 : s1.since = s.since ++ [⟨[], k ++ fresh, some id⟩] ∧ s2.since = s.since ++ [⟨[], k ++ fresh, some id⟩] ∧ s3.since = s.since ++ [⟨[], k ++ fresh, some id⟩] ∧ s4.since = s.since ++ [⟨[], k ++ fresh, some id⟩] ++ [⟨k ++ fresh, k, some id⟩]
  r1 : s1.room = s.room ∧ s2.room = s.room ∧ s3.room = s.room ∧ s4.room = s.room
  f1 : (∀ i, i ≠ id → s1.files i = s.files i) ∧ (s1.files id).bytes = []
  f2 : (∀ i, i ≠ id → s2.files i = s.files i) ∧ (s2.files id).bytes = sealed b
  f3 : (∀ i, i ≠ id → s3.files i = s.files i) ∧ (s3.files id).bytes = sealed b ∧ (s3.files id).synced = (sealed b).length
  f4 : (∀ i, i ≠ id → s4.files i = s.files i) ∧ (s4.files id).bytes = sealed b ∧ (s4.files id).synced = (sealed b).length
  n1 : s1.names (k ++ fresh) = some id

theorem on_new (k : Nm) (id : Nat) (f : Dir) : (⟨[], k ++ fresh, some id⟩ : Mv).on f = upd f (k ++ fresh) (some id) := on_to _ _ _ (by intro e; have := congrArg List.length e; simp [fresh] at this)
theorem on_moved (k : Nm) (hk : k ≠ []) (id : Nat) (f : Dir) : (⟨k ++ fresh, k, some id⟩ : Mv).on f = upd (upd f (k ++ fresh) none) k (some id) := on_both _ _ _ _ (by intro e; have := congrArg List.length e; simp [fresh] at this) hk

theorem steps {s : St} {room used calls : Int} {f f0 : Dir} {ms : List Mv} (v : V s room used calls f f0 ms) (k b : Nm) (id : Nat) (hv : valid k = true) (hv2 : valid (k ++ fresh) = true) (hn : f (k ++ fresh) = none) (hfit : used + ((b.length : Int) + 4) ≤ room) (hid : ∀ x, f x ≠ some id) :
    ∃ s1 s2 s3 s4 s5, Steps s k b id s1 s2 s3 s4 s5 ∧ V s5 room (match f k with | none => used + ((b.length : Int) + 4) | some o => used + ((b.length : Int) + 4) - ((s.files o).bytes.length : Int)) (calls + 1 + 1 + 1 + 1 + 1) (upd (upd (upd f (k ++ fresh) (some id)) (k ++ fresh) none) k (some id)) (upd (upd (upd (ons ms f0) (k ++ fresh) (some id)) (k ++ fresh) none) k (some id)) [] ∧
      (∀ i, i ≠ id → s5.files i = s.files i) ∧ (s5.files id).bytes = sealed b ∧ (s5.files id).synced = (sealed b).length := by
  have hne := fresh_ne k
  have hl := sealed_len b
  obtain ⟨s1, e1, v1, f1, g1⟩ := v.create (k ++ fresh) id hv2 hn
  have hu : upd f (k ++ fresh) (some id) (k ++ fresh) = some id := upd_same _ _ _
  obtain ⟨s2, e2, v2, f2, g2⟩ := v1.append (k ++ fresh) id (sealed b) hu (by rw [hl]; omega)
  obtain ⟨s3, e3, v3, f3, g3⟩ := v2.sync (k ++ fresh) id hu
  obtain ⟨s4, e4, v4, g4⟩ := v3.rename (k ++ fresh) k id (valid_ne hv2) hv hu
  obtain ⟨s5, e5, v5, g5⟩ := v4.syncDir
  have b1 : (s1.files id).bytes = [] := by rw [f1]
  have b2 : (s2.files id).bytes = sealed b := by rw [f2]; show (s1.files id).bytes ++ _ = _; rw [b1]; rfl
  have b3 : (s3.files id).bytes = sealed b := by rw [f3]; exact b2
  have y3 : (s3.files id).synced = (sealed b).length := by rw [f3]; show (s2.files id).bytes.length = _; rw [b2]
  have o2 : ∀ i, i ≠ id → s2.files i = s.files i := fun i hi => (g2 i hi).trans (g1 i hi)
  have o3 : ∀ i, i ≠ id → s3.files i = s.files i := fun i hi => (g3 i hi).trans (o2 i hi)
  refine ⟨s1, s2, s3, s4, s5, ⟨e1, e2, e3, e4, e5, v1.on, v2.on, v3.on, v4.on, ⟨v1.dur.trans v.dur.symm, v2.dur.trans v.dur.symm, v3.dur.trans v.dur.symm, v4.dur.trans v.dur.symm⟩, ⟨by rw [v1.since, v.since], by rw [v2.since, v.since], by rw [v3.since, v.since], by rw [v4.since, v.since]⟩, ⟨v1.room.trans v.room.symm, v2.room.trans v.room.symm, v3.room.trans v.room.symm, v4.room.trans v.room.symm⟩, ⟨g1, b1⟩, ⟨o2, b2⟩, ⟨o3, b3, y3⟩, ⟨fun i hi => (g4 i).trans (o3 i hi), by rw [g4]; exact b3, by rw [g4]; exact y3⟩, by rw [v1.names]; exact hu⟩, ?_, fun i hi => (g5 i).trans ((g4 i).trans (o3 i hi)), by rw [g5, g4]; exact b3, by rw [g5, g4]; exact y3⟩
  have hd : ons (ms ++ [⟨[], k ++ fresh, some id⟩] ++ [⟨k ++ fresh, k, some id⟩]) f0 = upd (upd (upd (ons ms f0) (k ++ fresh) (some id)) (k ++ fresh) none) k (some id) := by
    rw [ons_snoc, ons_snoc, on_moved _ (valid_ne hv), on_new]
  rw [hd] at v5
  have hw : upd f (k ++ fresh) (some id) k = f k := upd_other _ _ _ _ hne.symm
  rw [hw, hl] at v5
  refine ⟨v5.room, v5.used.trans ?_, v5.calls, v5.names, v5.dur, v5.since, v5.armed, v5.down⟩
  cases hf : f k with
  | none => rfl
  | some o =>
    have ho : o ≠ id := fun e => hid k (by rw [hf, e])
    show (if o = id then _ else _) = _
    rw [if_neg ho, o3 o ho]
    rfl

/-- No more names than a list has. -/
theorem few {α : Type} [DecidableEq α] : ∀ (ks L : List α), ks.Nodup → (∀ k ∈ ks, k ∈ L) → ks.length ≤ L.length
  | [], _, _, _ => Nat.zero_le _
  | k :: ks, L, hn, hs => by
    have hk := hs k List.mem_cons_self
    have h := few ks (L.erase k) (List.nodup_cons.1 hn).2 fun x hx => by
      have hne : x ≠ k := fun e => (List.nodup_cons.1 hn).1 (e ▸ hx)
      exact (List.mem_erase_of_ne hne).2 (hs x (List.mem_cons_of_mem _ hx))
    have hl := List.length_erase_of_mem hk
    have hp : 0 < L.length := List.length_pos_of_mem hk
    rw [List.length_cons]
    omega
/-- What a crash leaves, where whatever it goes back to keeps what T tells. -/
theorem crash_pt {s : St} {room : Int} {M : Nat} {L : List Nm} {T : Nm → Option Nm} (picks : List Int) (ys : List Nat) (hr : s.room = room) (hl : ∀ i, (s.files i).bytes.length ≤ M) (hy : Order (s.settle (pick picks 0 s.since.length)) (s.settle (pick picks 0 s.since.length)).dur ys) (hs : ∀ k ∈ ys, (s.files k).synced ≤ (s.files k).bytes.length)
    (hd : Dirs s.files (ons (s.since.take (pick picks 0 s.since.length)) s.dur) L T) : Pt (s.crash picks ys) room ((M * L.length : Nat) : Int) M L T := by
  obtain ⟨a, b, c, d, e, -, g⟩ := crash_names s picks ys
  have hcf := crash_file s picks ys hy hs
  have hle := keepAll_len picks M ys 1 { (s.settle (pick picks 0 s.since.length)) with names := (s.settle (pick picks 0 s.since.length)).dur, used := 0 } hl hs
  have hys : ys.length ≤ L.length := by
    obtain ⟨xs, ⟨ks, hnd, hk, hm⟩, hp, -⟩ := hy
    have h1 := congrArg List.length hm
    rw [List.length_map, List.length_map] at h1
    rw [hp.length_eq, h1]
    exact few ks L hnd fun k h => hd.isin k ((hk k).1 h)
  have hMul : (M : Int) * (ys.length : Int) ≤ ((M * L.length : Nat) : Int) := by
    have := Nat.mul_le_mul_left M hys
    rw [← Int.natCast_mul]
    omega
  refine ⟨⟨e, d⟩, c, b.trans a.symm, by rw [g, hr], ?_, hle.1, ?_⟩
  · have h2 := hle.2.2
    refine Int.le_trans h2 ?_
    show 0 + _ ≤ _
    omega
  · rw [a]
    refine hd.files2 fun k i hk hf => ?_
    obtain ⟨j, -, -, hj⟩ := hcf k i (by rw [a]; exact hk)
    have hp := pick_le picks j ((s.files i).bytes.length - (s.files i).synced)
    rw [hf, Nat.sub_self] at hp
    rw [hj, hf, Nat.sub_self]
    have h0 : pick picks j 0 = 0 := by omega
    rw [h0, Nat.add_zero]
    exact ⟨List.take_length, rfl⟩

/-- What is kept behind a Write. -/
def put (T : Nm → Option Nm) (k b : Nm) : Nm → Option Nm := fun x => if x = k then some b else T x
def need (T : Nm → Option Nm) (k : Nm) : Int := match T k with | none => 0 | some c => (c.length : Int) + 4

theorem lay_eq {s s1 s2 s3 s4 s5 : St} {k b : Nm} {id : Nat} (h : Steps s k b id s1 s2 s3 s4 s5) (hd : s.drop (k ++ fresh) = (none, s)) : s.write k b id = (none, s5) := by
  have hl : s.lay (k ++ fresh) (sealed b) id = (none, s3) := by
    unfold St.lay
    rw [h.e1]; simp only
    rw [h.e2]; simp only
    rw [h.e3]
  unfold St.write
  rw [hd]; simp only
  rw [hl]; simp only
  rw [h.e4]; simp only
  rw [h.e5]
theorem drop_none {s : St} (k : Nm) (h : On s) (a : Int) (hn : s.names k = none) : (s.arm a).drop k = (none, s.arm a) := by
  unfold St.drop St.find
  show (match (if s.down = true then (some 9, none) else match s.names k with | none => (some 6, none) | some i => (none, some i)) with | (some j, _) => if j = 6 then ((none, s.arm a) : End) else (some j, s.arm a) | (none, _) => (s.arm a).remove k) = _
  rw [h.down, hn]
  rfl
/-- A Write where it is armed for later, or not. -/
theorem write_armed {s s1 s2 s3 s4 s5 : St} {k b : Nm} {id : Nat} (o : On s) (h : Steps s k b id s1 s2 s3 s4 s5) (hn : s.names (k ++ fresh) = none) (a : Int) (ha : a ≤ 0 ∨ 6 ≤ a) : (s.arm a).write k b id = (none, s5.arm (if a ≤ 0 then a else a - 5)) := by
  have ht : ∀ x : Int, x ≤ 0 → tick x = x := fun x hx => by unfold tick; rw [if_neg (by omega)]
  have htp : ∀ x : Int, 0 < x → tick x = x - 1 := fun x hx => by unfold tick; rw [if_pos hx]
  obtain ⟨a1, h1⟩ : ∃ x, x = tick a := ⟨_, rfl⟩
  obtain ⟨a2, h2⟩ : ∃ x, x = tick a1 := ⟨_, rfl⟩
  obtain ⟨a3, h3⟩ : ∃ x, x = tick a2 := ⟨_, rfl⟩
  obtain ⟨a4, h4⟩ : ∃ x, x = tick a3 := ⟨_, rfl⟩
  have key : a ≠ 1 ∧ a1 ≠ 1 ∧ a2 ≠ 1 ∧ a3 ≠ 1 ∧ a4 ≠ 1 ∧ tick a4 = (if a ≤ 0 then a else a - 5) := by
    rcases ha with ha | ha
    · rw [if_pos ha]
      rw [ht a ha] at h1; subst h1
      rw [ht _ ha] at h2; subst h2
      rw [ht _ ha] at h3; subst h3
      rw [ht _ ha] at h4; subst h4
      rw [ht _ ha]; omega
    · rw [if_neg (by omega)]
      rw [htp a (by omega)] at h1
      rw [htp a1 (by omega)] at h2
      rw [htp a2 (by omega)] at h3
      rw [htp a3 (by omega)] at h4
      rw [htp a4 (by omega)]
      omega
  obtain ⟨k0, k1, k2, k3, k4, k5⟩ := key
  have c1 := o.create_arm a k0 (k ++ fresh) id
  rw [h.e1, ← h1] at c1
  have c2 := h.o1.append_arm a1 k1 (k ++ fresh) (sealed b)
  rw [h.e2, ← h2] at c2
  have c3 := h.o2.sync_arm a2 k2 (k ++ fresh)
  rw [h.e3, ← h3] at c3
  have c4 := h.o3.rename_arm a3 k3 (k ++ fresh) k
  rw [h.e4, ← h4] at c4
  have c5 := h.o4.syncDir_arm a4 k4
  rw [h.e5, k5] at c5
  have hl : (s.arm a).lay (k ++ fresh) (sealed b) id = (none, s3.arm a3) := by
    unfold St.lay
    rw [c1]; simp only
    rw [c2]; simp only
    rw [c3]
  unfold St.write
  rw [drop_none _ o a hn]; simp only
  rw [hl]; simp only
  rw [c4]; simp only
  rw [c5]
/-- A disk whose power is gone. -/
def St.off (s : St) : St := { s with armed := 0, down := true }
/-- A Write in which the power goes: at which of the states. -/
theorem write_off {s s1 s2 s3 s4 s5 : St} {k b : Nm} {id : Nat} (o : On s) (h : Steps s k b id s1 s2 s3 s4 s5) (hn : s.names (k ++ fresh) = none) (a : Int) (h1 : 1 ≤ a) (h2 : a ≤ 5) : ∃ t, (s.arm a).write k b id = (some 9, St.off t) ∧ (t = s ∨ t = s1 ∨ t = s2 ∨ t = s3 ∨ t = s4) := by
  have htp : ∀ x : Int, 0 < x → tick x = x - 1 := fun x hx => by unfold tick; rw [if_pos hx]
  have hdr := drop_none _ o a hn
  by_cases ha : a = 1
  · subst ha
    refine ⟨s, ?_, .inl rfl⟩
    have hl : (s.arm 1).lay (k ++ fresh) (sealed b) id = (some 9, St.off s) := by
      unfold St.lay
      rw [(o.off (k ++ fresh) k b id).1]
      rfl
    unfold St.write
    rw [hdr]; simp only
    rw [hl]
  have c1 := o.create_arm a ha (k ++ fresh) id
  rw [h.e1, htp a (by omega)] at c1
  by_cases ha : a = 2
  · subst ha
    refine ⟨s1, ?_, .inr (.inl rfl)⟩
    have hl : (s.arm 2).lay (k ++ fresh) (sealed b) id = (some 9, St.off s1) := by
      unfold St.lay
      rw [c1]; simp only
      rw [show (2 : Int) - 1 = 1 from rfl, (h.o1.off (k ++ fresh) k (sealed b) id).2.1]
      rfl
    unfold St.write
    rw [hdr]; simp only
    rw [hl]
  have c2 := h.o1.append_arm (a - 1) (by omega) (k ++ fresh) (sealed b)
  rw [h.e2, htp (a - 1) (by omega)] at c2
  by_cases ha : a = 3
  · subst ha
    refine ⟨s2, ?_, .inr (.inr (.inl rfl))⟩
    have hl : (s.arm 3).lay (k ++ fresh) (sealed b) id = (some 9, St.off s2) := by
      unfold St.lay
      rw [c1]; simp only
      rw [c2]; simp only
      rw [show (3 : Int) - 1 - 1 = 1 from rfl, (h.o2.off (k ++ fresh) k b id).2.2.1]
      rfl
    unfold St.write
    rw [hdr]; simp only
    rw [hl]
  have c3 := h.o2.sync_arm (a - 1 - 1) (by omega) (k ++ fresh)
  rw [h.e3, htp (a - 1 - 1) (by omega)] at c3
  have hl : (s.arm a).lay (k ++ fresh) (sealed b) id = (none, s3.arm (a - 1 - 1 - 1)) := by
    unfold St.lay
    rw [c1]; simp only
    rw [c2]; simp only
    rw [c3]
  by_cases ha : a = 4
  · subst ha
    refine ⟨s3, ?_, .inr (.inr (.inr (.inl rfl)))⟩
    unfold St.write
    rw [hdr]; simp only
    rw [hl]; simp only
    rw [show (4 : Int) - 1 - 1 - 1 = 1 from rfl, (h.o3.off (k ++ fresh) k b id).2.2.2.1]
    rfl
  · have c4 := h.o3.rename_arm (a - 1 - 1 - 1) (by omega) (k ++ fresh) k
    rw [h.e4, htp (a - 1 - 1 - 1) (by omega)] at c4
    obtain rfl : a = 5 := by omega
    refine ⟨s4, ?_, .inr (.inr (.inr (.inr rfl)))⟩
    unfold St.write
    rw [hdr]; simp only
    rw [hl]; simp only
    rw [c4]; simp only
    rw [show (5 : Int) - 1 - 1 - 1 - 1 = 1 from rfl, (h.o4.off (k ++ fresh) k b id).2.2.2.2]
    rfl
theorem Dirs.final {files files' : Nat → File} {f : Dir} {L : List Nm} {T : Nm → Option Nm} (h : Dirs files f L T) (k b : Nm) (id : Nat) (hid : ∀ x, f x ≠ some id) (hL : k ∈ L) (hf : ∀ i, i ≠ id → files' i = files i) (hb : (files' id).bytes = sealed b) (hs : (files' id).synced = (sealed b).length) (hT : T (k ++ fresh) = none) :
    Dirs files' (upd (upd (upd f (k ++ fresh) (some id)) (k ++ fresh) none) k (some id)) L (put T k b) := h.moved k b id hid hL hf hb hs hT
/-- A Write that goes through: on a disk that keeps what T tells, armed for later or not. -/
theorem Pt.write {s : St} {room U : Int} {M : Nat} {L : List Nm} {T : Nm → Option Nm} (h : Pt s room U M L T) (k b : Nm) (id : Nat) (hv : valid k = true) (hv2 : valid (k ++ fresh) = true) (hn : s.names (k ++ fresh) = none) (hT : T (k ++ fresh) = none) (hk : T k = none → s.names k = none) (hL : k ∈ L) (hfit : s.used + ((b.length : Int) + 4) ≤ room) (hid : ∀ x, s.names x ≠ some id) (hM : b.length + 4 ≤ M) :
    ∃ s1 s2 s3 s4 s5, Steps s k b id s1 s2 s3 s4 s5 ∧ Pt s5 room (U + ((b.length : Int) + 4)) M L (put T k b) ∧ s5.used = s.used + ((b.length : Int) + 4) - need T k ∧ (∀ x, x ≠ k → x ≠ k ++ fresh → s5.names x = s.names x) ∧ s5.names (k ++ fresh) = none ∧ s5.names k = some id := by
  have v := h.v
  obtain ⟨s1, s2, s3, s4, s5, hst, v5, g5, b5, y5⟩ := steps v k b id hv hv2 hn hfit hid
  have hneed : (match s.names k with | none => s.used + ((b.length : Int) + 4) | some o => s.used + ((b.length : Int) + 4) - ((s.files o).bytes.length : Int)) = s.used + ((b.length : Int) + 4) - need T k := by
    unfold need
    cases hTk : T k with
    | none => rw [hk hTk]; simp only; omega
    | some c =>
      obtain ⟨i, h1, h2, -⟩ := h.dirs.has k c hTk
      rw [h1]
      simp only
      rw [h2, sealed_len]
      omega
  rw [hneed] at v5
  have hnn : 0 ≤ need T k := by unfold need; split <;> omega
  refine ⟨s1, s2, s3, s4, s5, hst, ⟨v5.on, v5.since, by rw [v5.dur, v5.names]; rfl, v5.room, by rw [v5.used]; have := h.used; omega, fun i => ?_, ?_⟩, v5.used, fun x h1 h2 => ?_, ?_, ?_⟩
  · by_cases e : i = id
    · rw [e, b5, sealed_len]; exact hM
    · rw [g5 i e]; exact h.len i
  · rw [v5.names]
    exact h.dirs.final k b id hid hL g5 b5 y5 hT
  · rw [v5.names, upd_other _ _ _ _ h1, upd_other _ _ _ _ h2, upd_other _ _ _ _ h2]
  · rw [v5.names, upd_other _ _ _ _ (fresh_ne k), upd_same]
  · rw [v5.names, upd_same]
/-- Behind a crash within a Write: what was there, or what was written. -/
theorem Pt.cut {s s1 s2 s3 s4 s5 : St} {room U : Int} {M : Nat} {L : List Nm} {T : Nm → Option Nm} (h : Pt s room U M L T) (k b : Nm) (id : Nat) (hst : Steps s k b id s1 s2 s3 s4 s5) (hk0 : k ≠ []) (hT : T (k ++ fresh) = none) (hL : k ∈ L) (hL2 : k ++ fresh ∈ L) (hid : ∀ x, s.names x ≠ some id) (hM : b.length + 4 ≤ M)
    (t : St) (ht : t = s ∨ t = s1 ∨ t = s2 ∨ t = s3 ∨ t = s4) (picks : List Int) (ys : List Nat) (hy : Order ((St.off t).settle (pick picks 0 (St.off t).since.length)) ((St.off t).settle (pick picks 0 (St.off t).since.length)).dur ys) (hs : ∀ k ∈ ys, ((St.off t).files k).synced ≤ ((St.off t).files k).bytes.length) :
    Pt ((St.off t).crash picks ys) room ((M * L.length : Nat) : Int) M L T ∨ Pt ((St.off t).crash picks ys) room ((M * L.length : Nat) : Int) M L (put T k b) := by
  have hMl := sealed_len b
  have two : ∀ (f : Dir) (x : Nat), ons (([⟨[], k ++ fresh, some id⟩] : List Mv).take x) f = f ∨ ons (([⟨[], k ++ fresh, some id⟩] : List Mv).take x) f = upd f (k ++ fresh) (some id) := fun f x => by
    cases x with
    | zero => exact .inl rfl
    | succ x => right; rw [List.take_of_length_le (by simp)]; show (⟨[], k ++ fresh, some id⟩ : Mv).on f = _; exact on_new _ _ _
  have len : ∀ t : St, (∀ i, i ≠ id → t.files i = s.files i) → (t.files id).bytes.length ≤ M → ∀ i, ((St.off t).files i).bytes.length ≤ M := fun t h1 h2 i => by
    by_cases e : i = id
    · rw [e]; exact h2
    · show (t.files i).bytes.length ≤ M
      rw [h1 i e]; exact h.len i
  have half : ∀ t : St, (∀ i, i ≠ id → t.files i = s.files i) → t.since = s.since ++ [⟨[], k ++ fresh, some id⟩] → t.dur = s.dur → Dirs (St.off t).files (ons ((St.off t).since.take (pick picks 0 (St.off t).since.length)) (St.off t).dur) L T := fun t h1 h2 h3 => by
    show Dirs t.files (ons (t.since.take (pick picks 0 t.since.length)) t.dur) L T
    rw [h2, h3, h.since, List.nil_append, h.dur]
    rcases two s.names (pick picks 0 ([⟨[], k ++ fresh, some id⟩] : List Mv).length) with e | e <;> rw [e]
    · exact h.dirs.files fun x i hx => h1 i fun e => hid x (by rw [← e]; exact hx)
    · exact h.dirs.new k id hid hL2 hT h1
  rcases ht with rfl | rfl | rfl | rfl | rfl
  · left
    refine crash_pt picks ys h.room h.len hy hs ?_
    show Dirs t.files (ons (t.since.take _) t.dur) L T
    rw [h.since, h.dur, List.take_nil]
    exact h.dirs
  · left
    exact crash_pt picks ys (hst.r1.1.trans h.room) (len t hst.f1.1 (by rw [hst.f1.2]; exact Nat.zero_le _)) hy hs (half t hst.f1.1 hst.m1.1 hst.d1.1)
  · left
    exact crash_pt picks ys (hst.r1.2.1.trans h.room) (len t hst.f2.1 (by rw [hst.f2.2, hMl]; exact hM)) hy hs (half t hst.f2.1 hst.m1.2.1 hst.d1.2.1)
  · left
    exact crash_pt picks ys (hst.r1.2.2.1.trans h.room) (len t hst.f3.1 (by rw [hst.f3.2.1, hMl]; exact hM)) hy hs (half t hst.f3.1 hst.m1.2.2.1 hst.d1.2.2.1)
  · have hlen := len t hst.f4.1 (by rw [hst.f4.2.1, hMl]; exact hM)
    have hr := hst.r1.2.2.2.trans h.room
    obtain ⟨m, hm⟩ : ∃ m, m = pick picks 0 (St.off t).since.length := ⟨_, rfl⟩
    have hsin : (St.off t).since = [⟨[], k ++ fresh, some id⟩, ⟨k ++ fresh, k, some id⟩] := by
      show t.since = _
      rw [hst.m1.2.2.2, h.since]; rfl
    have hdur : (St.off t).dur = s.names := hst.d1.2.2.2.trans h.dur
    have hml : m ≤ 2 := by rw [hm]; have := pick_le picks 0 (St.off t).since.length; rw [hsin] at this ⊢; exact this
    have goal : ∀ T', Dirs t.files (ons (([⟨[], k ++ fresh, some id⟩, ⟨k ++ fresh, k, some id⟩] : List Mv).take m) s.names) L T' → Pt ((St.off t).crash picks ys) room ((M * L.length : Nat) : Int) M L T' := fun T' hd => by
      refine crash_pt picks ys hr hlen hy hs ?_
      rw [← hm, hsin, hdur]
      exact hd
    match m, hml with
    | 0, _ => exact .inl (goal T (h.dirs.files fun x i hx => hst.f4.1 i fun e => hid x (by rw [← e]; exact hx)))
    | 1, _ =>
      refine .inl (goal T ?_)
      show Dirs t.files ((⟨[], k ++ fresh, some id⟩ : Mv).on s.names) L T
      rw [on_new]
      exact h.dirs.new k id hid hL2 hT hst.f4.1
    | 2, _ =>
      refine .inr (goal _ ?_)
      show Dirs t.files ((⟨k ++ fresh, k, some id⟩ : Mv).on ((⟨[], k ++ fresh, some id⟩ : Mv).on s.names)) L _
      rw [on_new, on_moved _ hk0]
      exact h.dirs.final k b id hid hL hst.f4.1 hst.f4.2.1 hst.f4.2.2 hT
/-- A crash where nothing was under way. -/
theorem Pt.crash {s : St} {room U : Int} {M : Nat} {L : List Nm} {T : Nm → Option Nm} (h : Pt s room U M L T) (a : Int) (picks : List Int) (ys : List Nat) (hy : Order ((s.arm a).settle (pick picks 0 (s.arm a).since.length)) ((s.arm a).settle (pick picks 0 (s.arm a).since.length)).dur ys) (hs : ∀ k ∈ ys, ((s.arm a).files k).synced ≤ ((s.arm a).files k).bytes.length) :
    Pt ((s.arm a).crash picks ys) room ((M * L.length : Nat) : Int) M L T := by
  refine crash_pt (s := s.arm a) picks ys h.room h.len hy hs ?_
  show Dirs s.files (ons (s.since.take _) s.dur) L T
  rw [h.since, h.dur, List.take_nil]
  exact h.dirs

/-- A Write on a disk with power, where a left-over may be. -/
theorem Pt.again {s : St} {room U : Int} {M : Nat} {L : List Nm} {T : Nm → Option Nm} (h : Pt s room U M L T) (k b : Nm) (id : Nat) (hv : valid k = true) (hv2 : valid (k ++ fresh) = true) (hT : T (k ++ fresh) = none) (hk : T k = none → s.names k = none) (hL : k ∈ L) (hfit : U + ((b.length : Int) + 4) ≤ room) (hid : ∀ x, s.names x ≠ some id) (hM : b.length + 4 ≤ M) :
    ∃ s5, s.write k b id = (none, s5) ∧ Pt s5 room (U + ((b.length : Int) + 4)) M L (put T k b) ∧ s5.names (k ++ fresh) = none := by
  have hu := h.used
  cases hn : s.names (k ++ fresh) with
  | none =>
    obtain ⟨s1, s2, s3, s4, s5, hst, hp, -, -, hn5, -⟩ := h.write k b id hv hv2 hn hT hk hL (by omega) hid hM
    refine ⟨s5, lay_eq hst ?_, hp, hn5⟩
    unfold St.drop
    rw [h.v.find_none _ hn]
    rfl
  | some o =>
    have v := h.v
    obtain ⟨s0, e0, v0, g0⟩ := v.remove (k ++ fresh) o (valid_ne hv2) hn
    have hdrop : s.drop (k ++ fresh) = (none, s0) := by
      unfold St.drop
      rw [v.find _ o hn]
      exact e0
    have hid0 : ∀ x, upd s.names (k ++ fresh) none x ≠ some id := fun x e => by
      unfold upd at e
      split at e
      · cases e
      · exact hid x e
    have hup : upd s.names (k ++ fresh) none (k ++ fresh) = none := upd_same _ _ _
    obtain ⟨s1, s2, s3, s4, s5, hst, v5, g5, b5, y5⟩ := steps v0 k b id hv hv2 hup (by omega) hid0
    have hon : ons ([] ++ [(⟨k ++ fresh, [], none⟩ : Mv)]) s.names = upd s.names (k ++ fresh) none := on_from _ _ _ (valid_ne hv2)
    rw [hon] at v5
    refine ⟨s5, ?_, ⟨v5.on, v5.since, by rw [v5.dur, v5.names], v5.room, ?_, fun i => ?_, ?_⟩, by rw [v5.names, upd_other _ _ _ _ (fresh_ne k), upd_same]⟩
    · have hl : s0.lay (k ++ fresh) (sealed b) id = (none, s3) := by
        unfold St.lay
        rw [hst.e1]; simp only
        rw [hst.e2]; simp only
        rw [hst.e3]
      unfold St.write
      rw [hdrop]; simp only
      rw [hl]; simp only
      rw [hst.e4]; simp only
      rw [hst.e5]
    · rw [v5.used]
      split <;> omega
    · by_cases e : i = id
      · rw [e, b5, sealed_len]; exact hM
      · rw [g5 i e, g0 i]; exact h.len i
    · rw [v5.names]
      have hd : Dirs s0.files (upd s.names (k ++ fresh) none) L T := (h.dirs.gone (k ++ fresh) hT).files fun x i _ => g0 i
      exact hd.final k b id hid0 hL g5 b5 y5 hT
/-- What is read of a name. -/
structure Kp (s : St) (k b : Nm) : Prop where
  find : ∃ i, s.find k = (none, some i)
  len : s.lenOf k = ((b.length + 4 : Nat) : Int)
  read : s.readOf k 0 ((b.length + 4 : Nat) : Int) = (none, sealed b)
theorem kept_of {s : St} {room used calls : Int} {names dur : Dir} {since : List Mv} (v : V s room used calls names dur since) (k b : Nm) (i : Nat) (hn : names k = some i) (hb : (s.files i).bytes = sealed b) : Kp s k b :=
  ⟨⟨i, v.find k i hn⟩, by rw [(v.len k i hn).1, hb, sealed_len], by rw [v.read k i _ hn (by rw [hb, sealed_len]; exact Nat.le_refl _), hb, ← sealed_len, List.take_length]⟩
theorem Pt.kept {s : St} {room U : Int} {M : Nat} {L : List Nm} {T : Nm → Option Nm} (h : Pt s room U M L T) (k b : Nm) (hT : T k = some b) : Kp s k b := by
  obtain ⟨i, h1, h2, -⟩ := h.dirs.has k b hT
  exact kept_of h.v k b i h1 h2
theorem Pt.kept_arm {s : St} {room U : Int} {M : Nat} {L : List Nm} {T : Nm → Option Nm} (h : Pt s room U M L T) (a : Int) (k b : Nm) (hT : T k = some b) : Kp (s.arm a) k b := by
  obtain ⟨h1, h2, h3⟩ := h.kept k b hT
  exact ⟨h1, h2, h3⟩
theorem Pt.lacks {s : St} {room U : Int} {M : Nat} {L : List Nm} {T : Nm → Option Nm} (h : Pt s room U M L T) (k : Nm) (hT : T k = none) (hk : ∀ k', k ≠ k' ++ fresh) : s.names k = none ∧ s.find k = (some 6, none) := by
  have hn : s.names k = none := by
    rcases h.dirs.bare k hT with h | ⟨k', h⟩
    · exact h
    · exact absurd h (hk k')
  exact ⟨hn, h.v.find_none k hn⟩
theorem short_ne (c : UInt8) (k' : Nm) : [c] ≠ k' ++ fresh := fun e => by have := congrArg List.length e; simp [fresh] at this
theorem arm0 {s : St} (h : On s) : s.arm 0 = s := by
  have ha := h.armed
  cases s
  simp only at ha
  subst ha
  rfl
/-- A Write that is armed, whether it goes through or the power goes, and the crash behind it. -/
theorem Pt.armed {s : St} {room U : Int} {M : Nat} {L : List Nm} {T : Nm → Option Nm} (h : Pt s room U M L T) (k b : Nm) (id : Nat) (hv : valid k = true) (hv2 : valid (k ++ fresh) = true) (hn : s.names (k ++ fresh) = none) (hT : T (k ++ fresh) = none) (hk : T k = none → s.names k = none) (hL : k ∈ L) (hL2 : k ++ fresh ∈ L) (hfit : U + ((b.length : Int) + 4) ≤ room) (hid : ∀ x, s.names x ≠ some id) (hM : b.length + 4 ≤ M) (a : Int) (ha : 0 ≤ a) :
    ((a = 0 ∨ 6 ≤ a) ∧ ∃ s5, (s.arm a).write k b id = (none, s5.arm (if a = 0 then 0 else a - 5)) ∧ Pt s5 room (U + ((b.length : Int) + 4)) M L (put T k b) ∧ s5.names (k ++ fresh) = none ∧ (∀ x, x ≠ k → x ≠ k ++ fresh → s5.names x = s.names x) ∧ (s5.arm (if a = 0 then 0 else a - 5)).down = false) ∨
    ((1 ≤ a ∧ a ≤ 5) ∧ ∃ t, (s.arm a).write k b id = (some 9, t) ∧ t.down = true ∧ ∀ picks ys, Order (t.settle (pick picks 0 t.since.length)) (t.settle (pick picks 0 t.since.length)).dur ys → (∀ k ∈ ys, (t.files k).synced ≤ (t.files k).bytes.length) →
      Pt (t.crash picks ys) room ((M * L.length : Nat) : Int) M L T ∨ Pt (t.crash picks ys) room ((M * L.length : Nat) : Int) M L (put T k b)) := by
  have hu := h.used
  obtain ⟨s1, s2, s3, s4, s5, hst, hp, -, ho, hn5, -⟩ := h.write k b id hv hv2 hn hT hk hL (by omega) hid hM
  by_cases h5 : 1 ≤ a ∧ a ≤ 5
  · right
    obtain ⟨t, e, ht⟩ := write_off h.on hst hn a h5.1 h5.2
    exact ⟨h5, St.off t, e, rfl, fun picks ys hy hs => h.cut k b id hst (valid_ne hv) hT hL hL2 hid hM t ht picks ys hy hs⟩
  · left
    refine ⟨by omega, s5, ?_, hp, hn5, ho, hp.on.down⟩
    rw [write_armed h.on hst hn a (by omega)]
    congr 2
    by_cases h0 : a = 0
    · rw [if_pos h0, if_pos (by omega), h0]
    · rw [if_neg h0, if_neg (by omega)]

abbrev pp : Nm := [112]
/-- PointKeeps: the states. -/
theorem point_keeps (a b : Nm) (ha : a.length ≤ 200) (hb : b.length ≤ 200) (id1 : Nat) : ∃ sA, (St.new 2000).write pp a id1 = (none, sA) ∧ Kp sA pp a ∧
    ∀ (c : Int), 0 ≤ c → ∀ id2, (∀ x, sA.names x ≠ some id2) → ∃ r sB, (sA.arm c).write pp b id2 = (r, sB) ∧ ((r = none ∧ sB.down = false) ∨ (r = some 9 ∧ sB.down = true)) ∧
      ∀ picks ys, Order (sB.settle (pick picks 0 sB.since.length)) (sB.settle (pick picks 0 sB.since.length)).dur ys → (∀ k ∈ ys, (sB.files k).synced ≤ (sB.files k).bytes.length) →
        ∃ x, (x = a ∨ x = b) ∧ (r = none → x = b) ∧ Kp (sB.crash picks ys) pp x ∧ ∀ id3, (∀ y, (sB.crash picks ys).names y ≠ some id3) → ∃ sC, (sB.crash picks ys).write pp a id3 = (none, sC) ∧ Kp sC pp a := by
  have hv : valid pp = true := by decide
  have hv2 : valid (pp ++ fresh) = true := by decide
  have h0 := Pt.new 2000 204 [pp, pp ++ fresh]
  obtain ⟨sA, e1, hA, nA⟩ := h0.again pp a id1 hv hv2 rfl (fun _ => rfl) (by simp) (by omega) (fun x hx => by cases hx) (by omega)
  have hTA : put (fun _ => none) pp a (pp ++ fresh) = none := rfl
  have hTp : put (fun _ => none) pp a pp = some a := rfl
  refine ⟨sA, e1, hA.kept pp a hTp, fun c hc id2 hid2 => ?_⟩
  have hLL : ((204 * [pp, pp ++ fresh].length : Nat) : Int) = 408 := rfl
  have fin : ∀ (t : St) (U : Int) (x : Nm) (T : Nm → Option Nm), Pt t 2000 U 204 [pp, pp ++ fresh] T → U ≤ 408 → T pp = some x → T (pp ++ fresh) = none → Kp t pp x ∧ ∀ id3, (∀ y, t.names y ≠ some id3) → ∃ sC, t.write pp a id3 = (none, sC) ∧ Kp sC pp a := fun t U x T ht hU hx hf => by
    refine ⟨ht.kept pp x hx, fun id3 hid3 => ?_⟩
    obtain ⟨sC, e3, hC, -⟩ := ht.again pp a id3 hv hv2 hf (fun h => by rw [hx] at h; cases h) (by simp) (by omega) hid3 (by omega)
    exact ⟨sC, e3, hC.kept pp a (by simp [put])⟩
  have hTB : put (put (fun _ => none) pp a) pp b (pp ++ fresh) = none := rfl
  have hTb : put (put (fun _ => none) pp a) pp b pp = some b := rfl
  rcases hA.armed pp b id2 hv hv2 nA hTA (fun h => by rw [hTp] at h; cases h) (by simp) (by simp) (by omega) hid2 (by omega) c hc with ⟨-, s5, e5, h5, -, -, d5⟩ | ⟨-, t, et, dt, ht⟩
  · refine ⟨none, _, e5, .inl ⟨rfl, d5⟩, fun picks ys hy hs => ⟨b, .inr rfl, fun _ => rfl, ?_⟩⟩
    exact fin _ _ b _ (h5.crash _ picks ys hy hs) (by omega) hTb hTB
  · refine ⟨some 9, t, et, .inr ⟨rfl, dt⟩, fun picks ys hy hs => ?_⟩
    rcases ht picks ys hy hs with h | h
    · exact ⟨a, .inl rfl, fun e => (by cases e), fin _ _ a _ h (by omega) hTp hTA⟩
    · exact ⟨b, .inr rfl, fun e => (by cases e), fin _ _ b _ h (by omega) hTb hTB⟩
abbrev qq : Nm := [113]
/-- PointFirst: the states. -/
theorem point_first (b : Nm) (hb : b.length ≤ 200) : (St.new 1000).find qq = (some 6, none) ∧ ∀ (c : Int), 0 ≤ c → ∀ id, ∃ r sB, ((St.new 1000).arm c).write qq b id = (r, sB) ∧ (r = none ∨ r = some 9) ∧
      ∀ picks ys, Order (sB.settle (pick picks 0 sB.since.length)) (sB.settle (pick picks 0 sB.since.length)).dur ys → (∀ k ∈ ys, (sB.files k).synced ≤ (sB.files k).bytes.length) →
        Kp (sB.crash picks ys) qq b ∨ (r = some 9 ∧ (sB.crash picks ys).find qq = (some 6, none)) := by
  have hv : valid qq = true := by decide
  have hv2 : valid (qq ++ fresh) = true := by decide
  have h0 := Pt.new 1000 204 [qq, qq ++ fresh]
  refine ⟨rfl, fun c hc id => ?_⟩
  rcases h0.armed qq b id hv hv2 rfl rfl (fun _ => rfl) (by simp) (by simp) (by omega) (fun x hx => by cases hx) (by omega) c hc with ⟨-, s5, e5, h5, -, -, -⟩ | ⟨-, t, et, -, ht⟩
  · refine ⟨none, _, e5, .inl rfl, fun picks ys hy hs => .inl ?_⟩
    exact (h5.crash _ picks ys hy hs).kept qq b (by simp [put])
  · refine ⟨some 9, t, et, .inr rfl, fun picks ys hy hs => ?_⟩
    rcases ht picks ys hy hs with h | h
    · exact .inr ⟨rfl, (h.lacks qq rfl (short_ne _)).2⟩
    · exact .inl (h.kept qq b (by simp [put]))
/-- PointFull: the states. -/
theorem point_full (a b : Nm) (room : Int) (ha : (a.length : Int) + 4 ≤ room) (id1 : Nat) : ∃ sA, (St.new room).write pp a id1 = (none, sA) ∧ ∀ id2, (∀ x, sA.names x ≠ some id2) → ∃ r sB, sA.write pp b id2 = (r, sB) ∧
    ((r = none ∧ (a.length : Int) + (b.length : Int) + 8 ≤ room ∧ Kp sB pp b ∧ sB.used = (b.length : Int) + 4) ∨ (r = some 8 ∧ room < (a.length : Int) + (b.length : Int) + 8 ∧ Kp sB pp a)) := by
  have hv : valid pp = true := by decide
  have hv2 : valid (pp ++ fresh) = true := by decide
  have h0 := Pt.new room (max (a.length + 4) (b.length + 4)) [pp, pp ++ fresh]
  obtain ⟨s1, s2, s3, s4, sA, hst, hA, uA, -, nA, iA⟩ := h0.write pp a id1 hv hv2 rfl rfl (fun _ => rfl) (by simp) (by show (0 : Int) + _ ≤ _; omega) (fun x hx => by cases hx) (by omega)
  have eA : (St.new room).write pp a id1 = (none, sA) := lay_eq hst (by rfl)
  have hTA : put (fun _ => none) pp a (pp ++ fresh) = none := rfl
  have hTp : put (fun _ => none) pp a pp = some a := rfl
  have hu : sA.used = (a.length : Int) + 4 := by rw [uA]; show (0 : Int) + _ - 0 = _; omega
  refine ⟨sA, eA, fun id2 hid2 => ?_⟩
  have hdrop : sA.drop (pp ++ fresh) = (none, sA) := by unfold St.drop; rw [hA.v.find_none _ nA]; rfl
  by_cases hf : (a.length : Int) + (b.length : Int) + 8 ≤ room
  · obtain ⟨t1, t2, t3, t4, sB, hst2, hB, uB, -, -, -⟩ := hA.write pp b id2 hv hv2 nA hTA (fun h => by rw [hTp] at h; cases h) (by simp) (by rw [hu]; omega) hid2 (by omega)
    refine ⟨none, sB, lay_eq hst2 hdrop, .inl ⟨rfl, hf, hB.kept pp b (by simp [put]), ?_⟩⟩
    rw [uB, hu]
    unfold need
    rw [hTp]
    simp only
    omega
  · obtain ⟨t1, e1, v1, f1, g1⟩ := hA.v.create (pp ++ fresh) id2 hv2 nA
    have hup : upd sA.names (pp ++ fresh) (some id2) (pp ++ fresh) = some id2 := upd_same _ _ _
    have e2 := v1.append_full (pp ++ fresh) id2 (sealed b) hup (by rw [sealed_len, hu]; omega)
    refine ⟨some 8, t1, ?_, .inr ⟨rfl, by omega, ?_⟩⟩
    · have hl : sA.lay (pp ++ fresh) (sealed b) id2 = (some 8, t1) := by
        unfold St.lay
        rw [e1]; simp only
        rw [e2]
      unfold St.write
      rw [hdrop]; simp only
      rw [hl]
    · obtain ⟨i, h1, h2, -⟩ := hA.dirs.has pp a hTp
      refine kept_of v1 pp a i ?_ ?_
      · rw [upd_other _ _ _ _ (fresh_ne pp).symm]; exact h1
      · rw [g1 i (fun e => hid2 pp (by rw [h1, e]))]; exact h2
/-- PointNames: the states. -/
theorem point_names (nm b : Nm) (hv : valid nm = true) (hv2 : valid (nm ++ fresh) = true) (hb : b.length ≤ 100) (id : Nat) : ∃ sA, (St.new 1000).write nm b id = (none, sA) ∧ (∀ x, x = nm ↔ sA.names x ≠ none) ∧ Kp sA nm b ∧ ∃ s1, sA.cut nm 0 = (none, s1) ∧
    ∀ all : Nm, all.length = b.length + 4 → ∃ s2, s1.append nm all = (none, s2) ∧ (∃ i, s2.find nm = (none, some i)) ∧ s2.lenOf nm = ((b.length + 4 : Nat) : Int) ∧ s2.readOf nm 0 ((b.length + 4 : Nat) : Int) = (none, all) := by
  have h0 := Pt.new 1000 104 [nm, nm ++ fresh]
  obtain ⟨s1, s2, s3, s4, sA, hst, hA, uA, -, nA, iA⟩ := h0.write nm b id hv hv2 rfl rfl (fun _ => rfl) (by simp) (by show (0 : Int) + _ ≤ _; omega) (fun x hx => by cases hx) (by omega)
  have eA : (St.new 1000).write nm b id = (none, sA) := lay_eq hst (by rfl)
  have hTp : put (fun _ => none) nm b nm = some b := by simp [put]
  have hu : sA.used = (b.length : Int) + 4 := by rw [uA]; show (0 : Int) + _ - 0 = _; omega
  obtain ⟨i, h1, h2, -⟩ := hA.dirs.has nm b hTp
  have hlen : (sA.files i).bytes.length = b.length + 4 := by rw [h2, sealed_len]
  obtain ⟨c1, e1, v1, f1, -⟩ := hA.v.cut nm i 0 h1 (Nat.zero_le _)
  refine ⟨sA, eA, fun x => ⟨fun e => by rw [e, h1]; simp, fun hx => ?_⟩, hA.kept nm b hTp, c1, e1, fun all hall => ?_⟩
  · have hin := hA.dirs.isin x hx
    simp only [List.mem_cons, List.not_mem_nil, or_false] at hin
    rcases hin with e | e
    · exact e
    · rw [e] at hx; exact absurd nA hx
  · obtain ⟨c2, e2, v2, f2, -⟩ := v1.append nm i all h1 (by rw [hlen, hu]; omega)
    have hby : (c2.files i).bytes = all := by rw [f2, f1]; simp [File.keep]
    refine ⟨c2, e2, ⟨i, v2.find nm i h1⟩, by rw [(v2.len nm i h1).1, hby, hall], ?_⟩
    rw [v2.read nm i _ h1 (by rw [hby, hall]; exact Nat.le_refl _), hby, ← hall, List.take_length]

/-- PointMany: the names. -/
def mn (k : Nat) : Nm := [UInt8.ofNat (97 + k)]
theorem mn_valid : ∀ k, k < 4 → valid (mn k) = true ∧ valid (mn k ++ fresh) = true := by decide
theorem mn_inj : ∀ i, i < 4 → ∀ j, j < 4 → mn i = mn j → i = j := by decide
def mL : List Nm := [mn 0, mn 1, mn 2, mn 3, mn 0 ++ fresh, mn 1 ++ fresh, mn 2 ++ fresh, mn 3 ++ fresh]
theorem mn_in : ∀ k, k < 4 → mn k ∈ mL ∧ mn k ++ fresh ∈ mL := by decide
/-- What the names have: T by number. -/
def mT (H : Nat → Option Nm) : Nm → Option Nm := fun x => if x = mn 0 then H 0 else if x = mn 1 then H 1 else if x = mn 2 then H 2 else if x = mn 3 then H 3 else none
theorem mT_at (H : Nat → Option Nm) : ∀ k, k < 4 → mT H (mn k) = H k
  | 0, _ => rfl
  | 1, _ => rfl
  | 2, _ => rfl
  | 3, _ => rfl
theorem mT_fresh (H : Nat → Option Nm) : ∀ k, k < 4 → mT H (mn k ++ fresh) = none
  | 0, _ => rfl
  | 1, _ => rfl
  | 2, _ => rfl
  | 3, _ => rfl
theorem mT_put (H : Nat → Option Nm) (b : Nm) : ∀ k, k < 4 → put (mT H) (mn k) b = mT (fun j => if j = k then some b else H j) := by
  intro k hk
  funext x
  unfold put mT
  match k, hk with
  | 0, _ => by_cases h : x = mn 0 <;> simp [h]
  | 1, _ =>
    by_cases h : x = mn 1
    · subst h; simp [mn]
    · simp [h]
  | 2, _ =>
    by_cases h : x = mn 2
    · subst h; simp [mn]
    · simp [h]
  | 3, _ =>
    by_cases h : x = mn 3
    · subst h; simp [mn]
    · simp [h]
/-- The disk behind i Writes of PointMany, none of which the power went in. -/
structure Many (s : St) (i : Nat) (c : Int) (H : Nat → Option Nm) : Prop where
  ex : ∃ t, s = t.arm c ∧ Pt t 65536 (64 * (i : Int)) 64 mL (mT H) ∧ ∀ k, k < 4 → t.names (mn k ++ fresh) = none
  c0 : 0 ≤ c
/-- What the names are behind the crash. -/
def Ends (t : St) (H : Nat → Option Nm) : Prop := ∀ k, k < 4 → (∀ b, H k = some b → Kp t (mn k) b) ∧ (H k = none → t.find (mn k) = (some 6, none))
theorem ends_of {t : St} {U : Int} {H : Nat → Option Nm} (h : Pt t 65536 U 64 mL (mT H)) : Ends t H := fun k hk =>
  ⟨fun b hb => h.kept (mn k) b (by rw [mT_at H k hk]; exact hb), fun hb => (h.lacks (mn k) (by rw [mT_at H k hk]; exact hb) (short_ne _)).2⟩
theorem Many.new (c : Int) (hc : 0 ≤ c) : Many ((St.new 65536).arm c) 0 c (fun _ => none) :=
  ⟨⟨_, rfl, by have h := Pt.new 65536 64 mL; have e : mT (fun _ => none) = fun _ => none := (by funext x; unfold mT; simp); rw [e]; exact h, fun _ _ => rfl⟩, hc⟩
theorem Many.down {s : St} {i : Nat} {c : Int} {H : Nat → Option Nm} (h : Many s i c H) : s.down = false := by
  obtain ⟨t, rfl, ht, -⟩ := h.ex
  exact ht.on.down
theorem Many.step {s : St} {i : Nat} {c : Int} {H : Nat → Option Nm} (h : Many s i c H) (hi : i < 12) (k : Nat) (hk : k < 4) (b : Nm) (hb : b.length ≤ 60) (id : Nat) (hid : ∀ x, s.names x ≠ some id) :
    (∃ s' c', s.write (mn k) b id = (none, s') ∧ Many s' (i + 1) c' (fun j => if j = k then some b else H j)) ∨
    (∃ s', s.write (mn k) b id = (some 9, s') ∧ s'.down = true ∧ ∀ picks ys, Order (s'.settle (pick picks 0 s'.since.length)) (s'.settle (pick picks 0 s'.since.length)).dur ys → (∀ k ∈ ys, (s'.files k).synced ≤ (s'.files k).bytes.length) →
      Ends (s'.crash picks ys) H ∨ Ends (s'.crash picks ys) (fun j => if j = k then some b else H j)) := by
  obtain ⟨⟨t, rfl, ht, hl⟩, c0⟩ := h
  have hv := mn_valid k hk
  have hin := mn_in k hk
  rcases ht.armed (mn k) b id hv.1 hv.2 (hl k hk) (mT_fresh H k hk) (fun e => (ht.lacks (mn k) e (short_ne _)).1) hin.1 hin.2 (by omega) hid (by omega) c c0 with ⟨hc, s5, e5, h5, n5, o5, -⟩ | ⟨-, t', et, dt, hcr⟩
  · left
    refine ⟨_, _, e5, ⟨s5, rfl, ?_, fun j hj => ?_⟩, by split <;> omega⟩
    · rw [← mT_put H b k hk]
      exact ⟨h5.on, h5.since, h5.dur, h5.room, by have := h5.used; push_cast; omega, h5.len, h5.dirs⟩
    · by_cases e : j = k
      · rw [e]; exact n5
      · rw [o5 _ (fun e2 => by have := congrArg List.length e2; simp [fresh, mn] at this) (fun e2 => e (mn_inj j hj k hk (List.append_cancel_right e2)))]
        exact hl j hj
  · right
    refine ⟨t', et, dt, fun picks ys hy hs => ?_⟩
    rcases hcr picks ys hy hs with h | h
    · exact .inl (ends_of h)
    · rw [mT_put H b k hk] at h
      exact .inr (ends_of h)
theorem Many.crash {s : St} {i : Nat} {c : Int} {H : Nat → Option Nm} (h : Many s i c H) (picks : List Int) (ys : List Nat) (hy : Order (s.settle (pick picks 0 s.since.length)) (s.settle (pick picks 0 s.since.length)).dur ys) (hs : ∀ k ∈ ys, (s.files k).synced ≤ (s.files k).bytes.length) : Ends (s.crash picks ys) H := by
  obtain ⟨⟨t, rfl, ht, -⟩, -⟩ := h
  exact ends_of (ht.crash c picks ys hy hs)
end Go.Proofs.YtfjanenooembkaaDoor.Dk
