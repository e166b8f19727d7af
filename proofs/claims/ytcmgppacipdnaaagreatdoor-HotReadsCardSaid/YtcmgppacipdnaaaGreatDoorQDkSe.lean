/-
  A disk under a walk: all its blocks are new since the walk began, its numbers are small; each call, so.
  A disk under a walk, by the set of its own blocks: what others own stays.
  A disk under a walk, by the set of its own blocks: the calls that a segment stands on.
-/
import Derived.Test.YtcmgppacipdnaaaGreatDoorQDkL
namespace Go.Proofs.YtcmgppacipdnaaaGreatDoor.Dk

/-- Numbers of a disk that has been told at most n things, of at most a thousand bytes each. -/
structure Small (s : St) (n : Nat) : Prop where
  armed : -9223372036854775808 ≤ s.armed ∧ s.armed ≤ 9223372036854775807
  calls : 0 ≤ s.calls ∧ s.calls ≤ n
  used : -(1000000000 * (n : Int)) ≤ s.used ∧ s.used ≤ 1000000000 * (n : Int)
  room : 0 ≤ s.room ∧ s.room ≤ 4194304
  file : ∀ i, (s.files i).bytes.length ≤ 1000 * n
theorem Small.fit {s : St} {n : Nat} (h : Small s n) (hn : n ≤ 1000) : Fit s :=
  ⟨h.armed, by have := h.calls; omega, by have := h.used; omega, by have := h.room; omega, fun i => by have := h.file i; omega⟩
theorem Small.mono {s : St} {n m : Nat} (h : Small s n) (hm : n ≤ m) : Small s m :=
  ⟨h.armed, by have := h.calls; omega, by have := h.used; omega, h.room, fun i => by have := h.file i; have := Nat.mul_le_mul_left 1000 hm; omega⟩
theorem Small.new (room : Int) (h1 : 1 ≤ room) (h2 : room ≤ 4194304) : Small (St.new room) 0 :=
  ⟨by simp [St.new], by simp [St.new], by simp [St.new], by simp only [St.new]; omega, fun i => by simp [St.new, default, instInhabitedFile.default]⟩
theorem Small.begin {s : St} {n : Nat} (h : Small s n) : Small s.begin n := by
  unfold St.begin
  split
  · exact ⟨by have := h.armed; show _ ≤ s.armed - 1 ∧ s.armed - 1 ≤ _; omega, h.calls, h.used, h.room, h.file⟩
  · exact h
theorem Small.setFile {s : St} {n : Nat} (h : Small s n) (i : Nat) (f : File) (hf : f.bytes.length ≤ 1000 * n) : Small (s.setFile i f) n :=
  ⟨h.armed, h.calls, h.used, h.room, fun k => by
    by_cases e : k = i
    · subst e; rw [setFile_same]; exact hf
    · rw [setFile_other _ _ _ _ e]; exact h.file k⟩
/-- Told one thing more. -/
theorem Small.more {s t : St} {n : Nat} (h : Small s n) (ha : t.armed = s.armed) (hc : t.calls = s.calls + 1) (hr : t.room = s.room) (hf : ∀ i, (t.files i).bytes.length ≤ 1000 * n + 1000)
    (hu : s.used - 1000 * n ≤ t.used ∧ t.used ≤ s.used + 1000) (hn : n ≤ 1000) : Small t (n + 1) := by
  have h1 := h.calls
  have h2 := h.used
  exact ⟨by rw [ha]; exact h.armed, by rw [hc]; omega, by omega, by rw [hr]; exact h.room, fun i => by have := hf i; omega⟩
theorem Small.create {s : St} {n : Nat} (h : Small s n) (hn : n ≤ 1000) (k : Nm) (i : Nat) : Small (s.create k i).2 (n + 1) := by
  have hb := h.begin
  unfold St.create
  split
  · exact hb.mono (by omega)
  split
  · exact hb.mono (by omega)
  split
  · exact hb.mono (by omega)
  · refine (hb.setFile i ⟨s.begin.calls, [], 0⟩ (by simp)).more rfl rfl rfl (fun j => by have := (hb.setFile i ⟨s.begin.calls, [], 0⟩ (by simp)).file j; exact Nat.le_trans this (by omega)) ?_ hn
    simp only [St.doMove, St.setFile]
    omega
theorem Small.append {s : St} {n : Nat} (h : Small s n) (hn : n ≤ 1000) (k : Nm) (b : Nm) (hl : b.length ≤ 1000) : Small (s.append k b).2 (n + 1) := by
  have hb := h.begin
  unfold St.append
  rcases find_cases s.begin k with ⟨j, hf⟩ | ⟨i, hf, _⟩
  · rw [hf]; exact hb.mono (by omega)
  · rw [hf]
    simp only
    split
    · exact hb.mono (by omega)
    · refine hb.more rfl rfl rfl (fun j => ?_) ?_ hn
      · show ((s.begin.setFile i _).files j).bytes.length ≤ _
        by_cases e : j = i
        · subst e; rw [setFile_same]; have := hb.file j; simp; omega
        · rw [setFile_other _ _ _ _ e]; have := hb.file j; omega
      · show _ ≤ s.begin.used + (b.length : Int) ∧ s.begin.used + (b.length : Int) ≤ _
        omega
/-- Told one thing more, of so many thousand bytes. -/
theorem Small.moreQ {s t : St} {n : Nat} (q : Nat) (hq : 1 ≤ q) (h : Small s n) (ha : t.armed = s.armed) (hc : t.calls = s.calls + 1) (hr : t.room = s.room) (hf : ∀ i, (t.files i).bytes.length ≤ 1000 * n + 1000 * q)
    (hu : s.used - 1000 * q ≤ t.used ∧ t.used ≤ s.used + 1000 * q) : Small t (n + q) := by
  have h1 := h.calls
  have h2 := h.used
  exact ⟨by rw [ha]; exact h.armed, by rw [hc]; omega, by omega, by rw [hr]; exact h.room, fun i => by have := hf i; omega⟩
theorem Small.appendQ {s : St} {n : Nat} (q : Nat) (hq : 1 ≤ q) (h : Small s n) (k : Nm) (b : Nm) (hl : b.length ≤ 1000 * q) : Small (s.append k b).2 (n + q) := by
  have hb := h.begin
  unfold St.append
  rcases find_cases s.begin k with ⟨j, hf⟩ | ⟨i, hf, _⟩
  · rw [hf]; exact hb.mono (by omega)
  · rw [hf]
    simp only
    split
    · exact hb.mono (by omega)
    · refine hb.moreQ q hq rfl rfl rfl (fun j => ?_) ?_
      · show ((s.begin.setFile i _).files j).bytes.length ≤ _
        by_cases e : j = i
        · subst e; rw [setFile_same]; have := hb.file j; simp; omega
        · rw [setFile_other _ _ _ _ e]; have := hb.file j; omega
      · show _ ≤ s.begin.used + (b.length : Int) ∧ s.begin.used + (b.length : Int) ≤ _
        omega
theorem Small.cut {s : St} {n : Nat} (h : Small s n) (hn : n ≤ 1000) (k : Nm) (m : Int) : Small (s.cut k m).2 (n + 1) := by
  have hb := h.begin
  unfold St.cut
  rcases find_cases s.begin k with ⟨j, hf⟩ | ⟨i, hf, _⟩
  · rw [hf]; exact hb.mono (by omega)
  · rw [hf]
    simp only
    split
    · exact hb.mono (by omega)
    · have hfi := hb.file i
      refine hb.more rfl rfl rfl (fun j => ?_) ?_ hn
      · show ((s.begin.setFile i _).files j).bytes.length ≤ _
        by_cases e : j = i
        · subst e; rw [setFile_same]; simp only [File.keep, List.length_take]; omega
        · rw [setFile_other _ _ _ _ e]; have := hb.file j; omega
      · show _ ≤ s.begin.used - (((s.begin.files i).bytes.length : Int) - m) ∧ s.begin.used - (((s.begin.files i).bytes.length : Int) - m) ≤ _
        omega
theorem Small.sync {s : St} {n : Nat} (h : Small s n) (hn : n ≤ 1000) (k : Nm) : Small (s.sync k).2 (n + 1) := by
  have hb := h.begin
  unfold St.sync
  rcases find_cases s.begin k with ⟨j, hf⟩ | ⟨i, hf, _⟩
  · rw [hf]; exact hb.mono (by omega)
  · rw [hf]
    simp only
    refine hb.more rfl rfl rfl (fun j => ?_) ?_ hn
    · show ((s.begin.setFile i _).files j).bytes.length ≤ _
      by_cases e : j = i
      · subst e; rw [setFile_same]; have := hb.file j; simp only [File.keep, List.length_take]; omega
      · rw [setFile_other _ _ _ _ e]; have := hb.file j; omega
    · show _ ≤ s.begin.used ∧ s.begin.used ≤ _
      omega
theorem Small.rename {s : St} {n : Nat} (h : Small s n) (hn : n ≤ 1000) (k tn : Nm) : Small (s.rename k tn).2 (n + 1) := by
  have hb := h.begin
  unfold St.rename
  rcases find_cases s.begin k with ⟨j, hf⟩ | ⟨i, hf, _⟩
  · rw [hf]; exact hb.mono (by omega)
  · rw [hf]
    simp only
    split
    · exact hb.mono (by omega)
    · refine hb.more rfl rfl rfl (fun j => by have := hb.file j; exact Nat.le_trans this (by omega)) ?_ hn
      show _ ≤ (match s.begin.names tn with | none => s.begin.used | some o => if o = i then s.begin.used else s.begin.used - (s.begin.files o).bytes.length) ∧ (match s.begin.names tn with | none => s.begin.used | some o => if o = i then s.begin.used else s.begin.used - (s.begin.files o).bytes.length) ≤ _
      split
      · omega
      · rename_i o _
        have := hb.file o
        by_cases e : o = i
        · rw [if_pos e]; omega
        · rw [if_neg e]; omega
theorem Small.syncDir {s : St} {n : Nat} (h : Small s n) (hn : n ≤ 1000) : Small s.syncDir.2 (n + 1) := by
  have hb := h.begin
  unfold St.syncDir
  split
  · exact hb.mono (by omega)
  · refine hb.more rfl rfl rfl (fun j => by have := hb.file j; exact Nat.le_trans this (by omega)) ?_ hn
    show _ ≤ s.begin.used ∧ s.begin.used ≤ _
    omega
end Go.Proofs.YtcmgppacipdnaaaGreatDoor.Dk

namespace Go.Proofs.YtcmgppacipdnaaaGreatDoor
open Go.RowKit Go.Maps

/-- A disk under a walk that began in w0. -/
structure Sess (w0 : World) (n Bd : Nat) (s : Dk.St) (w : World) : Prop where
  disk : IsDisk w Bd s (fun k => w0.heap.size ≤ k ∧ k < w.heap.size)
  below : Below w0.heap.size w0 w
  small : Dk.Small s n
theorem safe_of {w0 : World} {p : Nat → Addr} (hs : SentsD w0 p) (T : Nat) : Safe (fun k => w0.heap.size ≤ k ∧ k < T) p :=
  ⟨fun j h1 h2 h3 => by have := hs.size j ⟨h1, h2⟩; have := h3.1; omega, fun j h1 h2 h3 => by have := (hs.blk j ⟨h1, h2⟩).1; have := h3.1; omega⟩
theorem SentsOn.at_ {w0 w : World} {p : Nat → Addr} (hs : SentsD w0 p) (h : Below w0.heap.size w0 w) : SentsD w p := hs.below h
theorem Sess.next {w0 w w' : World} {n m Bd : Nat} {s s' : Dk.St} (h : Sess w0 n Bd s w) (hx : Next w Bd (fun k => w0.heap.size ≤ k ∧ k < w.heap.size) s' w') (hm : Dk.Small s' m) : Sess w0 m Bd s' w' := by
  have hsz := hx.chg.size
  exact ⟨hx.disk.mono fun k hk => by rcases hk with hk | hk <;> have := h.below.size <;> (show _ ∧ _) <;> omega, h.below.trans (hx.chg.below h.below.size fun k hk => hk.1), hm⟩
/-- New blocks change nothing. -/
theorem Sess.grow {w0 w w' : World} {n Bd : Nat} {s : Dk.St} (h : Sess w0 n Bd s w) (hb : Below w.heap.size w w') : Sess w0 n Bd s w' :=
  ⟨(h.disk.below hb).mono fun _k hk => ⟨hk.1, Nat.lt_of_lt_of_le hk.2 hb.size⟩, h.below.trans (hb.mono h.below.size), h.small⟩
theorem Sess.mono {w0 w : World} {n m Bd : Nat} {s : Dk.St} (h : Sess w0 n Bd s w) (hm : n ≤ m) : Sess w0 m Bd s w := ⟨h.disk, h.below, h.small.mono hm⟩
theorem Sess.drewN {w0 w : World} {n Bd : Nat} {s : Dk.St} (h : Sess w0 n Bd s w) (q : Nat) : Sess w0 n Bd s (w.drewN q) := h.grow ⟨rfl, rfl, rfl, Nat.le_refl _, fun _ _ => rfl⟩

theorem Sess.create {w0 w : World} {n Bd : Nat} {s : Dk.St} (h : Sess w0 n Bd s w) (p : Nat → Addr) (hs : SentsD w0 p) (hn : n ≤ 1000) (k : Dk.Nm) (hk : k.length ≤ 1000) :
    Calls Tryz.prog 165 #[.pointer (some ⟨Bd, 0, none⟩), encStr k] w fun e w' => e = .returned (errR p (s.create k w.heap.size).1) ∧ Sess w0 (n + 1) Bd (s.create k w.heap.size).2 w' :=
  (create_any Bd s _ p k w (hs.at_ h.below) (safe_of hs _) h.disk (h.small.fit hn) (by omega)).mono fun e w' ⟨he, hx⟩ => ⟨he, h.next hx (h.small.create hn k _)⟩
theorem Sess.append {w0 w w1 : World} {n Bd : Nat} {s : Dk.St} (h : Sess w0 n Bd s w) (p : Nat → Addr) (hs : SentsD w0 p) (hn : n ≤ 1000) (k : Dk.Nm) (hk : k.length ≤ 1000)
    (A : Option Addr) (c m : Nat) (b : Dk.Nm) (hb : Below w.heap.size w w1) (ha : Arg w1 A c b) (hl : b.length = m) (hm : m ≤ 1000) (hA : ∀ x o, A = some ⟨x, o, none⟩ → b ≠ [] → x < w0.heap.size ∨ w.heap.size ≤ x) :
    Calls Tryz.prog 108 #[.pointer (some ⟨Bd, 0, none⟩), encStr k, .slice A m c] w1 fun e w' => e = .returned (errR p (s.append k b).1) ∧ Sess w0 (n + 1) Bd (s.append k b).2 w' := by
  have hb0 := h.below.trans (hb.mono h.below.size)
  refine (append_any Bd s (fun k => w0.heap.size ≤ k ∧ k < w.heap.size) p k A c m b w1 (hs.at_ hb0) (safe_of hs _) (h.disk.below hb) (h.small.fit hn) (by omega) ha hl (by omega) fun x o e hl0 hx => by rcases hA x o e hl0 with h1 | h1 <;> have := hx.1 <;> have := hx.2 <;> omega).mono fun e w' ⟨he, hx⟩ => ⟨he, ?_⟩
  have h1 := hb.size
  have h2 := hx.chg.size
  have h3 := h.below.size
  exact ⟨hx.disk.mono fun k hk => by rcases hk with hk | hk <;> (show _ ∧ _) <;> omega, hb0.trans (hx.chg.below (by omega) fun k hk => hk.1), h.small.append hn k b (by omega)⟩
theorem Sess.cut {w0 w : World} {n Bd : Nat} {s : Dk.St} (h : Sess w0 n Bd s w) (p : Nat → Addr) (hs : SentsD w0 p) (hn : n ≤ 1000) (k : Dk.Nm) (hk : k.length ≤ 1000) (m : Int) :
    Calls Tryz.prog 129 #[.pointer (some ⟨Bd, 0, none⟩), encStr k, .int .i64 m] w fun e w' => e = .returned (errR p (s.cut k m).1) ∧ Sess w0 (n + 1) Bd (s.cut k m).2 w' :=
  (cut_any Bd s _ p k m w (hs.at_ h.below) (safe_of hs _) h.disk (h.small.fit hn) (by omega)).mono fun e w' ⟨he, hx⟩ => ⟨he, h.next hx (h.small.cut hn k _)⟩
theorem Sess.sync {w0 w : World} {n Bd : Nat} {s : Dk.St} (h : Sess w0 n Bd s w) (p : Nat → Addr) (hs : SentsD w0 p) (hn : n ≤ 1000) (k : Dk.Nm) (hk : k.length ≤ 1000) :
    Calls Tryz.prog 110 #[.pointer (some ⟨Bd, 0, none⟩), encStr k] w fun e w' => e = .returned (errR p (s.sync k).1) ∧ Sess w0 (n + 1) Bd (s.sync k).2 w' :=
  (sync_any Bd s _ p k w (hs.at_ h.below) (safe_of hs _) h.disk (h.small.fit hn) (by omega)).mono fun e w' ⟨he, hx⟩ => ⟨he, h.next hx (h.small.sync hn k)⟩
theorem Sess.syncDir {w0 w : World} {n Bd : Nat} {s : Dk.St} (h : Sess w0 n Bd s w) (p : Nat → Addr) (hs : SentsD w0 p) (hn : n ≤ 1000) :
    Calls Tryz.prog 125 #[.pointer (some ⟨Bd, 0, none⟩)] w fun e w' => e = .returned (errR p s.syncDir.1) ∧ Sess w0 (n + 1) Bd s.syncDir.2 w' :=
  (syncDir_any Bd s _ p w (hs.at_ h.below) (safe_of hs _) h.disk (h.small.fit hn)).mono fun _e _w' ⟨he, hx⟩ => ⟨he, h.next hx (h.small.syncDir hn)⟩
theorem Sess.len {w0 w : World} {n Bd : Nat} {s : Dk.St} (h : Sess w0 n Bd s w) (p : Nat → Addr) (hs : SentsD w0 p) (k : Dk.Nm) (hk : k.length ≤ 1000) :
    Calls Tryz.prog 158 #[.pointer (some ⟨Bd, 0, none⟩), encStr k] w fun e w' => e = .returned (.tuple #[.int .i64 (s.lenOf k), errR p (s.find k).1]) ∧ ∃ q, w' = w.drewN q :=
  len_any Bd s _ p k w (hs.at_ h.below) h.disk (by omega)
theorem Sess.synced {w0 w : World} {n Bd : Nat} {s : Dk.St} (h : Sess w0 n Bd s w) (p : Nat → Addr) (hs : SentsD w0 p) (k : Dk.Nm) (hk : k.length ≤ 1000) :
    Calls Tryz.prog 111 #[.pointer (some ⟨Bd, 0, none⟩), encStr k] w fun e w' => e = .returned (.tuple #[.int .i64 (s.syncedOf k), errR p (s.find k).1]) ∧ ∃ q, w' = w.drewN q :=
  synced_any Bd s _ p k w (hs.at_ h.below) h.disk (by omega)
theorem Sess.read {w0 w : World} {n Bd : Nat} {s : Dk.St} (h : Sess w0 n Bd s w) (p : Nat → Addr) (hs : SentsD w0 p) (hn : n ≤ 1000) (k : Dk.Nm) (hk : k.length ≤ 1000) (a m : Int) (ha : -9223372036854775808 ≤ a ∧ a ≤ 9223372036854775807) :
    Calls Tryz.prog 159 #[.pointer (some ⟨Bd, 0, none⟩), encStr k, .int .i64 a, .int .i64 m] w fun e w' => ∃ v, e = .returned (.tuple #[v, errR p (s.readOf k a m).1]) ∧ Own w' w.heap.size v (s.readOf k a m).2 ∧ Below w.heap.size w w' :=
  dRead_any Bd s _ p k a m w (hs.at_ h.below) h.disk (by omega) (h.small.fit hn) ha
end Go.Proofs.YtcmgppacipdnaaaGreatDoor

namespace Go.Proofs.YtcmgppacipdnaaaGreatDoor
open Go.RowKit Go.Maps Go.Sort

/-- A disk whose blocks are S's, all of them new since w0. -/
structure SessS (S : Nat → Prop) (w0 : World) (n Bd : Nat) (s : Dk.St) (w : World) : Prop where
  disk : IsDisk w Bd s S
  lo : ∀ k, S k → w0.heap.size ≤ k ∧ k < w.heap.size
  below : Below w0.heap.size w0 w
  small : Dk.Small s n
theorem SessS.safe {S : Nat → Prop} {w0 w : World} {n Bd : Nat} {s : Dk.St} (h : SessS S w0 n Bd s w) {p : Nat → Addr} (hs : SentsD w0 p) : Safe S p :=
  ⟨fun j h1 h2 h3 => by have := hs.size j ⟨h1, h2⟩; have := (h.lo _ h3).1; omega, fun j h1 h2 h3 => by have := (hs.blk j ⟨h1, h2⟩).1; have := (h.lo _ h3).1; omega⟩
theorem SessS.next {S : Nat → Prop} {w0 w w' : World} {n m Bd : Nat} {s s' : Dk.St} (h : SessS S w0 n Bd s w) (hx : Next w Bd S s' w') (hm : Dk.Small s' m) : SessS (Up S w w') w0 m Bd s' w' ∧ Chg S w w' := by
  have h1 := hx.chg.size
  have h2 := h.below.size
  exact ⟨⟨hx.disk, fun k hk => by rcases hk with hk | hk; (have := h.lo k hk; omega); omega, h.below.trans (hx.chg.below h2 fun k hk => (h.lo k hk).1), hm⟩, hx.chg⟩
theorem SessS.grow {S : Nat → Prop} {w0 w w' : World} {n Bd : Nat} {s : Dk.St} (h : SessS S w0 n Bd s w) (hb : Below w.heap.size w w') : SessS S w0 n Bd s w' :=
  ⟨h.disk.below hb, fun k hk => by have := h.lo k hk; have := hb.size; omega, h.below.trans (hb.mono h.below.size), h.small⟩
theorem SessS.mono {S : Nat → Prop} {w0 w : World} {n m Bd : Nat} {s : Dk.St} (h : SessS S w0 n Bd s w) (hm : n ≤ m) : SessS S w0 m Bd s w := ⟨h.disk, h.lo, h.below, h.small.mono hm⟩
/-- A row that is not the disk's grows. -/
theorem SessS.but {S : Nat → Prop} {w0 w w' : World} {n Bd : Nat} {s : Dk.St} {row : Option Nat} (h : SessS S w0 n Bd s w) (hg : w.grownBy w' row) (hr : ∀ k, row = some k → ¬ S k ∧ w0.heap.size ≤ k) : SessS S w0 n Bd s w' :=
  ⟨h.disk.kept fun k hk hlt => hg.block k hlt fun e => (hr k e.symm).1 hk, fun k hk => by have := h.lo k hk; have := hg.size; omega, h.below.grown hg h.below.size fun k hk => (hr k hk).2, h.small⟩

theorem new_sessS (room : Int) (w0 w : World) (hb : Below w0.heap.size w0 w) (h1 : 1 ≤ room) (h2 : room ≤ 4194304) :
    Calls Tryz.prog 48 #[.int .i64 room] w fun e w' => ∃ Bd, e = .returned (.tuple #[.pointer (some ⟨Bd, 0, none⟩), .nilIface]) ∧ SessS (fun k => w.heap.size ≤ k ∧ k < w'.heap.size) w0 0 Bd (Dk.St.new room) w' ∧ Below w.heap.size w w' := by
  refine (new_any room w h1 h2).mono ?_
  rintro e w' ⟨Bd, rfl, -, hd, hb2⟩
  exact ⟨Bd, rfl, ⟨hd, fun k hk => ⟨Nat.le_trans hb.size hk.1, hk.2⟩, hb.trans (hb2.mono hb.size), Dk.Small.new room h1 h2⟩, hb2⟩
theorem SessS.create {S : Nat → Prop} {w0 w : World} {n Bd : Nat} {s : Dk.St} (h : SessS S w0 n Bd s w) (p : Nat → Addr) (hs : SentsD w0 p) (hn : n ≤ 1000) (k : Dk.Nm) (hk : k.length ≤ 1000) (x : Nat) (hx : w.heap.size = x) :
    Calls Tryz.prog 165 #[.pointer (some ⟨Bd, 0, none⟩), encStr k] w fun e w' => e = .returned (errR p (s.create k x).1) ∧ SessS (Up S w w') w0 (n + 1) Bd (s.create k x).2 w' ∧ Chg S w w' := by
  subst hx
  exact (create_any Bd s S p k w (hs.at_ h.below) (h.safe hs) h.disk (h.small.fit hn) (by omega)).mono fun e w' ⟨he, hx⟩ => ⟨he, h.next hx (h.small.create hn k _)⟩
end Go.Proofs.YtcmgppacipdnaaaGreatDoor

namespace Go.Proofs.YtcmgppacipdnaaaGreatDoor
open Go.RowKit Go.Maps Go.Sort

theorem SessS.append {S : Nat → Prop} {w0 w : World} {n Bd : Nat} {s : Dk.St} (h : SessS S w0 n Bd s w) (p : Nat → Addr) (hs : SentsD w0 p) (hn : n ≤ 1000) (k : Dk.Nm) (hk : k.length ≤ 1000)
    (A : Option Addr) (c m : Nat) (b : Dk.Nm) (ha : Arg w A c b) (hl : b.length = m) (hm : m ≤ 1000) (hA : ∀ x o, A = some ⟨x, o, none⟩ → b ≠ [] → ¬ S x) :
    Calls Tryz.prog 108 #[.pointer (some ⟨Bd, 0, none⟩), encStr k, .slice A m c] w fun e w' => e = .returned (errR p (s.append k b).1) ∧ SessS (Up S w w') w0 (n + 1) Bd (s.append k b).2 w' ∧ Chg S w w' :=
  (append_any Bd s S p k A c m b w (hs.at_ h.below) (h.safe hs) h.disk (h.small.fit hn) (by omega) ha hl (by omega) hA).mono fun e w' ⟨he, hx⟩ => ⟨he, h.next hx (h.small.append hn k b (by omega))⟩
theorem SessS.appendQ {S : Nat → Prop} {w0 w : World} {n Bd : Nat} {s : Dk.St} (q : Nat) (hq : 1 ≤ q ∧ q ≤ 100) (h : SessS S w0 n Bd s w) (p : Nat → Addr) (hs : SentsD w0 p) (hn : n ≤ 1000) (k : Dk.Nm) (hk : k.length ≤ 1000)
    (A : Option Addr) (c m : Nat) (b : Dk.Nm) (ha : Arg w A c b) (hl : b.length = m) (hm : m ≤ 1000 * q) (hA : ∀ x o, A = some ⟨x, o, none⟩ → b ≠ [] → ¬ S x) :
    Calls Tryz.prog 108 #[.pointer (some ⟨Bd, 0, none⟩), encStr k, .slice A m c] w fun e w' => e = .returned (errR p (s.append k b).1) ∧ SessS (Up S w w') w0 (n + q) Bd (s.append k b).2 w' ∧ Chg S w w' :=
  (append_any Bd s S p k A c m b w (hs.at_ h.below) (h.safe hs) h.disk (h.small.fit hn) (by omega) ha hl (by omega) hA).mono fun e w' ⟨he, hx⟩ => ⟨he, h.next hx (h.small.appendQ q hq.1 k b (by omega))⟩
theorem SessS.cut {S : Nat → Prop} {w0 w : World} {n Bd : Nat} {s : Dk.St} (h : SessS S w0 n Bd s w) (p : Nat → Addr) (hs : SentsD w0 p) (hn : n ≤ 1000) (k : Dk.Nm) (hk : k.length ≤ 1000) (m : Int) :
    Calls Tryz.prog 129 #[.pointer (some ⟨Bd, 0, none⟩), encStr k, .int .i64 m] w fun e w' => e = .returned (errR p (s.cut k m).1) ∧ SessS (Up S w w') w0 (n + 1) Bd (s.cut k m).2 w' ∧ Chg S w w' :=
  (cut_any Bd s S p k m w (hs.at_ h.below) (h.safe hs) h.disk (h.small.fit hn) (by omega)).mono fun e w' ⟨he, hx⟩ => ⟨he, h.next hx (h.small.cut hn k m)⟩
theorem SessS.sync {S : Nat → Prop} {w0 w : World} {n Bd : Nat} {s : Dk.St} (h : SessS S w0 n Bd s w) (p : Nat → Addr) (hs : SentsD w0 p) (hn : n ≤ 1000) (k : Dk.Nm) (hk : k.length ≤ 1000) :
    Calls Tryz.prog 110 #[.pointer (some ⟨Bd, 0, none⟩), encStr k] w fun e w' => e = .returned (errR p (s.sync k).1) ∧ SessS (Up S w w') w0 (n + 1) Bd (s.sync k).2 w' ∧ Chg S w w' :=
  (sync_any Bd s S p k w (hs.at_ h.below) (h.safe hs) h.disk (h.small.fit hn) (by omega)).mono fun e w' ⟨he, hx⟩ => ⟨he, h.next hx (h.small.sync hn k)⟩
theorem SessS.syncDir {S : Nat → Prop} {w0 w : World} {n Bd : Nat} {s : Dk.St} (h : SessS S w0 n Bd s w) (p : Nat → Addr) (hs : SentsD w0 p) (hn : n ≤ 1000) :
    Calls Tryz.prog 125 #[.pointer (some ⟨Bd, 0, none⟩)] w fun e w' => e = .returned (errR p s.syncDir.1) ∧ SessS (Up S w w') w0 (n + 1) Bd s.syncDir.2 w' ∧ Chg S w w' :=
  (syncDir_any Bd s S p w (hs.at_ h.below) (h.safe hs) h.disk (h.small.fit hn)).mono fun _e _w' ⟨he, hx⟩ => ⟨he, h.next hx (h.small.syncDir hn)⟩
theorem SessS.len {S : Nat → Prop} {w0 w : World} {n Bd : Nat} {s : Dk.St} (h : SessS S w0 n Bd s w) (p : Nat → Addr) (hs : SentsD w0 p) (k : Dk.Nm) (hk : k.length ≤ 1000) :
    Calls Tryz.prog 158 #[.pointer (some ⟨Bd, 0, none⟩), encStr k] w fun e w' => e = .returned (.tuple #[.int .i64 (s.lenOf k), errR p (s.find k).1]) ∧ ∃ q, w' = w.drewN q :=
  len_any Bd s S p k w (hs.at_ h.below) h.disk (by omega)
theorem SessS.synced {S : Nat → Prop} {w0 w : World} {n Bd : Nat} {s : Dk.St} (h : SessS S w0 n Bd s w) (p : Nat → Addr) (hs : SentsD w0 p) (k : Dk.Nm) (hk : k.length ≤ 1000) :
    Calls Tryz.prog 111 #[.pointer (some ⟨Bd, 0, none⟩), encStr k] w fun e w' => e = .returned (.tuple #[.int .i64 (s.syncedOf k), errR p (s.find k).1]) ∧ ∃ q, w' = w.drewN q :=
  synced_any Bd s S p k w (hs.at_ h.below) h.disk (by omega)
theorem SessS.read {S : Nat → Prop} {w0 w : World} {n Bd : Nat} {s : Dk.St} (h : SessS S w0 n Bd s w) (p : Nat → Addr) (hs : SentsD w0 p) (hn : n ≤ 1000) (k : Dk.Nm) (hk : k.length ≤ 1000) (a m : Int) (ha : -9223372036854775808 ≤ a ∧ a ≤ 9223372036854775807) :
    Calls Tryz.prog 159 #[.pointer (some ⟨Bd, 0, none⟩), encStr k, .int .i64 a, .int .i64 m] w fun e w' => ∃ v, e = .returned (.tuple #[v, errR p (s.readOf k a m).1]) ∧ Own w' w.heap.size v (s.readOf k a m).2 ∧ Below w.heap.size w w' :=
  dRead_any Bd s S p k a m w (hs.at_ h.below) h.disk (by omega) (h.small.fit hn) ha
end Go.Proofs.YtcmgppacipdnaaaGreatDoor
