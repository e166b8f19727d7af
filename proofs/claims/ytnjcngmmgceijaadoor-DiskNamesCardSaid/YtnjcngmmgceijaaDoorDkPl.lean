/-
  What a crash leaves, plainly: which files have a name, what of each is kept.
  A disk that has power and will have it: what each call makes of it, plainly.
-/
import Derived.Test.YtnjcngmmgceijaaDoorDkSe
namespace Go.Proofs.YtnjcngmmgceijaaDoor.Dk

theorem keep_keep (f : File) (k : Nat) (m : Nat) (h1 : k ≤ m) (h2 : m ≤ k) : (f.keep k).keep m = f.keep k := by
  obtain rfl : k = m := by omega
  simp [File.keep, List.take_take]
/-- What is kept of each file. -/
theorem keepAll_file (picks : List Int) (x : Nat) : ∀ (l : List Nat) (i : Nat) (s : St), (∀ k ∈ l, (s.files k).synced ≤ (s.files k).bytes.length) →
    (x ∉ l → (St.keepAll picks i l s).files x = s.files x) ∧ (x ∈ l → ∃ j, i ≤ j ∧ j < i + l.length ∧ (St.keepAll picks i l s).files x = (s.files x).keep ((s.files x).synced + pick picks j ((s.files x).bytes.length - (s.files x).synced)))
  | [], _, s, _ => ⟨fun _ => rfl, fun h => absurd h List.not_mem_nil⟩
  | f :: fs, i, s, hs => by
    have hp := pick_le picks i ((s.files f).bytes.length - (s.files f).synced)
    have hsy := hs f (List.mem_cons_self ..)
    obtain ⟨m, hm⟩ : ∃ m, m = (s.files f).synced + pick picks i ((s.files f).bytes.length - (s.files f).synced) := ⟨_, rfl⟩
    have hms : ∀ k ∈ fs, ((s.setFile f ((s.files f).keep m)).files k).synced ≤ ((s.setFile f ((s.files f).keep m)).files k).bytes.length := fun k hk => by
      by_cases e : k = f
      · subst e; rw [setFile_same]; simp only [File.keep, List.length_take]; omega
      · rw [setFile_other _ _ _ _ e]; exact hs k (List.mem_cons_of_mem _ hk)
    obtain ⟨h1, h2⟩ := keepAll_file picks x fs (i + 1) { s.setFile f ((s.files f).keep m) with used := s.used + (m : Int) } hms
    have e : St.keepAll picks i (f :: fs) s = St.keepAll picks (i + 1) fs { s.setFile f ((s.files f).keep m) with used := s.used + (m : Int) } := by rw [hm]; rfl
    rw [e]
    refine ⟨fun hx => ?_, fun hx => ?_⟩
    · have hn : x ≠ f := fun e => hx (e ▸ List.mem_cons_self ..)
      rw [h1 fun h => hx (List.mem_cons_of_mem _ h)]
      exact setFile_other _ _ _ _ hn
    · by_cases ex : x = f
      · subst ex
        refine ⟨i, Nat.le_refl _, by simp, ?_⟩
        rw [← hm]
        by_cases hin : x ∈ fs
        · obtain ⟨j, -, -, k3⟩ := h2 hin
          have hp2 := pick_le picks j (((s.setFile x ((s.files x).keep m)).files x).bytes.length - ((s.setFile x ((s.files x).keep m)).files x).synced)
          rw [k3]
          show ((s.setFile x ((s.files x).keep m)).files x).keep (((s.setFile x ((s.files x).keep m)).files x).synced + pick picks j (((s.setFile x ((s.files x).keep m)).files x).bytes.length - ((s.setFile x ((s.files x).keep m)).files x).synced)) = _
          rw [setFile_same] at hp2 ⊢
          have e1 : ((s.files x).keep m).synced = m := rfl
          have e2 : ((s.files x).keep m).bytes.length = m := by simp only [File.keep, List.length_take]; omega
          rw [e1, e2] at hp2 ⊢
          exact keep_keep _ _ _ (by omega) (by omega)
        · rw [h1 hin]
          exact setFile_same _ _ _
      · have hin : x ∈ fs := by rcases List.mem_cons.1 hx with e | e; exact absurd e ex; exact e
        obtain ⟨j, k1, k2, k3⟩ := h2 hin
        have ef : (s.setFile f ((s.files f).keep m)).files x = s.files x := setFile_other _ _ _ _ ex
        refine ⟨j, by omega, by rw [List.length_cons]; omega, ?_⟩
        rw [k3]
        show ((s.setFile f ((s.files f).keep m)).files x).keep (((s.setFile f ((s.files f).keep m)).files x).synced + pick picks j (((s.setFile f ((s.files f).keep m)).files x).bytes.length - ((s.setFile f ((s.files f).keep m)).files x).synced)) = _
        rw [ef]
/-- The names behind a crash. -/
theorem crash_names (s : St) (picks : List Int) (ys : List Nat) : (s.crash picks ys).names = ons (s.since.take (pick picks 0 s.since.length)) s.dur ∧ (s.crash picks ys).dur = ons (s.since.take (pick picks 0 s.since.length)) s.dur ∧ (s.crash picks ys).since = [] ∧ (s.crash picks ys).down = false ∧ (s.crash picks ys).armed = 0 ∧ (s.crash picks ys).calls = s.calls ∧ (s.crash picks ys).room = s.room := by
  obtain ⟨a, b, c, d, e, g, h⟩ := keepAll_fix picks ys 1 { (s.settle (pick picks 0 s.since.length)) with names := (s.settle (pick picks 0 s.since.length)).dur, used := 0 }
  exact ⟨d, e, g, rfl, rfl, b, c⟩
/-- A file that has a name behind a crash. -/
theorem crash_file (s : St) (picks : List Int) (ys : List Nat) (hy : Order (s.settle (pick picks 0 s.since.length)) (s.settle (pick picks 0 s.since.length)).dur ys) (hs : ∀ k ∈ ys, (s.files k).synced ≤ (s.files k).bytes.length) (n : Nm) (x : Nat) (hn : (s.crash picks ys).names n = some x) :
    ∃ j, 1 ≤ j ∧ j < 1 + ys.length ∧ (s.crash picks ys).files x = (s.files x).keep ((s.files x).synced + pick picks j ((s.files x).bytes.length - (s.files x).synced)) := by
  obtain ⟨xs, ⟨ks, -, hk, hm⟩, hp, -⟩ := hy
  rw [(crash_names s picks ys).1] at hn
  have hd : (s.settle (pick picks 0 s.since.length)).dur n = some x := hn
  have hx : x ∈ ys := hp.mem_iff.2 <| by
    have h1 : n ∈ ks := (hk n).2 (by rw [hd]; intro e; cases e)
    have h2 : some x ∈ xs.map some := by rw [hm, ← hd]; exact List.mem_map_of_mem h1
    simpa using h2
  exact (keepAll_file picks x ys 1 { (s.settle (pick picks 0 s.since.length)) with names := (s.settle (pick picks 0 s.since.length)).dur, used := 0 } hs).2 hx
end Go.Proofs.YtnjcngmmgceijaaDoor.Dk

namespace Go.Proofs.YtnjcngmmgceijaaDoor.Dk

/-- What is known of a disk with power. -/
structure V (s : St) (room used calls : Int) (names dur : Dir) (since : List Mv) : Prop where
  room : s.room = room
  used : s.used = used
  calls : s.calls = calls
  names : s.names = names
  dur : s.dur = dur
  since : s.since = since
  armed : s.armed = 0
  down : s.down = false
theorem V.begin {s : St} {room used calls : Int} {names dur : Dir} {since : List Mv} (h : V s room used calls names dur since) : s.begin = s := by
  unfold St.begin; rw [if_neg (by have := h.armed; omega)]
theorem V.new (room : Int) : V (St.new room) room 0 0 (fun _ => none) (fun _ => none) [] := ⟨rfl, rfl, rfl, rfl, rfl, rfl, rfl, rfl⟩
theorem V.find {s : St} {room used calls : Int} {names dur : Dir} {since : List Mv} (h : V s room used calls names dur since) (k : Nm) (i : Nat) (hn : names k = some i) : s.find k = (none, some i) := by
  unfold St.find
  rw [h.down, h.names, hn]
  rfl
theorem V.find_none {s : St} {room used calls : Int} {names dur : Dir} {since : List Mv} (h : V s room used calls names dur since) (k : Nm) (hn : names k = none) : s.find k = (some 6, none) := by
  unfold St.find
  rw [h.down, h.names, hn]
  rfl
theorem on_to (k : Nm) (v : Option Nat) (f : Dir) (hk : k ≠ []) : (⟨[], k, v⟩ : Mv).on f = upd f k v := by
  unfold Mv.on
  rw [if_neg hk]
  rfl
theorem on_from (k : Nm) (v : Option Nat) (f : Dir) (hk : k ≠ []) : (⟨k, [], v⟩ : Mv).on f = upd f k none := by
  unfold Mv.on
  rw [if_pos rfl]
  show (if k = [] then f else _) = _
  rw [if_neg hk]
theorem on_both (k to : Nm) (v : Option Nat) (f : Dir) (hk : k ≠ []) (ht : to ≠ []) : (⟨k, to, v⟩ : Mv).on f = upd (upd f k none) to v := by
  unfold Mv.on
  rw [if_neg ht]
  show upd (if k = [] then f else _) to v = _
  rw [if_neg hk]
theorem valid_ne {k : Nm} (h : valid k = true) : k ≠ [] := fun e => by subst e; simp [valid] at h
theorem V.create {s : St} {room used calls : Int} {names dur : Dir} {since : List Mv} (h : V s room used calls names dur since) (k : Nm) (i : Nat) (hv : valid k = true) (hn : names k = none) :
    ∃ s', s.create k i = (none, s') ∧ V s' room used (calls + 1) (upd names k (some i)) dur (since ++ [⟨[], k, some i⟩]) ∧ s'.files i = ⟨calls, [], 0⟩ ∧ ∀ x, x ≠ i → s'.files x = s.files x := by
  refine ⟨(s.setFile i ⟨s.calls, [], 0⟩).doMove ⟨[], k, some i⟩, ?_, ⟨h.room, h.used, by show s.calls + 1 = _; rw [h.calls], ?_, h.dur, by show s.since ++ _ = _; rw [h.since], h.armed, h.down⟩, ?_, fun x hx => setFile_other _ _ _ _ hx⟩
  · unfold St.create
    rw [h.begin, if_neg (by rw [h.down]; simp), if_neg (by rw [hv]; simp), if_neg (by rw [h.names, hn]; simp)]
  · show Mv.on _ s.names = _
    rw [on_to _ _ _ (valid_ne hv), h.names]
  · show (s.setFile i ⟨s.calls, [], 0⟩).files i = _
    rw [setFile_same, h.calls]
theorem V.create_there {s : St} {room used calls : Int} {names dur : Dir} {since : List Mv} (h : V s room used calls names dur since) (k : Nm) (i j : Nat) (hv : valid k = true) (hn : names k = some j) : s.create k i = (some 7, s) := by
  unfold St.create
  rw [h.begin, if_neg (by rw [h.down]; simp), if_neg (by rw [hv]; simp), if_pos (by rw [h.names, hn]; simp)]
theorem V.append {s : St} {room used calls : Int} {names dur : Dir} {since : List Mv} (h : V s room used calls names dur since) (k : Nm) (i : Nat) (b : Nm) (hn : names k = some i) (hr : (b.length : Int) ≤ room - used) :
    ∃ s', s.append k b = (none, s') ∧ V s' room (used + b.length) (calls + 1) names dur since ∧ s'.files i = { s.files i with bytes := (s.files i).bytes ++ b } ∧ ∀ x, x ≠ i → s'.files x = s.files x := by
  refine ⟨{ s.setFile i { s.files i with bytes := (s.files i).bytes ++ b } with used := s.used + b.length, calls := s.calls + 1 }, ?_, ⟨h.room, by show s.used + _ = _; rw [h.used], by show s.calls + 1 = _; rw [h.calls], h.names, h.dur, h.since, h.armed, h.down⟩, setFile_same _ _ _, fun x hx => setFile_other _ _ _ _ hx⟩
  unfold St.append
  rw [h.begin, h.find k i hn]
  simp only
  rw [if_neg (by rw [h.room, h.used]; omega)]
theorem V.append_full {s : St} {room used calls : Int} {names dur : Dir} {since : List Mv} (h : V s room used calls names dur since) (k : Nm) (i : Nat) (b : Nm) (hn : names k = some i) (hr : room - used < (b.length : Int)) : s.append k b = (some 8, s) := by
  unfold St.append
  rw [h.begin, h.find k i hn]
  simp only
  rw [if_pos (by rw [h.room, h.used]; exact hr)]
theorem V.append_none {s : St} {room used calls : Int} {names dur : Dir} {since : List Mv} (h : V s room used calls names dur since) (k : Nm) (b : Nm) (hn : names k = none) : s.append k b = (some 6, s) := by
  unfold St.append
  rw [h.begin, h.find_none k hn]
theorem V.cut {s : St} {room used calls : Int} {names dur : Dir} {since : List Mv} (h : V s room used calls names dur since) (k : Nm) (i : Nat) (n : Nat) (hn : names k = some i) (hr : n ≤ (s.files i).bytes.length) :
    ∃ s', s.cut k n = (none, s') ∧ V s' room (used - (((s.files i).bytes.length : Int) - n)) (calls + 1) names dur since ∧ s'.files i = (s.files i).keep n ∧ ∀ x, x ≠ i → s'.files x = s.files x := by
  refine ⟨{ s.setFile i ((s.files i).keep n) with used := s.used - (((s.files i).bytes.length : Int) - n), calls := s.calls + 1 }, ?_, ⟨h.room, by show s.used - _ = _; rw [h.used], by show s.calls + 1 = _; rw [h.calls], h.names, h.dur, h.since, h.armed, h.down⟩, setFile_same _ _ _, fun x hx => setFile_other _ _ _ _ hx⟩
  unfold St.cut
  rw [h.begin, h.find k i hn]
  simp only
  rw [if_neg (by omega)]
  rfl
theorem V.cut_bad {s : St} {room used calls : Int} {names dur : Dir} {since : List Mv} (h : V s room used calls names dur since) (k : Nm) (i : Nat) (n : Int) (hn : names k = some i) (hr : n < 0 ∨ ((s.files i).bytes.length : Int) < n) : s.cut k n = (some 4, s) := by
  unfold St.cut
  rw [h.begin, h.find k i hn]
  simp only
  rw [if_pos hr]
theorem V.sync {s : St} {room used calls : Int} {names dur : Dir} {since : List Mv} (h : V s room used calls names dur since) (k : Nm) (i : Nat) (hn : names k = some i) :
    ∃ s', s.sync k = (none, s') ∧ V s' room used (calls + 1) names dur since ∧ s'.files i = { s.files i with synced := (s.files i).bytes.length } ∧ ∀ x, x ≠ i → s'.files x = s.files x := by
  refine ⟨{ s.setFile i ((s.files i).keep (s.files i).bytes.length) with calls := s.calls + 1 }, ?_, ⟨h.room, h.used, by show s.calls + 1 = _; rw [h.calls], h.names, h.dur, h.since, h.armed, h.down⟩, ?_, fun x hx => setFile_other _ _ _ _ hx⟩
  · unfold St.sync
    rw [h.begin, h.find k i hn]
  · show (s.setFile i _).files i = _
    rw [setFile_same]
    simp [File.keep]
theorem V.sync_none {s : St} {room used calls : Int} {names dur : Dir} {since : List Mv} (h : V s room used calls names dur since) (k : Nm) (hn : names k = none) : s.sync k = (some 6, s) := by
  unfold St.sync
  rw [h.begin, h.find_none k hn]
theorem V.syncDir {s : St} {room used calls : Int} {names dur : Dir} {since : List Mv} (h : V s room used calls names dur since) :
    ∃ s', s.syncDir = (none, s') ∧ V s' room used (calls + 1) names (ons since dur) [] ∧ ∀ x, s'.files x = s.files x := by
  refine ⟨{ s.settle s.since.length with calls := s.calls + 1 }, ?_, ⟨h.room, h.used, by show s.calls + 1 = _; rw [h.calls], h.names, ?_, rfl, h.armed, h.down⟩, fun x => rfl⟩
  · unfold St.syncDir
    rw [h.begin, if_neg (by rw [h.down]; simp)]
  · show ons (s.since.take s.since.length) s.dur = _
    rw [List.take_length, h.since, h.dur]
theorem V.remove {s : St} {room used calls : Int} {names dur : Dir} {since : List Mv} (h : V s room used calls names dur since) (k : Nm) (i : Nat) (hk : k ≠ []) (hn : names k = some i) :
    ∃ s', s.remove k = (none, s') ∧ V s' room (used - (s.files i).bytes.length) (calls + 1) (upd names k none) dur (since ++ [⟨k, [], none⟩]) ∧ ∀ x, s'.files x = s.files x := by
  refine ⟨{ s with used := s.used - (s.files i).bytes.length }.doMove ⟨k, [], none⟩, ?_, ⟨h.room, by show s.used - _ = _; rw [h.used], by show s.calls + 1 = _; rw [h.calls], ?_, h.dur, by show s.since ++ _ = _; rw [h.since], h.armed, h.down⟩, fun x => rfl⟩
  · unfold St.remove
    rw [h.begin, h.find k i hn]
  · show (⟨k, [], none⟩ : Mv).on s.names = _
    rw [on_from _ _ _ hk, h.names]
theorem V.remove_none {s : St} {room used calls : Int} {names dur : Dir} {since : List Mv} (h : V s room used calls names dur since) (k : Nm) (hn : names k = none) : s.remove k = (some 6, s) := by
  unfold St.remove
  rw [h.begin, h.find_none k hn]
theorem V.rename_none {s : St} {room used calls : Int} {names dur : Dir} {since : List Mv} (h : V s room used calls names dur since) (k to : Nm) (hn : names k = none) : s.rename k to = (some 6, s) := by
  unfold St.rename
  rw [h.begin, h.find_none k hn]
theorem V.rename {s : St} {room used calls : Int} {names dur : Dir} {since : List Mv} (h : V s room used calls names dur since) (k to : Nm) (i : Nat) (hk : k ≠ []) (hv : valid to = true) (hn : names k = some i) :
    ∃ s', s.rename k to = (none, s') ∧ V s' room (match names to with | none => used | some o => if o = i then used else used - (s.files o).bytes.length) (calls + 1) (upd (upd names k none) to (some i)) dur (since ++ [⟨k, to, some i⟩]) ∧ ∀ x, s'.files x = s.files x := by
  refine ⟨{ s with used := match s.names to with | none => s.used | some o => if o = i then s.used else s.used - (s.files o).bytes.length }.doMove ⟨k, to, some i⟩, ?_, ⟨h.room, ?_, by show s.calls + 1 = _; rw [h.calls], ?_, h.dur, by show s.since ++ _ = _; rw [h.since], h.armed, h.down⟩, fun x => rfl⟩
  · unfold St.rename
    rw [h.begin, h.find k i hn]
    simp only
    rw [if_neg (by rw [hv]; simp)]
    rfl
  · show (match s.names to with | none => s.used | some o => if o = i then s.used else s.used - (s.files o).bytes.length) = _
    rw [h.names, h.used]
  · show (⟨k, to, some i⟩ : Mv).on s.names = _
    rw [on_both _ _ _ _ hk (valid_ne hv), h.names]
theorem V.len {s : St} {room used calls : Int} {names dur : Dir} {since : List Mv} (h : V s room used calls names dur since) (k : Nm) (i : Nat) (hn : names k = some i) : s.lenOf k = ((s.files i).bytes.length : Int) ∧ s.syncedOf k = ((s.files i).synced : Int) := by
  unfold St.lenOf St.syncedOf
  rw [h.find k i hn]
  exact ⟨rfl, rfl⟩
theorem V.len_none {s : St} {room used calls : Int} {names dur : Dir} {since : List Mv} (h : V s room used calls names dur since) (k : Nm) (hn : names k = none) : s.lenOf k = 0 ∧ s.syncedOf k = 0 := by
  unfold St.lenOf St.syncedOf
  rw [h.find_none k hn]
  exact ⟨rfl, rfl⟩
theorem V.read {s : St} {room used calls : Int} {names dur : Dir} {since : List Mv} (h : V s room used calls names dur since) (k : Nm) (i n : Nat) (hn : names k = some i) (hr : n ≤ (s.files i).bytes.length) : s.readOf k 0 n = (none, (s.files i).bytes.take n) := by
  unfold St.readOf
  rw [h.find k i hn]
  simp only
  rw [if_neg (by omega)]
  simp
/-- A crash. -/
theorem V.crash {s : St} {room used calls : Int} {names dur : Dir} {since : List Mv} (h : V s room used calls names dur since) (picks : List Int) (ys : List Nat) (hy : Order (s.settle (pick picks 0 s.since.length)) (s.settle (pick picks 0 s.since.length)).dur ys) (hs : ∀ k ∈ ys, (s.files k).synced ≤ (s.files k).bytes.length) :
    ∃ m, m ≤ since.length ∧ m = pick picks 0 since.length ∧ V (s.crash picks ys) room (s.crash picks ys).used calls (ons (since.take m) dur) (ons (since.take m) dur) [] ∧ ∀ n x, ons (since.take m) dur n = some x → ∃ j, 1 ≤ j ∧ j < 1 + ys.length ∧ (s.crash picks ys).files x = (s.files x).keep ((s.files x).synced + pick picks j ((s.files x).bytes.length - (s.files x).synced)) := by
  obtain ⟨a, b, c, d, e, f, g⟩ := crash_names s picks ys
  refine ⟨pick picks 0 since.length, pick_le _ _ _, rfl, ⟨by rw [g, h.room], rfl, by rw [f, h.calls], by rw [a, h.since, h.dur], by rw [b, h.since, h.dur], c, e, d⟩, fun n x hn => ?_⟩
  exact crash_file s picks ys hy hs n x (by rw [a, h.since, h.dur]; exact hn)
end Go.Proofs.YtnjcngmmgceijaaDoor.Dk
