/-
  make of records and of bytes: what lies there.
  The walk through the statements' own Row: batches that follow one another.
  What a crash leaves, plainly: which files have a name, what of each is kept.
  A disk that has power and will have it: what each call makes of it, plainly.
  A segment made of batches, and its disk, plainly; the batches by numbers follow each other.
-/
import Derived.Test.YtcmgppacipdnaaaGreatDoorQRcU
import Derived.Test.YtcmgppacipdnaaaGreatDoorQRSame
import Derived.Test.YtcmgppacipdnaaaGreatDoorQDkC
import Derived.Test.YtcmgppacipdnaaaGreatDoorQDkSe
import Derived.Test.YtcmgppacipdnaaaGreatDoorQSgE
namespace Go.Proofs.YtcmgppacipdnaaaGreatDoor
open Go.RowKit

theorem cell_alloc_at (w : World) (C : Array Value) (t : TypeId) (n j : Nat) (hn : n = w.heap.size) : (w.alloc (.cells C t)).cell? ⟨n, j, none⟩ = C[j]? := by
  subst hn; exact World.cell?_alloc_mark _ _ _ _ _
theorem madeCells_get (z : Array Value) (n i : Nat) (h : i < n) : (madeCells z n)[i]? = some (z[i % z.size]!) := by
  unfold madeCells
  rw [Array.getElem?_map, Array.getElem?_range]
  simp [h]
theorem make_bytes (N : Nat) (hN : N ≤ 1000) : ∃ CS : Array Value, (∀ k, k < N → CS[k]? = some (.int .u8 0)) ∧
    ∀ W, (Instr.makeSlice 67 (.int .i64 (N : Int)) (.int .i64 (N : Int))).run Tryz.prog W = .ok (.slice (some ⟨W.heap.size, 0, none⟩) N N) (W.alloc (.cells CS 5)) := by
  obtain ⟨i, hi, hz, hs1, hby⟩ := info_parts byte_info
  refine ⟨madeCells #[.int .u8 0] (N * 1), fun k hk => ?_, fun W => ?_⟩
  · rw [madeCells_get _ _ _ (by omega)]
    have e : k % (#[.int .u8 0] : Array Value).size = 0 := by
      show k % 1 = 0
      omega
    rw [e]
    rfl
  · have h := run_make (P := Tryz.prog) W 67 5 i _ Tryz.underlying67 hi hz .i64 .i64 (N : Int) (N : Int) (by omega) (by omega) (by rw [hby]; omega) (by omega)
    rw [h, hs1]
    rfl
theorem Arg.zeros {w : World} {g N : Nat} (hN : N ≤ 1000) (hg : g < w.heap.size) (h : ∀ k, k < N → w.cell? ⟨g, k, none⟩ = some (.int .u8 0)) : Arg w (some ⟨g, 0, none⟩) N (List.replicate N 0) := by
  refine ⟨by simp, by omega, fun e => (by cases e), .inr ⟨g, 0, rfl, hg, fun k hk => ?_⟩⟩
  rw [List.length_replicate] at hk
  rw [Nat.zero_add, h k hk]
  simp [List.getD, hk, B]
end Go.Proofs.YtcmgppacipdnaaaGreatDoor

namespace Go.Proofs.YtcmgppacipdnaaaGreatDoor
open Go.RowKit

theorem Bld.num1 {w0 w : World} {B lo : Nat} {base ep : Int} {v : Value} {qs : List PRec} (h : Bld w0 w B lo base ep v qs) (x : Int) : Bld w0 (w.setCell ⟨B, 1, none⟩ (.int .i64 x)) B lo base x v qs := by
  have hb := grown_set w B 1 (.int .i64 x)
  have ol := h.ol
  have ob := h.ob
  have hs := hb.size
  have hs2 := h.os
  have h4 : ∀ k, k ≠ 1 → (w.setCell ⟨B, 1, none⟩ (.int .i64 x)).cell? ⟨B, k, none⟩ = w.cell? ⟨B, k, none⟩ := fun k hk => World.cell?_setCell_other _ _ _ _ (by simp)
  exact ⟨(h4 0 (by omega)).trans h.c0, World.cell?_setCell_same _ _ _ h.c1, (h4 2 (by omega)).trans h.c2, fun k => (World.frozen?_setCell _ _ _ _).trans (h.f k), ob, ol, by omega, h.row.keep hb (by omega), h.below.grown hb h.below.size (fun k hk => by injection hk with hk; omega)⟩

theorem row_succ' {w : World} {base : Nat} {e : TypeId} {size n : Nat} {v : Value} {xs : List Value} (h : w.ownsRow base e size v (n + 1) xs) : ∃ g cap, v = .slice (some ⟨g, 0, none⟩) (n + 1) cap := by
  rcases h.2 with ⟨_, h0⟩ | ⟨g, cap, _, e, _⟩
  · omega
  · exact ⟨g, cap, e⟩
theorem row_new (w : World) (N : Nat) (hN : N < 9) (CS : Array Value) (hcs : ∀ k, k < N → CS[k]? = some (.int .u8 0)) (t : Int) (lo : Nat) (v : Value) (hlo : lo ≤ w.heap.size) (hv : ∀ k, v.ownBlock = some k → k < w.heap.size) (W3 : World)
    (hW : W3 = ((w.alloc (.cells #[.int .u8 (97 + (N : Int))] 5)).alloc (.cells CS 5)).alloc (.cells #[.int .i64 t, .slice (some ⟨w.heap.size, 0, none⟩) 1 1, .slice (some ⟨w.heap.size + 1, 0, none⟩) N N] 80)) :
    Below w.heap.size w W3 ∧ W3.heap.size = w.heap.size + 3 ∧ (W3.cell? ⟨w.heap.size + 1 + 1, 0, none⟩ = some (.int .i64 t) ∧ W3.cell? ⟨w.heap.size + 1 + 1, 1, none⟩ = some (.slice (some ⟨w.heap.size, 0, none⟩) 1 1) ∧ W3.cell? ⟨w.heap.size + 1 + 1, 2, none⟩ = some (.slice (some ⟨w.heap.size + 1, 0, none⟩) N N)) ∧
    Txt W3 lo v (some ⟨w.heap.size, 0, none⟩) 1 [UInt8.ofNat (97 + N)] ∧ Txt W3 lo v (some ⟨w.heap.size + 1, 0, none⟩) N (List.replicate N 0) := by
  have s1 : (w.alloc (.cells #[.int .u8 (97 + (N : Int))] 5)).heap.size = w.heap.size + 1 := by simp
  have s2 : ((w.alloc (.cells #[.int .u8 (97 + (N : Int))] 5)).alloc (.cells CS 5)).heap.size = w.heap.size + 1 + 1 := by simp
  have s3 : W3.heap.size = w.heap.size + 3 := by rw [hW]; simp
  have hb : Below w.heap.size w W3 := by rw [hW]; exact balloc (balloc (balloc (Below.refl _ _) _) _) _
  have k0 : W3.cell? ⟨w.heap.size, 0, none⟩ = some (.int .u8 (97 + (N : Int))) := by
    rw [hW, World.cell?_alloc_lt _ _ _ (by rw [s2]; show w.heap.size < _; omega), World.cell?_alloc_lt _ _ _ (by rw [s1]; show w.heap.size < _; omega), World.cell?_alloc_mark]; rfl
  have k1 : ∀ k, k < N → W3.cell? ⟨w.heap.size + 1, k, none⟩ = some (.int .u8 0) := fun k hk => by
    rw [hW, World.cell?_alloc_lt _ _ _ (by rw [s2]; show w.heap.size + 1 < _; omega), cell_alloc_at _ _ _ _ _ s1.symm]; exact hcs k hk
  have k2 : ∀ k, W3.cell? ⟨w.heap.size + 1 + 1, k, none⟩ = (#[.int .i64 t, .slice (some ⟨w.heap.size, 0, none⟩) 1 1, .slice (some ⟨w.heap.size + 1, 0, none⟩) N N] : Array Value)[k]? := fun k => by
    rw [hW, cell_alloc_at _ _ _ _ _ s2.symm]
  refine ⟨hb, s3, ⟨k2 0, k2 1, k2 2⟩, ⟨⟨Nat.le_refl _, by simp, fun e => (by cases e), .inr ⟨w.heap.size, 0, rfl, by omega, fun k hk => ?_⟩⟩, fun _ b off e => ?_⟩, ⟨Arg.zeros (by omega) (by omega) k1, fun _ b off e => ?_⟩⟩
  · obtain rfl : k = 0 := by simp at hk; exact hk
    rw [Nat.zero_add, k0]
    simp [B]
    omega
  · injection e with e
    injection e with e1
    subst e1
    exact ⟨hlo, fun h => by have := hv _ h; omega⟩
  · injection e with e
    injection e with e1
    subst e1
    exact ⟨by omega, fun h => by have := hv _ h; omega⟩

namespace Rw
/-- A record of such a batch; such a batch; all of them. -/
def kv (z : Int) (k : Nat) : Nat := num (IntKind.i64.wrap (z + k)) 9
def rc (i : Nat) (z : Int) (k : Nat) : Rc.Rec := ⟨100 * (i : Int) + k, [UInt8.ofNat (97 + kv z k)], List.replicate (kv z k) 0⟩
def many (z : Int) : Nat := num z 5 + 1
def bt (at_ : Int) (i : Nat) (ev : Nat) (z : Int) : Rc.Bat := ⟨at_, 1 + ((i / ev : Nat) : Int), (List.range (many z)).map (rc i z)⟩
def go (at_ : Int) (i : Nat) (ev : Nat) : List Int → List Rc.Bat
  | [] => []
  | z :: zs => bt at_ i ev z :: go (at_ + many z) (i + 1) ev zs
theorem kv_lt (z : Int) (k : Nat) : kv z k < 9 := num_lt _ _ (by omega)
theorem many_bd (z : Int) : 1 ≤ many z ∧ many z ≤ 5 := by
  unfold many
  have := num_lt z 5 (by omega)
  omega
theorem go_len (zs : List Int) : ∀ at_ i ev, (go at_ i ev zs).length = zs.length := by
  induction zs with
  | nil => intros; rfl
  | cons z zs ih => intro at_ i ev; simp [go, ih]
/-- Each may be, is small, and lies where it does. -/
theorem go_ok (zs : List Int) : ∀ (at_ : Int) (i ev : Nat), 0 ≤ at_ → at_ + 5 * zs.length ≤ 1000000 → i + zs.length ≤ 100 → ∀ b ∈ go at_ i ev zs, Rc.Good b ∧ b.recs.length ≤ 5 ∧ ∀ r ∈ b.recs, r.k.length ≤ 64 ∧ r.v.length ≤ 512 := by
  induction zs with
  | nil => intro at_ i ev _ _ _ b hb; simp [go] at hb
  | cons z zs ih =>
    intro at_ i ev h0 h1 h2 b hb
    have hm := many_bd z
    rw [List.length_cons] at h1 h2
    rcases List.mem_cons.1 hb with rfl | hb
    · have hl : (bt at_ i ev z).recs.length = many z := by simp [bt]
      have hr : ∀ r ∈ (bt at_ i ev z).recs, -1099511627776 ≤ r.t ∧ r.t ≤ 1099511627776 ∧ r.k.length ≤ 64 ∧ r.v.length ≤ 512 := by
        intro r hr
        obtain ⟨k, hk, rfl⟩ := List.mem_map.1 hr
        have hk' := List.mem_range.1 hk
        have := kv_lt z k
        refine ⟨?_, ?_, by simp [rc], by simp [rc]; omega⟩
        · show -1099511627776 ≤ 100 * (i : Int) + (k : Int); omega
        · show 100 * (i : Int) + (k : Int) ≤ 1099511627776; omega
      have hd : i / ev ≤ i := Nat.div_le_self _ _
      refine ⟨⟨by omega, by omega, h0, ?_, ?_, ?_, hr⟩, by omega, fun r h => ⟨(hr r h).2.2.1, (hr r h).2.2.2⟩⟩
      · rw [hl]; show at_ + (many z : Int) ≤ _; omega
      · show (0 : Int) ≤ 1 + ((i / ev : Nat) : Int)
        generalize i / ev = q at *
        omega
      · show 1 + ((i / ev : Nat) : Int) ≤ _
        generalize i / ev = q at *
        omega
    · exact ih (at_ + many z) (i + 1) ev (by omega) (by omega) (by omega) b hb
end Rw

end Go.Proofs.YtcmgppacipdnaaaGreatDoor

namespace Go.Proofs.YtcmgppacipdnaaaGreatDoor.Dk

end Go.Proofs.YtcmgppacipdnaaaGreatDoor.Dk

namespace Go.Proofs.YtcmgppacipdnaaaGreatDoor.Dk

/-- What is known of a disk with power. -/
structure V (s : St) (room used calls : Int) (names dur : Dir) (since : List Mv) : Prop where
  room : s.room = room
  used : s.used = used
  calls : s.calls = calls
  names : s.names = names
  dur : s.dur = dur
  since : s.since = since
  armed : s.armed = 0
  down : s.down = false
theorem V.begin {s : St} {room used calls : Int} {names dur : Dir} {since : List Mv} (h : V s room used calls names dur since) : s.begin = s := by
  unfold St.begin; rw [if_neg (by have := h.armed; omega)]
theorem V.new (room : Int) : V (St.new room) room 0 0 (fun _ => none) (fun _ => none) [] := ⟨rfl, rfl, rfl, rfl, rfl, rfl, rfl, rfl⟩
theorem V.find {s : St} {room used calls : Int} {names dur : Dir} {since : List Mv} (h : V s room used calls names dur since) (k : Nm) (i : Nat) (hn : names k = some i) : s.find k = (none, some i) := by
  unfold St.find
  rw [h.down, h.names, hn]
  rfl
theorem on_to (k : Nm) (v : Option Nat) (f : Dir) (hk : k ≠ []) : (⟨[], k, v⟩ : Mv).on f = upd f k v := by
  unfold Mv.on
  rw [if_neg hk]
  rfl
theorem on_both (k tn : Nm) (v : Option Nat) (f : Dir) (hk : k ≠ []) (ht : tn ≠ []) : (⟨k, tn, v⟩ : Mv).on f = upd (upd f k none) tn v := by
  unfold Mv.on
  rw [if_neg ht]
  show upd (if k = [] then f else _) tn v = _
  rw [if_neg hk]
theorem valid_ne {k : Nm} (h : valid k = true) : k ≠ [] := fun e => by subst e; simp [valid] at h
theorem V.create {s : St} {room used calls : Int} {names dur : Dir} {since : List Mv} (h : V s room used calls names dur since) (k : Nm) (i : Nat) (hv : valid k = true) (hn : names k = none) :
    ∃ s', s.create k i = (none, s') ∧ V s' room used (calls + 1) (upd names k (some i)) dur (since ++ [⟨[], k, some i⟩]) ∧ s'.files i = ⟨calls, [], 0⟩ ∧ ∀ x, x ≠ i → s'.files x = s.files x := by
  refine ⟨(s.setFile i ⟨s.calls, [], 0⟩).doMove ⟨[], k, some i⟩, ?_, ⟨h.room, h.used, by show s.calls + 1 = _; rw [h.calls], ?_, h.dur, by show s.since ++ _ = _; rw [h.since], h.armed, h.down⟩, ?_, fun x hx => setFile_other _ _ _ _ hx⟩
  · unfold St.create
    rw [h.begin, if_neg (by rw [h.down]; simp), if_neg (by rw [hv]; simp), if_neg (by rw [h.names, hn]; simp)]
  · show Mv.on _ s.names = _
    rw [on_to _ _ _ (valid_ne hv), h.names]
  · show (s.setFile i ⟨s.calls, [], 0⟩).files i = _
    rw [setFile_same, h.calls]
theorem V.append {s : St} {room used calls : Int} {names dur : Dir} {since : List Mv} (h : V s room used calls names dur since) (k : Nm) (i : Nat) (b : Nm) (hn : names k = some i) (hr : (b.length : Int) ≤ room - used) :
    ∃ s', s.append k b = (none, s') ∧ V s' room (used + b.length) (calls + 1) names dur since ∧ s'.files i = { s.files i with bytes := (s.files i).bytes ++ b } ∧ ∀ x, x ≠ i → s'.files x = s.files x := by
  refine ⟨{ s.setFile i { s.files i with bytes := (s.files i).bytes ++ b } with used := s.used + b.length, calls := s.calls + 1 }, ?_, ⟨h.room, by show s.used + _ = _; rw [h.used], by show s.calls + 1 = _; rw [h.calls], h.names, h.dur, h.since, h.armed, h.down⟩, setFile_same _ _ _, fun x hx => setFile_other _ _ _ _ hx⟩
  unfold St.append
  rw [h.begin, h.find k i hn]
  simp only
  rw [if_neg (by rw [h.room, h.used]; omega)]
theorem V.cut {s : St} {room used calls : Int} {names dur : Dir} {since : List Mv} (h : V s room used calls names dur since) (k : Nm) (i : Nat) (n : Nat) (hn : names k = some i) (hr : n ≤ (s.files i).bytes.length) :
    ∃ s', s.cut k n = (none, s') ∧ V s' room (used - (((s.files i).bytes.length : Int) - n)) (calls + 1) names dur since ∧ s'.files i = (s.files i).keep n ∧ ∀ x, x ≠ i → s'.files x = s.files x := by
  refine ⟨{ s.setFile i ((s.files i).keep n) with used := s.used - (((s.files i).bytes.length : Int) - n), calls := s.calls + 1 }, ?_, ⟨h.room, by show s.used - _ = _; rw [h.used], by show s.calls + 1 = _; rw [h.calls], h.names, h.dur, h.since, h.armed, h.down⟩, setFile_same _ _ _, fun x hx => setFile_other _ _ _ _ hx⟩
  unfold St.cut
  rw [h.begin, h.find k i hn]
  simp only
  rw [if_neg (by omega)]
  rfl
theorem V.sync {s : St} {room used calls : Int} {names dur : Dir} {since : List Mv} (h : V s room used calls names dur since) (k : Nm) (i : Nat) (hn : names k = some i) :
    ∃ s', s.sync k = (none, s') ∧ V s' room used (calls + 1) names dur since ∧ s'.files i = { s.files i with synced := (s.files i).bytes.length } ∧ ∀ x, x ≠ i → s'.files x = s.files x := by
  refine ⟨{ s.setFile i ((s.files i).keep (s.files i).bytes.length) with calls := s.calls + 1 }, ?_, ⟨h.room, h.used, by show s.calls + 1 = _; rw [h.calls], h.names, h.dur, h.since, h.armed, h.down⟩, ?_, fun x hx => setFile_other _ _ _ _ hx⟩
  · unfold St.sync
    rw [h.begin, h.find k i hn]
  · show (s.setFile i _).files i = _
    rw [setFile_same]
    simp [File.keep]
theorem V.syncDir {s : St} {room used calls : Int} {names dur : Dir} {since : List Mv} (h : V s room used calls names dur since) :
    ∃ s', s.syncDir = (none, s') ∧ V s' room used (calls + 1) names (ons since dur) [] ∧ ∀ x, s'.files x = s.files x := by
  refine ⟨{ s.settle s.since.length with calls := s.calls + 1 }, ?_, ⟨h.room, h.used, by show s.calls + 1 = _; rw [h.calls], h.names, ?_, rfl, h.armed, h.down⟩, fun x => rfl⟩
  · unfold St.syncDir
    rw [h.begin, if_neg (by rw [h.down]; simp)]
  · show ons (s.since.take s.since.length) s.dur = _
    rw [List.take_length, h.since, h.dur]
theorem V.rename {s : St} {room used calls : Int} {names dur : Dir} {since : List Mv} (h : V s room used calls names dur since) (k tn : Nm) (i : Nat) (hk : k ≠ []) (hv : valid tn = true) (hn : names k = some i) :
    ∃ s', s.rename k tn = (none, s') ∧ V s' room (match names tn with | none => used | some o => if o = i then used else used - (s.files o).bytes.length) (calls + 1) (upd (upd names k none) tn (some i)) dur (since ++ [⟨k, tn, some i⟩]) ∧ ∀ x, s'.files x = s.files x := by
  refine ⟨{ s with used := match s.names tn with | none => s.used | some o => if o = i then s.used else s.used - (s.files o).bytes.length }.doMove ⟨k, tn, some i⟩, ?_, ⟨h.room, ?_, by show s.calls + 1 = _; rw [h.calls], ?_, h.dur, by show s.since ++ _ = _; rw [h.since], h.armed, h.down⟩, fun x => rfl⟩
  · unfold St.rename
    rw [h.begin, h.find k i hn]
    simp only
    rw [if_neg (by rw [hv]; simp)]
    rfl
  · show (match s.names tn with | none => s.used | some o => if o = i then s.used else s.used - (s.files o).bytes.length) = _
    rw [h.names, h.used]
  · show (⟨k, tn, some i⟩ : Mv).on s.names = _
    rw [on_both _ _ _ _ hk (valid_ne hv), h.names]
theorem V.len {s : St} {room used calls : Int} {names dur : Dir} {since : List Mv} (h : V s room used calls names dur since) (k : Nm) (i : Nat) (hn : names k = some i) : s.lenOf k = ((s.files i).bytes.length : Int) ∧ s.syncedOf k = ((s.files i).synced : Int) := by
  unfold St.lenOf St.syncedOf
  rw [h.find k i hn]
  exact ⟨rfl, rfl⟩
theorem V.read {s : St} {room used calls : Int} {names dur : Dir} {since : List Mv} (h : V s room used calls names dur since) (k : Nm) (i n : Nat) (hn : names k = some i) (hr : n ≤ (s.files i).bytes.length) : s.readOf k 0 n = (none, (s.files i).bytes.take n) := by
  unfold St.readOf
  rw [h.find k i hn]
  simp only
  rw [if_neg (by omega)]
  simp
end Go.Proofs.YtcmgppacipdnaaaGreatDoor.Dk

namespace Go.Proofs.YtcmgppacipdnaaaGreatDoor
namespace Rc
theorem eT_le (l : List UInt8) (K : Nat) (h : l.length ≤ K) (hK : K ≤ 512) : (eT l).length ≤ K + 10 := by
  have := eT_len l (by omega)
  omega
theorem recB_le (last : Int) (r : Rec) (K V : Nat) (hK : K ≤ 64) (hV : V ≤ 512) (h : -1099511627776 ≤ r.t ∧ r.t ≤ 1099511627776 ∧ r.k.length ≤ K ∧ r.v.length ≤ V) (h2 : -1099511627776 ≤ last ∧ last ≤ 1099511627776) : (recB last r).length ≤ 30 + K + V := by
  unfold recB
  rw [List.length_append, List.length_append]
  have h1 : (Vi.put (Vi.zz (r.t - last))).length ≤ 10 := Vi.size_le10 (Vi.zz_lt _ (by omega) (by omega))
  have := eT_le r.k K h.2.2.1 (by omega)
  have := eT_le r.v V h.2.2.2 hV
  omega
theorem recsB_le (K V : Nat) (hK : K ≤ 64) (hV : V ≤ 512) (rs : List Rec) : ∀ last, (∀ r ∈ rs, -1099511627776 ≤ r.t ∧ r.t ≤ 1099511627776 ∧ r.k.length ≤ K ∧ r.v.length ≤ V) → -1099511627776 ≤ last ∧ last ≤ 1099511627776 → (recsB last rs).length ≤ (30 + K + V) * rs.length := by
  induction rs with
  | nil => intro last _ _; simp [recsB]
  | cons a rs ih =>
    intro last h h2
    have ha := h a List.mem_cons_self
    have h3 := recB_le last a K V hK hV ha h2
    have h4 := ih a.t (fun r hr => h r (List.mem_cons_of_mem _ hr)) ⟨ha.1, ha.2.1⟩
    simp only [recsB, List.length_append, List.length_cons, Nat.mul_add, Nat.mul_one]
    omega
theorem bytes_le (b : Bat) (g : Good b) (K V : Nat) (hK : K ≤ 64) (hV : V ≤ 512) (h : ∀ r ∈ b.recs, r.k.length ≤ K ∧ r.v.length ≤ V) : (bytes b).length ≤ 32 + (30 + K + V) * b.recs.length := by
  have h1 := recsB_le K V hK hV b.recs (Rc.t0 b) (fun r hr => ⟨(g.recs r hr).1, (g.recs r hr).2.1, h r hr⟩) g.t0
  have h2 := g.t0
  have h3 : (Vi.put (Vi.zz (Rc.t0 b))).length ≤ 10 := Vi.size_le10 (Vi.zz_lt _ (by omega) (by omega))
  have h4 := bytes_len b
  have h5 : (body b).length = (hd b).length + (Vi.put (Vi.zz (Rc.t0 b))).length + (recsB (Rc.t0 b) b.recs).length := by unfold body; rw [List.length_append, List.length_append]
  rw [hd_len] at h5
  omega
end Rc
namespace Rw
theorem bt_small (at_ : Int) (i ev : Nat) (z : Int) (g : Rc.Good (bt at_ i ev z)) : (Rc.bytes (bt at_ i ev z)).length ≤ 300 := by
  have h := Rc.bytes_le (bt at_ i ev z) g 1 8 (by omega) (by omega) (fun r hr => by
    obtain ⟨k, hk, rfl⟩ := List.mem_map.1 hr
    have := kv_lt z k
    exact ⟨by simp [rc], by simp [rc]; omega⟩)
  have hl : (bt at_ i ev z).recs.length = many z := by simp [bt]
  have hm := many_bd z
  rw [hl] at h
  generalize many z = m at *
  omega
theorem go_small (zs : List Int) : ∀ (at_ : Int) (i ev : Nat), (∀ b ∈ go at_ i ev zs, Rc.Good b) → ∀ b ∈ go at_ i ev zs, (Rc.bytes b).length ≤ 300 := by
  induction zs with
  | nil => intro at_ i ev _ b hb; simp [go] at hb
  | cons z zs ih =>
    intro at_ i ev hg b hb
    rcases List.mem_cons.1 hb with rfl | hb
    · exact bt_small _ _ _ _ (hg _ List.mem_cons_self)
    · exact ih _ _ _ (fun x hx => hg x (List.mem_cons_of_mem _ hx)) b hb
/-- They follow each other. -/
theorem go_chain (zs : List Int) : ∀ (at_ : Int) (i ev : Nat) (s : Sg.St), (Sg.last s.edges).off = at_ → (Sg.last s.edges).ep ≤ 1 + ((i / ev : Nat) : Int) → Sg.Chain s (go at_ i ev zs) := by
  induction zs with
  | nil => intro at_ i ev s _ _; exact trivial
  | cons z zs ih =>
    intro at_ i ev s h1 h2
    refine ⟨?_, ih _ _ _ _ ?_ ?_⟩
    · unfold Sg.follows
      rw [h1]
      have e1 : (bt at_ i ev z).base = at_ := rfl
      have e2 : (bt at_ i ev z).epoch = 1 + ((i / ev : Nat) : Int) := rfl
      rw [e1, e2, decide_eq_true h2]
      simp
    · rw [Sg.add_last]
      show at_ + ((bt at_ i ev z).recs.length : Int) = _
      simp [bt]
    · rw [Sg.add_last]
      show 1 + ((i / ev : Nat) : Int) ≤ _
      have h3 : i / ev ≤ (i + 1) / ev := Nat.div_le_div_right (by omega)
      generalize i / ev = x at *
      generalize (i + 1) / ev = y at *
      omega
end Rw
theorem flat_len_le {α β : Type} (f : α → List β) (N : Nat) : ∀ l : List α, (∀ b ∈ l, (f b).length ≤ N) → (l.flatMap f).length ≤ N * l.length := by
  intro l
  induction l with
  | nil => intro _; simp
  | cons a l ih =>
    intro h
    have h1 := h a List.mem_cons_self
    have h2 := ih fun b hb => h b (List.mem_cons_of_mem _ hb)
    rw [List.flatMap_cons, List.length_append, List.length_cons, Nat.mul_add, Nat.mul_one]
    omega

namespace Dk
/-- A disk with its power, by its names, which are kept. -/
def Has (d : St) (room used : Int) (names : Dir) : Prop := ∃ calls, V d room used calls names names []
section
variable {d : St} {room used : Int} {names : Dir}
theorem Has.new (room : Int) : Has (St.new room) room 0 (fun _ => none) := ⟨_, V.new room⟩
theorem Has.find (h : Has d room used names) (k : Nm) (i : Nat) (hn : names k = some i) : d.find k = (none, some i) := by
  obtain ⟨_, v⟩ := h; exact v.find k i hn
theorem Has.len (h : Has d room used names) (k : Nm) (i : Nat) (hn : names k = some i) : d.lenOf k = ((d.files i).bytes.length : Int) := by
  obtain ⟨_, v⟩ := h; exact (v.len k i hn).1
theorem Has.read (h : Has d room used names) (k : Nm) (i n : Nat) (hn : names k = some i) (hr : (d.files i).bytes.length = n) : d.readOf k 0 n = (none, (d.files i).bytes) := by
  obtain ⟨_, v⟩ := h
  rw [v.read k i n hn (by omega), ← hr, List.take_length]
theorem Has.append (h : Has d room used names) (k : Nm) (i : Nat) (b : Nm) (hn : names k = some i) (hr : (b.length : Int) ≤ room - used) :
    ∃ d', d.append k b = (none, d') ∧ Has d' room (used + b.length) names ∧ (d'.files i).bytes = (d.files i).bytes ++ b ∧ ∀ x, x ≠ i → d'.files x = d.files x := by
  obtain ⟨_, v⟩ := h
  obtain ⟨d', e, v', f, g⟩ := v.append k i b hn hr
  exact ⟨d', e, ⟨_, v'⟩, by rw [f], g⟩
theorem Has.sync (h : Has d room used names) (k : Nm) (i : Nat) (hn : names k = some i) :
    ∃ d', d.sync k = (none, d') ∧ Has d' room used names ∧ (d'.files i).bytes = (d.files i).bytes ∧ ∀ x, x ≠ i → d'.files x = d.files x := by
  obtain ⟨_, v⟩ := h
  obtain ⟨d', e, v', f, g⟩ := v.sync k i hn
  exact ⟨d', e, ⟨_, v'⟩, by rw [f], g⟩
/-- The three calls of a segment that begins. -/
theorem Has.begin_ (h : Has d room used names) (k : Nm) (hv : valid k = true) (hn : names k = none) :
    ∃ d1 d2 d3 : Nat → St, (∀ x, d.create k x = (none, d1 x)) ∧ (∀ x, (d1 x).sync k = (none, d2 x)) ∧ (∀ x, (d2 x).syncDir = (none, d3 x)) ∧
      ∀ x, Has (d3 x) room used (upd names k (some x)) ∧ ((d3 x).files x).bytes = [] ∧ ∀ y, y ≠ x → (d3 x).files y = d.files y := by
  obtain ⟨calls, v⟩ := h
  have hup : ∀ x, upd names k (some x) k = some x := fun x => upd_same _ _ _
  have key : ∀ x, ∃ t : St × St × St, d.create k x = (none, t.1) ∧ t.1.sync k = (none, t.2.1) ∧ t.2.1.syncDir = (none, t.2.2) ∧ Has t.2.2 room used (upd names k (some x)) ∧ (t.2.2.files x).bytes = [] ∧ ∀ y, y ≠ x → t.2.2.files y = d.files y := fun x => by
    obtain ⟨t1, e1, v1, f1, g1⟩ := v.create k x hv hn
    obtain ⟨t2, e2, v2, f2, g2⟩ := v1.sync k x (hup x)
    obtain ⟨t3, e3, v3, f3⟩ := v2.syncDir
    have hd : ons ([] ++ [⟨[], k, some x⟩]) names = upd names k (some x) := by rw [List.nil_append]; exact on_to k (some x) names (valid_ne hv)
    rw [hd] at v3
    exact ⟨(t1, t2, t3), e1, e2, e3, ⟨_, v3⟩, by rw [f3, f2, f1], fun y hy => by rw [f3, g2 y hy, g1 y hy]⟩
  exact ⟨fun x => (key x).choose.1, fun x => (key x).choose.2.1, fun x => (key x).choose.2.2, fun x => (key x).choose_spec.1, fun x => (key x).choose_spec.2.1, fun x => (key x).choose_spec.2.2.1, fun x => (key x).choose_spec.2.2.2⟩
theorem Has.cut (h : Has d room used names) (k : Nm) (i n : Nat) (hn : names k = some i) (hr : n ≤ (d.files i).bytes.length) :
    ∃ d' used', d.cut k n = (none, d') ∧ Has d' room used' names ∧ used' ≤ used ∧ d'.files i = (d.files i).keep n ∧ ∀ x, x ≠ i → d'.files x = d.files x := by
  obtain ⟨_, v⟩ := h
  obtain ⟨d', e, v', f, g⟩ := v.cut k i n hn hr
  exact ⟨d', _, e, ⟨_, v'⟩, by omega, f, g⟩
theorem Has.synced (h : Has d room used names) (k : Nm) (i : Nat) (hn : names k = some i) : d.syncedOf k = ((d.files i).synced : Int) := by
  obtain ⟨_, v⟩ := h; exact (v.len k i hn).2
end
end Dk
/-- A segment of these batches, and its disk. -/
structure Md (d : Dk.St) (s : Sg.St) (room used : Int) (names : Dk.Dir) (s0 : Sg.St) (x : Nat) (bs : List Rc.Bat) : Prop where
  has : Dk.Has d room used names
  one : s0.edges.length = 1
  zero : (Sg.last s0.edges).pos = 0
  nm : names s0.file = some x
  bytes : (d.files x).bytes = bs.flatMap Rc.bytes
  seg : s = Sg.adds s0 bs
  chain : Sg.Chain s0 bs
  good : ∀ b ∈ bs, Rc.Good b
section
variable {d : Dk.St} {s s0 : Sg.St} {room used : Int} {names : Dk.Dir} {x : Nat} {bs : List Rc.Bat}
theorem Md.file (h : Md d s room used names s0 x bs) : s.file = s0.file := by rw [h.seg]; exact (Sg.adds_file bs s0).1
theorem Md.len (h : Md d s room used names s0 x bs) : s.edges.length = bs.length + 1 := by rw [h.seg, Sg.adds_len, h.one]; omega
theorem Md.pos (h : Md d s room used names s0 x bs) : (Sg.last s.edges).pos = ((bs.flatMap Rc.bytes).length : Int) := by rw [h.seg, Sg.adds_pos, h.zero]; omega
theorem Md.add (h : Md d s room used names s0 x bs) (b : Rc.Bat) (hg : Rc.Good b) (hf : Sg.follows s.edges b = true) (hr : ((Rc.bytes b).length : Int) ≤ room - used) :
    ∃ d', sgApp d s b = (none, d', s.add b (Rc.bytes b).length) ∧ Md d' (s.add b (Rc.bytes b).length) room (used + (Rc.bytes b).length) names s0 x (bs ++ [b]) := by
  obtain ⟨d', e, hh, hb, -⟩ := h.has.append s.file x (Rc.bytes b) (by rw [h.file]; exact h.nm) hr
  refine ⟨d', ?_, hh, h.one, h.zero, h.nm, ?_, ?_, ?_, fun y hy => ?_⟩
  · unfold sgApp
    rw [if_neg (by rw [(Rc.bad_good b).2 hg]; simp), if_neg (by rw [hf]; simp), e, if_pos rfl]
  · rw [hb, h.bytes, List.flatMap_append]; simp
  · rw [h.seg, Sg.adds_append]; rfl
  · rw [Sg.Chain.append]
    exact ⟨h.chain, by rw [← h.seg]; exact hf, trivial⟩
  · rcases List.mem_append.1 hy with hy | hy
    · exact h.good y hy
    · rw [List.mem_singleton] at hy; subst hy; exact hg
end
/-- The next of a chain follows. -/
theorem chain_next {s0 : Sg.St} {cs : List Rc.Bat} (h : Sg.Chain s0 cs) (k : Nat) (hk : k < cs.length) : Sg.follows (Sg.adds s0 (cs.take k)).edges cs[k] = true := by
  have e : cs = cs.take k ++ cs.drop k := (List.take_append_drop _ _).symm
  rw [e] at h
  have h2 := (Sg.Chain.append.1 h).2
  rw [List.drop_eq_getElem_cons hk] at h2
  exact h2.1
theorem seg_valid {base : Int} (h : 0 ≤ base ∧ base ≤ 1099511627776) : Dk.valid (Nm.seg base) = true := by
  have e : Nm.seg base = Nm.segN base.toNat := by unfold Nm.seg; rw [if_pos (by simp [Nm.right]; omega)]
  have hall : (Nm.segN base.toNat).all Dk.okByte = true := by
    rw [List.all_eq_true]
    intro c hc
    unfold Nm.segN at hc
    rcases List.mem_append.1 hc with hc | hc
    · simp only [Nm.log, List.mem_cons, List.not_mem_nil, or_false] at hc
      rcases hc with rfl | rfl | rfl | rfl <;> decide
    · have hd := Nm.dgs_digit 13 _ c hc
      unfold Nm.digit at hd
      have h1 : (48 : UInt8) ≤ c := UInt8.le_iff_toNat_le.2 hd.1
      have h2 : c ≤ (57 : UInt8) := UInt8.le_iff_toNat_le.2 hd.2
      simp [Dk.okByte, h1, h2]
  rw [e]
  unfold Dk.valid
  rw [hall, Nm.segN_length]
  rfl
end Go.Proofs.YtcmgppacipdnaaaGreatDoor
