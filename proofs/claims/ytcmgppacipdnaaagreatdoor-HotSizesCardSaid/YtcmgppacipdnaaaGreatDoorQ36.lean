/-
  Package seg: the order of the edges; which of them a test counts; when a read finds what it is to be told.
  make of records and of bytes: what lies there.
  The walk through the statements' own Row: batches that follow one another.
  What a crash leaves, plainly: which files have a name, what of each is kept.
  A disk that has power and will have it: what each call makes of it, plainly.
-/
import Derived.Test.YtcmgppacipdnaaaGreatDoorQ35
import Derived.Test.YtcmgppacipdnaaaGreatDoorQ34
import Derived.Test.YtcmgppacipdnaaaGreatDoorQ12
import Derived.Test.YtcmgppacipdnaaaGreatDoorQ32
import Derived.Test.YtcmgppacipdnaaaGreatDoorQ22
import Derived.Test.YtcmgppacipdnaaaGreatDoorQ24
namespace Go.Proofs.YtcmgppacipdnaaaGreatDoor
namespace Sg
theorem flat_take_le (bs : List Rc.Bat) (a b : Nat) (h : a ≤ b) : ((bs.take a).flatMap Rc.bytes).length ≤ ((bs.take b).flatMap Rc.bytes).length := by
  have e : bs.take b = bs.take a ++ (bs.drop a).take (b - a) := by
    conv => lhs; rw [show b = a + (b - a) by omega, List.take_add]
  rw [e, List.flatMap_append, List.length_append]
  omega
theorem pos_mono (s : St) (h1 : s.edges.length = 1) (h0 : (last s.edges).pos = 0) (bs : List Rc.Bat) (a b : Nat) (hab : a ≤ b) (hb : b < (adds s bs).edges.length) : (ed (adds s bs).edges a).pos ≤ (ed (adds s bs).edges b).pos := by
  rw [adds_len, h1] at hb
  rw [ed_pos s h1 h0 bs a (by omega), ed_pos s h1 h0 bs b (by omega)]
  have := flat_take_le bs a b hab
  omega
theorem off_mono (s : St) (h1 : s.edges.length = 1) (bs : List Rc.Bat) (hc : Chain s bs) (a b : Nat) (hab : a ≤ b) (hb : b < (adds s bs).edges.length) : (ed (adds s bs).edges a).off ≤ (ed (adds s bs).edges b).off := by
  rw [adds_len, h1] at hb
  obtain ⟨n, rfl⟩ : ∃ n, b = a + n := ⟨b - a, by omega⟩
  clear hab
  induction n with
  | zero => exact Int.le_refl _
  | succ n ih =>
    have h := ih (by omega)
    have e1 := ed_base s h1 bs hc (a + n) (by omega)
    have e2 := ed_next s h1 bs (a + n) (by omega)
    rw [show a + (n + 1) = a + n + 1 by omega, e2]
    omega
/-- A test that holds from the k-th edge on. -/
theorem cnt_eq (l : List Edge) (P : Edge → Bool) (k : Nat) (hk : k ≤ l.length) (h1 : ∀ i, i < k → P (ed l i) = false) (h2 : ∀ i, k ≤ i → i < l.length → P (ed l i) = true) : cnt l P = k := by
  unfold cnt
  have e : List.range l.length = List.range k ++ (List.range (l.length - k)).map (k + ·) := by
    conv => lhs; rw [show l.length = k + (l.length - k) by omega, List.range_add]
  rw [e, List.countP_append]
  have a1 : (List.range k).countP (fun i => !P (ed l i)) = k := by
    have h := List.countP_eq_length (p := fun i => !P (ed l i)) (l := List.range k)
    rw [List.length_range] at h
    exact h.2 fun i hi => by rw [h1 i (List.mem_range.1 hi)]; rfl
  have a2 : ((List.range (l.length - k)).map (k + ·)).countP (fun i => !P (ed l i)) = 0 := by
    refine List.countP_eq_zero.2 fun i hi => ?_
    obtain ⟨j, hj, rfl⟩ := List.mem_map.1 hi
    have := List.mem_range.1 hj
    rw [h2 (k + j) (by omega) (by omega)]
    simp
  rw [a1, a2, Nat.add_zero]
end Sg

/-- When Read finds what it is to be told: the batch that has the offset, and how far the bytes go. -/
theorem read_adds (d : Dk.St) (s : Sg.St) (h1 : s.edges.length = 1) (h0 : (Sg.last s.edges).pos = 0) (bs : List Rc.Bat) (hc : Sg.Chain s bs) (hg : ∀ b ∈ bs, Rc.Good b) (hl : (bs.flatMap Rc.bytes).length ≤ 1000000) (x : Nat) (hf : d.find s.file = (none, some x)) (hb : (d.files x).bytes = bs.flatMap Rc.bytes)
    (o most : Int) (k q f fin : Nat) (hk : k < bs.length) (hq : o = bs[k].base + q) (hql : q < bs[k].recs.length) (hbad : Rc.bad (cutB bs[k] o q) = 0) (hsz : (Rc.bytes (cutB bs[k] o q)).length ≤ 1000000)
    (hf1 : Sg.cnt (Sg.adds s bs).edges (fun e => decide (most < e.pos - ((Sg.ed (Sg.adds s bs).edges (k + 1)).pos - (Rc.bytes (cutB bs[k] o q)).length))) = f) (hfin : (fin : Int) = max ((k : Int) + 1) ((f : Int) - 1)) (hfl : fin ≤ bs.length) :
    ReadH d (Sg.adds s bs) o most k q f fin bs[k] ((bs.drop (k + 1)).take (fin - (k + 1))) := by
  have hlen : (Sg.adds s bs).edges.length = bs.length + 1 := by rw [Sg.adds_len, h1]; omega
  have hom := Sg.off_mono s h1 bs hc
  have e0 := Sg.ed_base s h1 bs hc k hk
  have e1 := Sg.ed_next s h1 bs k hk
  have hlast : (Sg.last (Sg.adds s bs).edges).off = (Sg.ed (Sg.adds s bs).edges bs.length).off := by unfold Sg.last; rw [hlen]; rfl
  have m0 := hom 0 k (Nat.zero_le _) (by omega)
  have m1 := hom (k + 1) bs.length (by omega) (by omega)
  have hk1 : k + 1 ≤ fin := by omega
  have hone : (bs.drop k).take (k + 1 - k) = [bs[k]] := by
    rw [show k + 1 - k = 1 by omega, List.drop_eq_getElem_cons hk]
    rfl
  have hsub : ∀ i j, (((bs.drop i).take (j - i)).flatMap Rc.bytes).length ≤ (bs.flatMap Rc.bytes).length := fun i j => by
    have e : bs = bs.take i ++ ((bs.drop i).take (j - i) ++ (bs.drop i).drop (j - i)) := by rw [List.take_append_drop, List.take_append_drop]
    conv => rhs; rw [e, List.flatMap_append, List.flatMap_append, List.length_append, List.length_append]
    omega
  have hmem : ∀ i j, ∀ b ∈ (bs.drop i).take (j - i), Rc.Good b := fun i j b hb => hg b (List.mem_of_mem_drop (List.mem_of_mem_take hb))
  refine ⟨by omega, by rw [hlast]; omega, hom, Sg.pos_mono s h1 h0 bs, ?_, ?_, ?_, hq, hql, hbad, hsz, hf1, hfin, ?_, ?_⟩
  · refine Sg.cnt_eq _ _ (k + 1) (by omega) (fun i hi => decide_eq_false ?_) (fun i hi hil => decide_eq_true ?_)
    · have := hom i k (by omega) (by omega)
      omega
    · have := hom (k + 1) i hi hil
      omega
  · refine ⟨_, raw_adds d s h1 h0 bs x hf hb k (k + 1) (by omega) (by omega), ?_, by have := hsub k (k + 1); omega⟩
    rw [Sg.all_bytes _ (hmem k (k + 1)), hone]
  · have h := lies_adds s h1 bs hc k (k + 1) (by omega) (by omega)
    rwa [hone] at h
  · exact ⟨_, raw_adds d s h1 h0 bs x hf hb (k + 1) fin hk1 hfl, Sg.all_bytes _ (hmem (k + 1) fin), by have := hsub (k + 1) fin; omega⟩
  · exact lies_adds s h1 bs hc (k + 1) fin hk1 hfl
end Go.Proofs.YtcmgppacipdnaaaGreatDoor

namespace Go.Proofs.YtcmgppacipdnaaaGreatDoor
open Go.RowKit

theorem cell_alloc_at (w : World) (C : Array Value) (t : TypeId) (n j : Nat) (hn : n = w.heap.size) : (w.alloc (.cells C t)).cell? ⟨n, j, none⟩ = C[j]? := by
  subst hn; exact World.cell?_alloc_mark _ _ _ _ _
theorem madeCells_get (z : Array Value) (n i : Nat) (h : i < n) : (madeCells z n)[i]? = some (z[i % z.size]!) := by
  unfold madeCells
  rw [Array.getElem?_map, Array.getElem?_range]
  simp [h]
theorem make_bytes (N : Nat) (hN : N ≤ 1000) : ∃ CS : Array Value, (∀ k, k < N → CS[k]? = some (.int .u8 0)) ∧
    ∀ W, (Instr.makeSlice 67 (.int .i64 (N : Int)) (.int .i64 (N : Int))).run Tryz.prog W = .ok (.slice (some ⟨W.heap.size, 0, none⟩) N N) (W.alloc (.cells CS 5)) := by
  obtain ⟨i, hi, hz, hs1, hby⟩ := info_parts byte_info
  refine ⟨madeCells #[.int .u8 0] (N * 1), fun k hk => ?_, fun W => ?_⟩
  · rw [madeCells_get _ _ _ (by omega)]
    have e : k % (#[.int .u8 0] : Array Value).size = 0 := by
      show k % 1 = 0
      omega
    rw [e]
    rfl
  · have h := run_make (P := Tryz.prog) W 67 5 i _ Tryz.underlying67 hi hz .i64 .i64 (N : Int) (N : Int) (by omega) (by omega) (by rw [hby]; omega) (by omega)
    rw [h, hs1]
    rfl
theorem Arg.zeros {w : World} {g N : Nat} (hN : N ≤ 1000) (hg : g < w.heap.size) (h : ∀ k, k < N → w.cell? ⟨g, k, none⟩ = some (.int .u8 0)) : Arg w (some ⟨g, 0, none⟩) N (List.replicate N 0) := by
  refine ⟨by simp, by omega, fun e => (by cases e), .inr ⟨g, 0, rfl, hg, fun k hk => ?_⟩⟩
  rw [List.length_replicate] at hk
  rw [Nat.zero_add, h k hk]
  simp [List.getD, hk, B]
end Go.Proofs.YtcmgppacipdnaaaGreatDoor

namespace Go.Proofs.YtcmgppacipdnaaaGreatDoor
open Go.RowKit

theorem Bld.num1 {w0 w : World} {B lo : Nat} {base ep : Int} {v : Value} {qs : List PRec} (h : Bld w0 w B lo base ep v qs) (x : Int) : Bld w0 (w.setCell ⟨B, 1, none⟩ (.int .i64 x)) B lo base x v qs := by
  have hb := grown_set w B 1 (.int .i64 x)
  have ol := h.ol
  have ob := h.ob
  have hs := hb.size
  have hs2 := h.os
  have h4 : ∀ k, k ≠ 1 → (w.setCell ⟨B, 1, none⟩ (.int .i64 x)).cell? ⟨B, k, none⟩ = w.cell? ⟨B, k, none⟩ := fun k hk => World.cell?_setCell_other _ _ _ _ (by simp)
  exact ⟨(h4 0 (by omega)).trans h.c0, World.cell?_setCell_same _ _ _ h.c1, (h4 2 (by omega)).trans h.c2, fun k => (World.frozen?_setCell _ _ _ _).trans (h.f k), ob, ol, by omega, h.row.keep hb (by omega), h.below.grown hb h.below.size (fun k hk => by injection hk with hk; omega)⟩

theorem row_succ' {w : World} {base : Nat} {e : TypeId} {size n : Nat} {v : Value} {xs : List Value} (h : w.ownsRow base e size v (n + 1) xs) : ∃ g cap, v = .slice (some ⟨g, 0, none⟩) (n + 1) cap := by
  rcases h.2 with ⟨_, h0⟩ | ⟨g, cap, _, e, _⟩
  · omega
  · exact ⟨g, cap, e⟩
theorem row_new (w : World) (N : Nat) (hN : N < 9) (CS : Array Value) (hcs : ∀ k, k < N → CS[k]? = some (.int .u8 0)) (t : Int) (lo : Nat) (v : Value) (hlo : lo ≤ w.heap.size) (hv : ∀ k, v.ownBlock = some k → k < w.heap.size) (W3 : World)
    (hW : W3 = ((w.alloc (.cells #[.int .u8 (97 + (N : Int))] 5)).alloc (.cells CS 5)).alloc (.cells #[.int .i64 t, .slice (some ⟨w.heap.size, 0, none⟩) 1 1, .slice (some ⟨w.heap.size + 1, 0, none⟩) N N] 80)) :
    Below w.heap.size w W3 ∧ W3.heap.size = w.heap.size + 3 ∧ (W3.cell? ⟨w.heap.size + 1 + 1, 0, none⟩ = some (.int .i64 t) ∧ W3.cell? ⟨w.heap.size + 1 + 1, 1, none⟩ = some (.slice (some ⟨w.heap.size, 0, none⟩) 1 1) ∧ W3.cell? ⟨w.heap.size + 1 + 1, 2, none⟩ = some (.slice (some ⟨w.heap.size + 1, 0, none⟩) N N)) ∧
    Txt W3 lo v (some ⟨w.heap.size, 0, none⟩) 1 [UInt8.ofNat (97 + N)] ∧ Txt W3 lo v (some ⟨w.heap.size + 1, 0, none⟩) N (List.replicate N 0) := by
  have s1 : (w.alloc (.cells #[.int .u8 (97 + (N : Int))] 5)).heap.size = w.heap.size + 1 := by simp
  have s2 : ((w.alloc (.cells #[.int .u8 (97 + (N : Int))] 5)).alloc (.cells CS 5)).heap.size = w.heap.size + 1 + 1 := by simp
  have s3 : W3.heap.size = w.heap.size + 3 := by rw [hW]; simp
  have hb : Below w.heap.size w W3 := by rw [hW]; exact balloc (balloc (balloc (Below.refl _ _) _) _) _
  have k0 : W3.cell? ⟨w.heap.size, 0, none⟩ = some (.int .u8 (97 + (N : Int))) := by
    rw [hW, World.cell?_alloc_lt _ _ _ (by rw [s2]; show w.heap.size < _; omega), World.cell?_alloc_lt _ _ _ (by rw [s1]; show w.heap.size < _; omega), World.cell?_alloc_mark]; rfl
  have k1 : ∀ k, k < N → W3.cell? ⟨w.heap.size + 1, k, none⟩ = some (.int .u8 0) := fun k hk => by
    rw [hW, World.cell?_alloc_lt _ _ _ (by rw [s2]; show w.heap.size + 1 < _; omega), cell_alloc_at _ _ _ _ _ s1.symm]; exact hcs k hk
  have k2 : ∀ k, W3.cell? ⟨w.heap.size + 1 + 1, k, none⟩ = (#[.int .i64 t, .slice (some ⟨w.heap.size, 0, none⟩) 1 1, .slice (some ⟨w.heap.size + 1, 0, none⟩) N N] : Array Value)[k]? := fun k => by
    rw [hW, cell_alloc_at _ _ _ _ _ s2.symm]
  refine ⟨hb, s3, ⟨k2 0, k2 1, k2 2⟩, ⟨⟨Nat.le_refl _, by simp, fun e => (by cases e), .inr ⟨w.heap.size, 0, rfl, by omega, fun k hk => ?_⟩⟩, fun _ b off e => ?_⟩, ⟨Arg.zeros (by omega) (by omega) k1, fun _ b off e => ?_⟩⟩
  · obtain rfl : k = 0 := by simp at hk; exact hk
    rw [Nat.zero_add, k0]
    simp [B]
    omega
  · injection e with e
    injection e with e1
    subst e1
    exact ⟨hlo, fun h => by have := hv _ h; omega⟩
  · injection e with e
    injection e with e1
    subst e1
    exact ⟨by omega, fun h => by have := hv _ h; omega⟩

namespace Rw
/-- A record of such a batch; such a batch; all of them. -/
def kv (z : Int) (k : Nat) : Nat := num (IntKind.i64.wrap (z + k)) 9
def rc (i : Nat) (z : Int) (k : Nat) : Rc.Rec := ⟨100 * (i : Int) + k, [UInt8.ofNat (97 + kv z k)], List.replicate (kv z k) 0⟩
def many (z : Int) : Nat := num z 5 + 1
def bt (at_ : Int) (i : Nat) (ev : Nat) (z : Int) : Rc.Bat := ⟨at_, 1 + ((i / ev : Nat) : Int), (List.range (many z)).map (rc i z)⟩
def go (at_ : Int) (i : Nat) (ev : Nat) : List Int → List Rc.Bat
  | [] => []
  | z :: zs => bt at_ i ev z :: go (at_ + many z) (i + 1) ev zs
theorem kv_lt (z : Int) (k : Nat) : kv z k < 9 := num_lt _ _ (by omega)
theorem many_bd (z : Int) : 1 ≤ many z ∧ many z ≤ 5 := by
  unfold many
  have := num_lt z 5 (by omega)
  omega
theorem go_len (zs : List Int) : ∀ at_ i ev, (go at_ i ev zs).length = zs.length := by
  induction zs with
  | nil => intros; rfl
  | cons z zs ih => intro at_ i ev; simp [go, ih]
/-- Each may be, is small, and lies where it does. -/
theorem go_ok (zs : List Int) : ∀ (at_ : Int) (i ev : Nat), 0 ≤ at_ → at_ + 5 * zs.length ≤ 1000000 → i + zs.length ≤ 100 → ∀ b ∈ go at_ i ev zs, Rc.Good b ∧ b.recs.length ≤ 5 ∧ ∀ r ∈ b.recs, r.k.length ≤ 64 ∧ r.v.length ≤ 512 := by
  induction zs with
  | nil => intro at_ i ev _ _ _ b hb; simp [go] at hb
  | cons z zs ih =>
    intro at_ i ev h0 h1 h2 b hb
    have hm := many_bd z
    rw [List.length_cons] at h1 h2
    rcases List.mem_cons.1 hb with rfl | hb
    · have hl : (bt at_ i ev z).recs.length = many z := by simp [bt]
      have hr : ∀ r ∈ (bt at_ i ev z).recs, -1099511627776 ≤ r.t ∧ r.t ≤ 1099511627776 ∧ r.k.length ≤ 64 ∧ r.v.length ≤ 512 := by
        intro r hr
        obtain ⟨k, hk, rfl⟩ := List.mem_map.1 hr
        have hk' := List.mem_range.1 hk
        have := kv_lt z k
        refine ⟨?_, ?_, by simp [rc], by simp [rc]; omega⟩
        · show -1099511627776 ≤ 100 * (i : Int) + (k : Int); omega
        · show 100 * (i : Int) + (k : Int) ≤ 1099511627776; omega
      have hd : i / ev ≤ i := Nat.div_le_self _ _
      refine ⟨⟨by omega, by omega, h0, ?_, ?_, ?_, hr⟩, by omega, fun r h => ⟨(hr r h).2.2.1, (hr r h).2.2.2⟩⟩
      · rw [hl]; show at_ + (many z : Int) ≤ _; omega
      · show (0 : Int) ≤ 1 + ((i / ev : Nat) : Int)
        generalize i / ev = q at *
        omega
      · show 1 + ((i / ev : Nat) : Int) ≤ _
        generalize i / ev = q at *
        omega
    · exact ih (at_ + many z) (i + 1) ev (by omega) (by omega) (by omega) b hb
end Rw

end Go.Proofs.YtcmgppacipdnaaaGreatDoor

namespace Go.Proofs.YtcmgppacipdnaaaGreatDoor.Dk

end Go.Proofs.YtcmgppacipdnaaaGreatDoor.Dk

namespace Go.Proofs.YtcmgppacipdnaaaGreatDoor.Dk

/-- What is known of a disk with power. -/
structure V (s : St) (room used calls : Int) (names dur : Dir) (since : List Mv) : Prop where
  room : s.room = room
  used : s.used = used
  calls : s.calls = calls
  names : s.names = names
  dur : s.dur = dur
  since : s.since = since
  armed : s.armed = 0
  down : s.down = false
theorem V.begin {s : St} {room used calls : Int} {names dur : Dir} {since : List Mv} (h : V s room used calls names dur since) : s.begin = s := by
  unfold St.begin; rw [if_neg (by have := h.armed; omega)]
theorem V.new (room : Int) : V (St.new room) room 0 0 (fun _ => none) (fun _ => none) [] := ⟨rfl, rfl, rfl, rfl, rfl, rfl, rfl, rfl⟩
theorem V.find {s : St} {room used calls : Int} {names dur : Dir} {since : List Mv} (h : V s room used calls names dur since) (k : Nm) (i : Nat) (hn : names k = some i) : s.find k = (none, some i) := by
  unfold St.find
  rw [h.down, h.names, hn]
  rfl
theorem on_to (k : Nm) (v : Option Nat) (f : Dir) (hk : k ≠ []) : (⟨[], k, v⟩ : Mv).on f = upd f k v := by
  unfold Mv.on
  rw [if_neg hk]
  rfl
theorem on_both (k tn : Nm) (v : Option Nat) (f : Dir) (hk : k ≠ []) (ht : tn ≠ []) : (⟨k, tn, v⟩ : Mv).on f = upd (upd f k none) tn v := by
  unfold Mv.on
  rw [if_neg ht]
  show upd (if k = [] then f else _) tn v = _
  rw [if_neg hk]
theorem valid_ne {k : Nm} (h : valid k = true) : k ≠ [] := fun e => by subst e; simp [valid] at h
theorem V.create {s : St} {room used calls : Int} {names dur : Dir} {since : List Mv} (h : V s room used calls names dur since) (k : Nm) (i : Nat) (hv : valid k = true) (hn : names k = none) :
    ∃ s', s.create k i = (none, s') ∧ V s' room used (calls + 1) (upd names k (some i)) dur (since ++ [⟨[], k, some i⟩]) ∧ s'.files i = ⟨calls, [], 0⟩ ∧ ∀ x, x ≠ i → s'.files x = s.files x := by
  refine ⟨(s.setFile i ⟨s.calls, [], 0⟩).doMove ⟨[], k, some i⟩, ?_, ⟨h.room, h.used, by show s.calls + 1 = _; rw [h.calls], ?_, h.dur, by show s.since ++ _ = _; rw [h.since], h.armed, h.down⟩, ?_, fun x hx => setFile_other _ _ _ _ hx⟩
  · unfold St.create
    rw [h.begin, if_neg (by rw [h.down]; simp), if_neg (by rw [hv]; simp), if_neg (by rw [h.names, hn]; simp)]
  · show Mv.on _ s.names = _
    rw [on_to _ _ _ (valid_ne hv), h.names]
  · show (s.setFile i ⟨s.calls, [], 0⟩).files i = _
    rw [setFile_same, h.calls]
theorem V.append {s : St} {room used calls : Int} {names dur : Dir} {since : List Mv} (h : V s room used calls names dur since) (k : Nm) (i : Nat) (b : Nm) (hn : names k = some i) (hr : (b.length : Int) ≤ room - used) :
    ∃ s', s.append k b = (none, s') ∧ V s' room (used + b.length) (calls + 1) names dur since ∧ s'.files i = { s.files i with bytes := (s.files i).bytes ++ b } ∧ ∀ x, x ≠ i → s'.files x = s.files x := by
  refine ⟨{ s.setFile i { s.files i with bytes := (s.files i).bytes ++ b } with used := s.used + b.length, calls := s.calls + 1 }, ?_, ⟨h.room, by show s.used + _ = _; rw [h.used], by show s.calls + 1 = _; rw [h.calls], h.names, h.dur, h.since, h.armed, h.down⟩, setFile_same _ _ _, fun x hx => setFile_other _ _ _ _ hx⟩
  unfold St.append
  rw [h.begin, h.find k i hn]
  simp only
  rw [if_neg (by rw [h.room, h.used]; omega)]
theorem V.cut {s : St} {room used calls : Int} {names dur : Dir} {since : List Mv} (h : V s room used calls names dur since) (k : Nm) (i : Nat) (n : Nat) (hn : names k = some i) (hr : n ≤ (s.files i).bytes.length) :
    ∃ s', s.cut k n = (none, s') ∧ V s' room (used - (((s.files i).bytes.length : Int) - n)) (calls + 1) names dur since ∧ s'.files i = (s.files i).keep n ∧ ∀ x, x ≠ i → s'.files x = s.files x := by
  refine ⟨{ s.setFile i ((s.files i).keep n) with used := s.used - (((s.files i).bytes.length : Int) - n), calls := s.calls + 1 }, ?_, ⟨h.room, by show s.used - _ = _; rw [h.used], by show s.calls + 1 = _; rw [h.calls], h.names, h.dur, h.since, h.armed, h.down⟩, setFile_same _ _ _, fun x hx => setFile_other _ _ _ _ hx⟩
  unfold St.cut
  rw [h.begin, h.find k i hn]
  simp only
  rw [if_neg (by omega)]
  rfl
theorem V.sync {s : St} {room used calls : Int} {names dur : Dir} {since : List Mv} (h : V s room used calls names dur since) (k : Nm) (i : Nat) (hn : names k = some i) :
    ∃ s', s.sync k = (none, s') ∧ V s' room used (calls + 1) names dur since ∧ s'.files i = { s.files i with synced := (s.files i).bytes.length } ∧ ∀ x, x ≠ i → s'.files x = s.files x := by
  refine ⟨{ s.setFile i ((s.files i).keep (s.files i).bytes.length) with calls := s.calls + 1 }, ?_, ⟨h.room, h.used, by show s.calls + 1 = _; rw [h.calls], h.names, h.dur, h.since, h.armed, h.down⟩, ?_, fun x hx => setFile_other _ _ _ _ hx⟩
  · unfold St.sync
    rw [h.begin, h.find k i hn]
  · show (s.setFile i _).files i = _
    rw [setFile_same]
    simp [File.keep]
theorem V.syncDir {s : St} {room used calls : Int} {names dur : Dir} {since : List Mv} (h : V s room used calls names dur since) :
    ∃ s', s.syncDir = (none, s') ∧ V s' room used (calls + 1) names (ons since dur) [] ∧ ∀ x, s'.files x = s.files x := by
  refine ⟨{ s.settle s.since.length with calls := s.calls + 1 }, ?_, ⟨h.room, h.used, by show s.calls + 1 = _; rw [h.calls], h.names, ?_, rfl, h.armed, h.down⟩, fun x => rfl⟩
  · unfold St.syncDir
    rw [h.begin, if_neg (by rw [h.down]; simp)]
  · show ons (s.since.take s.since.length) s.dur = _
    rw [List.take_length, h.since, h.dur]
theorem V.rename {s : St} {room used calls : Int} {names dur : Dir} {since : List Mv} (h : V s room used calls names dur since) (k tn : Nm) (i : Nat) (hk : k ≠ []) (hv : valid tn = true) (hn : names k = some i) :
    ∃ s', s.rename k tn = (none, s') ∧ V s' room (match names tn with | none => used | some o => if o = i then used else used - (s.files o).bytes.length) (calls + 1) (upd (upd names k none) tn (some i)) dur (since ++ [⟨k, tn, some i⟩]) ∧ ∀ x, s'.files x = s.files x := by
  refine ⟨{ s with used := match s.names tn with | none => s.used | some o => if o = i then s.used else s.used - (s.files o).bytes.length }.doMove ⟨k, tn, some i⟩, ?_, ⟨h.room, ?_, by show s.calls + 1 = _; rw [h.calls], ?_, h.dur, by show s.since ++ _ = _; rw [h.since], h.armed, h.down⟩, fun x => rfl⟩
  · unfold St.rename
    rw [h.begin, h.find k i hn]
    simp only
    rw [if_neg (by rw [hv]; simp)]
    rfl
  · show (match s.names tn with | none => s.used | some o => if o = i then s.used else s.used - (s.files o).bytes.length) = _
    rw [h.names, h.used]
  · show (⟨k, tn, some i⟩ : Mv).on s.names = _
    rw [on_both _ _ _ _ hk (valid_ne hv), h.names]
theorem V.len {s : St} {room used calls : Int} {names dur : Dir} {since : List Mv} (h : V s room used calls names dur since) (k : Nm) (i : Nat) (hn : names k = some i) : s.lenOf k = ((s.files i).bytes.length : Int) ∧ s.syncedOf k = ((s.files i).synced : Int) := by
  unfold St.lenOf St.syncedOf
  rw [h.find k i hn]
  exact ⟨rfl, rfl⟩
theorem V.read {s : St} {room used calls : Int} {names dur : Dir} {since : List Mv} (h : V s room used calls names dur since) (k : Nm) (i n : Nat) (hn : names k = some i) (hr : n ≤ (s.files i).bytes.length) : s.readOf k 0 n = (none, (s.files i).bytes.take n) := by
  unfold St.readOf
  rw [h.find k i hn]
  simp only
  rw [if_neg (by omega)]
  simp
end Go.Proofs.YtcmgppacipdnaaaGreatDoor.Dk
