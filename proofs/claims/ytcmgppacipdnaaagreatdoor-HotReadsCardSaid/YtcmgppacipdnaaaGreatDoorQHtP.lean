/-
  A log of segments, plainly: its groups of batches; the disk that has them.
  The law of a region that draws its order, with guards that themselves were passed over: such an operation is passed over, too. Not of any one program.
  A log of segments: what is asked of its last segment, and of its last batch.
  A log of segments whose own rows change; a segment more.
-/
import Derived.Test.YtcmgppacipdnaaaGreatDoorQSgO
import Derived.Test.YtcmgppacipdnaaaGreatDoorQRegG
import Derived.Test.YtcmgppacipdnaaaGreatDoorQNsC
namespace Go.Proofs.YtcmgppacipdnaaaGreatDoor
namespace Ht

abbrev Gr := Int × List Rc.Bat
def size (bs : List Rc.Bat) : Nat := (bs.flatMap Rc.bytes).length
theorem size_snoc (bs : List Rc.Bat) (b : Rc.Bat) : size (bs ++ [b]) = size bs + (Rc.bytes b).length := by simp [size]
/-- Has the last segment no room for it? -/
def big (sz : Int) (bs : List Rc.Bat) (b : Rc.Bat) : Bool := decide (0 < size bs) && decide (sz < (size bs : Int) + (Rc.bytes b).length)
/-- One batch more. -/
def add (sz : Int) (gs : List Gr) (b : Rc.Bat) : List Gr :=
  if big sz (gs.getLastD (0, [])).2 b = true then gs ++ [(b.base, [b])] else gs.dropLast ++ [((gs.getLastD (0, [])).1, (gs.getLastD (0, [])).2 ++ [b])]
theorem add_big {sz : Int} {g0 : List Gr} {o : Int} {bs : List Rc.Bat} {b : Rc.Bat} (h : big sz bs b = true) : add sz (g0 ++ [(o, bs)]) b = g0 ++ [(o, bs)] ++ [(b.base, [b])] := by
  simp [add, h]
theorem add_small {sz : Int} {g0 : List Gr} {o : Int} {bs : List Rc.Bat} {b : Rc.Bat} (h : big sz bs b = false) : add sz (g0 ++ [(o, bs)]) b = g0 ++ [(o, bs ++ [b])] := by
  simp [add, h]
/-- Where each batch begins, and its epoch. -/
def pr (b : Rc.Bat) : Int × Int := (b.base, b.epoch)
def bats (gs : List Gr) : List (Int × Int) := gs.flatMap fun g => g.2.map pr
def all (gs : List Gr) : List Rc.Bat := gs.flatMap fun g => g.2
theorem bats_all (gs : List Gr) : bats gs = (all gs).map pr := by
  unfold bats all
  induction gs with
  | nil => rfl
  | cons g gs ih => simp only [List.flatMap_cons, List.map_append, ih]
theorem all_add {sz : Int} {gs : List Gr} {b : Rc.Bat} (h : gs ≠ []) : all (add sz gs b) = all gs ++ [b] := by
  obtain ⟨g0, ⟨o, bs⟩, rfl⟩ : ∃ g0 g, gs = g0 ++ [g] := ⟨gs.dropLast, gs.getLast h, (List.dropLast_concat_getLast h).symm⟩
  cases hb : big sz bs b
  · rw [add_small hb]; simp [all]
  · rw [add_big hb]; simp [all]
theorem add_ne {sz : Int} {gs : List Gr} {b : Rc.Bat} : add sz gs b ≠ [] := by unfold add; split <;> simp
def used (gs : List Gr) : Int := (size (all gs) : Int)

/-- A disk that has these segments and nothing else. -/
structure G (d : Dk.St) (room used ev : Int) (names : Dk.Dir) (qs : List HQ) : Prop where
  has : Dk.Has d room used names
  mz : ∀ q ∈ qs, Mz d q.s room used names q.base ev q.x q.bs
  nm : ∀ k x, names k = some x → ∃ q ∈ qs, k = Nm.seg q.base
  inj : qs.Pairwise fun a b => a.x ≠ b.x
  rise : qs.Pairwise fun a b => a.base < b.base
  bd : ∀ q ∈ qs, 0 ≤ q.base ∧ q.base ≤ 1099511627776
section
variable {d : Dk.St} {room used ev : Int} {names : Dk.Dir} {qs0 qs : List HQ} {q : HQ}
theorem G.new (room ev : Int) : G (Dk.St.new room) room 0 ev (fun _ => none) [] :=
  ⟨Dk.Has.new room, fun q hq => (by cases hq), fun k x h => (by cases h), List.Pairwise.nil, List.Pairwise.nil, fun q hq => (by cases hq)⟩
theorem G.last (h : G d room used ev names (qs0 ++ [q])) : Mz d q.s room used names q.base ev q.x q.bs := h.mz q (by simp)
theorem G.others (h : G d room used ev names (qs0 ++ [q])) (a : HQ) (ha : a ∈ qs0) : a.x ≠ q.x := (List.pairwise_append.1 h.inj).2.2 a ha q (by simp)
theorem G.put (h : G d room used ev names (qs0 ++ [q])) {d' : Dk.St} {used' : Int} {s' : Sg.St} {bs' : List Rc.Bat} (hm : Mz d' s' room used' names q.base ev q.x bs') (hy : ∀ y, y ≠ q.x → (d'.files y).bytes = (d.files y).bytes) (T' : Nat → Prop) :
    G d' room used' ev names (qs0 ++ [{ q with T := T', s := s', bs := bs' }]) := by
  have h1 := List.pairwise_append.1 h.inj
  have h2 := List.pairwise_append.1 h.rise
  refine ⟨hm.has, fun a ha => ?_, fun k x hk => ?_, List.pairwise_append.2 ⟨h1.1, by simp, fun a ha b hb => ?_⟩, List.pairwise_append.2 ⟨h2.1, by simp, fun a ha b hb => ?_⟩, fun a ha => ?_⟩
  · rcases List.mem_append.1 ha with ha | ha
    · exact (h.mz a (List.mem_append_left _ ha)).beside hm.has (h.mz a (List.mem_append_left _ ha)).nm (hy _ (h.others a ha))
    · rw [List.mem_singleton.1 ha]; exact hm
  · obtain ⟨a, ha, e⟩ := h.nm k x hk
    rcases List.mem_append.1 ha with ha | ha
    · exact ⟨a, List.mem_append_left _ ha, e⟩
    · rw [List.mem_singleton.1 ha] at e; exact ⟨_, List.mem_append_right _ (List.mem_singleton.2 rfl), e⟩
  · rw [List.mem_singleton.1 hb]; exact h1.2.2 a ha q (by simp)
  · rw [List.mem_singleton.1 hb]; exact h2.2.2 a ha q (by simp)
  · rcases List.mem_append.1 ha with ha | ha
    · exact h.bd a (List.mem_append_left _ ha)
    · rw [List.mem_singleton.1 ha]; exact h.bd q (by simp)
/-- A batch in the last segment. -/
theorem G.add (h : G d room used ev names (qs0 ++ [q])) (b : Rc.Bat) (hg : Rc.Good b) (hf : Sg.follows q.s.edges b = true) (hr : ((Rc.bytes b).length : Int) ≤ room - used) :
    ∃ d', sgApp d q.s b = (none, d', q.s.add b (Rc.bytes b).length) ∧ ∀ T', G d' room (used + (Rc.bytes b).length) ev names (qs0 ++ [{ q with T := T', s := q.s.add b (Rc.bytes b).length, bs := q.bs ++ [b] }]) := by
  obtain ⟨d', e, hm, hy⟩ := h.last.add b hg hf hr
  exact ⟨d', e, fun T' => h.put hm (fun y hy2 => by rw [hy y hy2]) T'⟩
end
end Ht
theorem Mz.syncTo {d : Dk.St} {s : Sg.St} {room used base every : Int} {names : Dk.Dir} {x : Nat} {bs : List Rc.Bat} (h : Mz d s room used names base every x bs) (z : Int) : Mz d { s with synced := z } room used names base every x bs := by
  obtain ⟨y, h⟩ := h
  refine ⟨z, h.has, rfl, rfl, h.nm, h.bytes, ?_, h.chain.sync z, h.good⟩
  have e := h.seg
  rw [Sg.adds_sync] at e
  rw [Sg.adds_sync, e]
namespace Ht
section
variable {d : Dk.St} {room used ev : Int} {names : Dk.Dir} {qs0 qs : List HQ} {q : HQ}
/-- The last segment synced. -/
theorem G.sync (h : G d room used ev names (qs0 ++ [q])) :
    ∃ d', sgSync d q.s = (none, d', { q.s with synced := (Sg.last q.s.edges).pos }) ∧ ∀ T', G d' room used ev names (qs0 ++ [{ q with T := T', s := { q.s with synced := (Sg.last q.s.edges).pos }, bs := q.bs }]) := by
  obtain ⟨d', e, hh, hb, hy⟩ := h.has.sync (Nm.seg q.base) q.x h.last.nm
  refine ⟨d', ?_, fun T' => h.put ((h.last.beside hh h.last.nm hb).syncTo _) (fun y hy2 => by rw [hy y hy2]) T'⟩
  unfold sgSync
  rw [h.last.file, e]
  simp [h.last.file]
/-- A segment more. -/
theorem G.create (h : G d room used ev names qs) (base : Int) (hb : 0 ≤ base ∧ base ≤ 1099511627776) (hl : ∀ q ∈ qs, q.base < base) :
    ∃ d3 : Nat → Dk.St, (∀ x, sgCrt d (Nm.seg base) x = (none, d3 x)) ∧ ∀ x, (∀ q ∈ qs, q.x ≠ x) → ∀ X T, G (d3 x) room used ev (Dk.upd names (Nm.seg base) (some x)) (qs ++ [⟨X, T, Sg.begin (Nm.seg base) base ev, base, x, []⟩]) := by
  have hn : names (Nm.seg base) = none := by
    cases hx : names (Nm.seg base) with
    | none => rfl
    | some x =>
      obtain ⟨q, hq, e⟩ := h.nm _ x hx
      have := seg_inj hb (h.bd q hq) e
      have := hl q hq
      omega
  obtain ⟨d1, d2, d3, e1, e2, e3, h3⟩ := h.has.begin_ (Nm.seg base) (seg_valid hb) hn
  refine ⟨d3, fun x => ?_, fun x hx X T => ?_⟩
  · unfold sgCrt
    simp [e1, e2, e3]
  · obtain ⟨hh, hf, hy⟩ := h3 x
    have hne : ∀ q ∈ qs, Nm.seg q.base ≠ Nm.seg base := fun q hq e => by
      have := seg_inj (h.bd q hq) hb e
      have := hl q hq
      omega
    refine ⟨hh, fun a ha => ?_, fun k y hk => ?_, List.pairwise_append.2 ⟨h.inj, by simp, fun a ha b hb2 => ?_⟩, List.pairwise_append.2 ⟨h.rise, by simp, fun a ha b hb2 => ?_⟩, fun a ha => ?_⟩
    · rcases List.mem_append.1 ha with ha | ha
      · have hm := h.mz a ha
        exact hm.beside hh (by rw [Dk.upd_other _ _ _ _ (hne a ha)]; exact hm.nm) (by rw [hy _ (hx a ha)])
      · rw [List.mem_singleton.1 ha]
        exact ⟨0, hh, rfl, rfl, by simp [Sg.begin, Dk.upd_same], by simp [hf], rfl, trivial, fun b hb2 => by cases hb2⟩
    · by_cases e : k = Nm.seg base
      · exact ⟨_, List.mem_append_right _ (List.mem_singleton.2 rfl), e⟩
      · rw [Dk.upd_other _ _ _ _ e] at hk
        obtain ⟨a, ha, e⟩ := h.nm k y hk
        exact ⟨a, List.mem_append_left _ ha, e⟩
    · rw [List.mem_singleton.1 hb2]; exact hx a ha
    · rw [List.mem_singleton.1 hb2]; exact hl a ha
    · rcases List.mem_append.1 ha with ha | ha
      · exact h.bd a ha
      · rw [List.mem_singleton.1 ha]; exact hb
end
end Ht
end Go.Proofs.YtcmgppacipdnaaaGreatDoor

namespace Go.Proofs.YtcmgppacipdnaaaGreatDoor
open Go Go.RowKit

def OpGuardU (P : Program) (ev : Operand → Value) (o : Oper) (dj : Nat → Nat) (w1 : World) (Post : Value → World → Prop) : Prop :=
  match o.guard with
  | none => OpRuns P ev o w1 Post
  | some (j, b) => (∃ c, ev (.tmp (dj j)) = .bool c ∧ (c = b → OpRuns P ev o w1 Post) ∧ (c ≠ b → Post undef w1)) ∨ (ev (.tmp (dj j)) = undef ∧ Post undef w1)

end Go.Proofs.YtcmgppacipdnaaaGreatDoor

namespace Go.Proofs.YtcmgppacipdnaaaGreatDoor
open Go.RowKit Go.Maps

section
variable {w0 w : World} {S C : Nat → Prop} {n Bd H : Nat} {d : Dk.St} {sz ev : Int} {vs vb : Value} {qs0 qs : List HQ} {q : HQ} {bats bs0 : List (Int × Int)}
set_option maxRecDepth 100000 in
theorem htLast_any (h : HtL w0 S n Bd d H C sz ev vs vb (qs0 ++ [q]) bats w) :
    Calls Tryz.prog 52 #[.pointer (some ⟨H, 0, none⟩)] w fun e w' => e = .returned (hqV q) ∧ ∃ k, w' = w.drewN k := by
  obtain ⟨A, c, A', c', rfl, rfl, hq, -, -, -, -, c3, -⟩ := h.cells
  have hle := hq.le
  have hmx := hq.mx
  obtain ⟨g, rfl, hg, k0⟩ := hq.at_ qs0.length (by simp)
  rw [List.length_append, List.length_singleton] at c3 hle
  have e : (qs0 ++ [q]).getD qs0.length default = q := by simp [List.getD]
  rw [e] at k0
  clear h hq e
  generalize qs0.length = m at *
  have hw : IntKind.i64.wrap (((m + 1 : Nat) : Int) - 1) = (m : Int) := by rw [IntKind.wrap_i64]; omega
  unfold hqV at *
  go_enter Tryz.func52, Tryz.ntmps52
  go_upto_region 1 with fail
  go_quiet (fail)
  rename Nat => k
  go_wp2_with fail
  go_ret
  exact ⟨rfl, k, rfl⟩
theorem HtL.lastSeg (h : HtL w0 S n Bd d H C sz ev vs vb (qs0 ++ [q]) bats w) : SegAt w q.X Bd q.s q.T ∧ Sg.Ok q.s := by
  obtain ⟨h1, h2, -⟩ := h.each q (by simp)
  exact ⟨h1, h2⟩
theorem below_dr {w w' : World} (h : ∃ k, w' = w.drewN k) : Below w.heap.size w w' := by
  obtain ⟨k, rfl⟩ := h; exact below_drewN (Below.refl _ _) k
set_option maxRecDepth 100000 in
theorem htEnd_any (h : HtL w0 S n Bd d H C sz ev vs vb (qs0 ++ [q]) bats w) :
    Calls Tryz.prog 21 #[.pointer (some ⟨H, 0, none⟩)] w fun e w' => e = .returned (.int .i64 (Sg.last q.s.edges).off) ∧ Below w.heap.size w w' := by
  have HL := hide (htLast_any h)
  obtain ⟨h1, h2⟩ := h.lastSeg
  have HE := hide (fun (W : World) (hw : Below w.heap.size w W) => sgEnd_any q.X Bd q.s q.T W (h1.below hw) h2)
  obtain ⟨A, c, A', c', rfl, rfl, -, -, -, -, -, c3, -⟩ := h.cells
  rw [List.length_append, List.length_singleton] at c3
  have hz : (((qs0.length + 1 : Nat) : Int) == 0) = false := by rw [beq_eq_false_iff_ne]; omega
  clear h h1 h2
  generalize qs0.length + 1 = m at *
  unfold hqV at *
  go_enter Tryz.func21, Tryz.ntmps21
  go_wp2_with (first
    | (go_at_call 52; refine HL.out.mono ?_; rintro e w1 ⟨rfl, hk⟩; have HB1 := hide (below_dr hk); clear hk)
    | (go_at_call 50; refine (HE.out _ HB1.out).mono ?_; rintro e w2 ⟨rfl, hb⟩; have HB2 := hide (HB1.out.trans (hb.mono HB1.out.size)); clear hb)
    | fail)
  go_ret
  exact ⟨rfl, HB2.out⟩
set_option maxRecDepth 100000 in
theorem htFollows_any (h : HtL w0 S n Bd d H C sz ev vs vb qs bats w) (r : Bool) (ep : Int) (hr : ∀ o e bs0, bats = bs0 ++ [(o, e)] → r = decide (e ≤ ep)) (h0 : bats = [] → r = true) :
    Calls Tryz.prog 60 #[.pointer (some ⟨H, 0, none⟩), .int .i64 ep] w fun e w' => e = .returned (.bool r) ∧ ∃ k, w' = w.drewN k := by
  obtain ⟨A, c, A', c', rfl, rfl, -, hb, -, -, -, -, c4⟩ := h.cells
  have hle := hb.le
  have hmx := hb.mx
  rcases List.eq_nil_or_concat bats with e | ⟨bs0, ⟨o, ep0⟩, e⟩
  · obtain rfl := h0 e
    subst e
    rw [List.length_nil] at c4
    clear h hb hr h0
    go_enter Tryz.func60, Tryz.ntmps60
    go_wp2_with fail
    go_ret
    exact ⟨rfl, 0, rfl⟩
  · rw [List.concat_eq_append] at e
    obtain rfl := hr o ep0 bs0 e
    subst e
    obtain ⟨g, rfl, hg, -, k1⟩ := hb.at_ bs0.length (by simp)
    rw [List.length_append, List.length_singleton] at c4 hle
    have e : (bs0 ++ [(o, ep0)]).getD bs0.length (0, 0) = (o, ep0) := by simp [List.getD]
    rw [e] at k1
    simp only at k1
    clear h hb hr h0 e
    generalize bs0.length = m at *
    have hz : ((m : Int) + 1 == 0) = false := by rw [beq_eq_false_iff_ne]; omega
    have hw : IntKind.i64.wrap (((m + 1 : Nat) : Int) - 1) = (m : Int) := by rw [IntKind.wrap_i64]; omega
    go_enter Tryz.func60, Tryz.ntmps60
    go_wp2_with fail
    go_ret
    exact ⟨by simp, 0, rfl⟩

set_option maxRecDepth 100000 in
set_option maxHeartbeats 1000000 in
theorem htRoom_any (h : HtL w0 S n Bd d H C sz ev vs vb (qs0 ++ [q]) bats w) (b : Rc.Bat) (A : Option Addr) (m cap : Nat) (ln : Nat) (r : Bool) (hln : ln ≤ 1000000) (hr : r = (decide ((Sg.last q.s.edges).pos = 0) || decide ((Sg.last q.s.edges).pos + ln ≤ sz)))
    (hS : ∀ W, Below w.heap.size w W → Calls Tryz.prog 99 #[batV b.base b.epoch A m cap] W fun e w' => e = .returned (.int .i64 (ln : Int)) ∧ Below W.heap.size W w') :
    Calls Tryz.prog 61 #[.pointer (some ⟨H, 0, none⟩), batV b.base b.epoch A m cap] w fun e w' => e = .returned (.bool r) ∧ Below w.heap.size w w' := by
  have hpos := h.lastSeg.2.pos _ (Sg.last_mem h.lastSeg.2.ne)
  have HL := hide (fun (W : World) (hw : Below w.heap.size w W) => htLast_any (h.grow hw))
  obtain ⟨h1, h2⟩ := h.lastSeg
  have HE := hide (fun (W : World) (hw : Below w.heap.size w W) => sgSize_any q.X Bd q.s q.T W (h1.below hw) h2)
  obtain ⟨-, -, -, -, -, -, -, -, -, c1, -⟩ := h.cells
  have hHl := h.lt
  have HSZ := hide hS
  generalize (Sg.last q.s.edges).pos = z at *
  have hW1 : Below w.heap.size w (w.alloc (.cells #[.int .i64 b.base, .int .i64 b.epoch, .slice A m cap] 36)) := balloc (Below.refl _ _) _
  have HW1 := hide hW1
  have y0 : (w.alloc (.cells #[.int .i64 b.base, .int .i64 b.epoch, .slice A m cap] 36)).cell? ⟨w.heap.size, 0, none⟩ = some (.int .i64 b.base) := by rw [World.cell?_alloc_mark]; rfl
  have y1 : (w.alloc (.cells #[.int .i64 b.base, .int .i64 b.epoch, .slice A m cap] 36)).cell? ⟨w.heap.size, 1, none⟩ = some (.int .i64 b.epoch) := by rw [World.cell?_alloc_mark]; rfl
  have y2 : (w.alloc (.cells #[.int .i64 b.base, .int .i64 b.epoch, .slice A m cap] 36)).cell? ⟨w.heap.size, 2, none⟩ = some (.slice A m cap) := by rw [World.cell?_alloc_mark]; rfl
  have hBz : w.heap.size < (w.alloc (.cells #[.int .i64 b.base, .int .i64 b.epoch, .slice A m cap] 36)).heap.size := by simp
  have hHz : H < (w.alloc (.cells #[.int .i64 b.base, .int .i64 b.epoch, .slice A m cap] 36)).heap.size := by simp; omega
  replace c1 := (hW1.cell (p := ⟨H, 1, none⟩) hHl).trans c1
  clear h h1 h2 hW1 hS hHl
  generalize b.base = ba at *
  generalize b.epoch = ep at *
  unfold batV hqV at *
  go_enter Tryz.func61, Tryz.ntmps61
  go_upto_region 1 with fail
  generalize w.alloc (.cells #[.int .i64 ba, .int .i64 ep, .slice A m cap] 36) = W1 at *
  generalize w.heap.size = Bx at y0 y1 y2 hBz ⊢
  go_upto_region 2 with (first
    | (go_at_call 52; refine (HL.out _ HW1.out).mono ?_; rintro e w2 ⟨rfl, hk⟩; have HB2 := hide (HW1.out.trans ((below_dr hk).mono HW1.out.size)); replace y0 := ((below_dr hk).cell (p := ⟨Bx, 0, none⟩) hBz).trans y0; replace y1 := ((below_dr hk).cell (p := ⟨Bx, 1, none⟩) hBz).trans y1; replace y2 := ((below_dr hk).cell (p := ⟨Bx, 2, none⟩) hBz).trans y2; replace c1 := ((below_dr hk).cell (p := ⟨H, 1, none⟩) hHz).trans c1; replace hHz := Nat.lt_of_lt_of_le hHz (below_dr hk).size; replace hBz := Nat.lt_of_lt_of_le hBz (below_dr hk).size; clear hk)
    | (go_at_call 51; refine (HE.out _ HB2.out).mono ?_; rintro e w3 ⟨rfl, hb⟩; have HB3 := hide (HB2.out.trans (hb.mono HB2.out.size)); replace y0 := (hb.cell (p := ⟨Bx, 0, none⟩) hBz).trans y0; replace y1 := (hb.cell (p := ⟨Bx, 1, none⟩) hBz).trans y1; replace y2 := (hb.cell (p := ⟨Bx, 2, none⟩) hBz).trans y2; replace c1 := (hb.cell (p := ⟨H, 1, none⟩) hHz).trans c1; replace hHz := Nat.lt_of_lt_of_le hHz hb.size; replace hBz := Nat.lt_of_lt_of_le hBz hb.size; clear hb)
    | fail)
  by_cases hz : z = 0
  · subst hz
    have HRZ : Hid (r = true) := hide (by rw [hr]; simp)
    clear hr hpos
    refine wp_region_guard (G := fun a b : World => Below a.heap.size a b) ⟨fun w => Below.refl _ w, fun h k => h.trans (k.mono h.size)⟩ [9, 10, 11, 12, 13, 14, 15, 16, 17, 18, 19, 20, 21, 22, 4] (fun d => match d with
      | 4 => .is (.bool true) | 9 => .is (.int .i64 0) | 10 => .is (.bool true) | 11 => .is (.bool true) | 22 => .is (.bool true) | _ => .is undef) (by kernel_rfl) (by kernel_rfl) (by kernel_rfl) ?_ ?_
    · simp only [StepsG]
      refine ⟨?_, ?_, ?_, ?_, ?_, ?_, ?_, ?_, ?_, ?_, ?_, ?_, ?_, ?_, ?_, trivial⟩
      all_goals
        intro ev w6 hb hev hd
        have ev0 : ev (.tmp 0) = .pointer (some ⟨H, 0, none⟩) := hev _ (by simp)
        have ev3 : ev (.tmp 3) = .pointer (some ⟨Bx, 0, none⟩) := hev _ (by simp)
        have ev5 : ev (.tmp 5) = .int .i64 0 := hev _ (by simp)
        have evf : ∀ f, ev (.func f) = .func (.func f) #[] #[] := fun f => hev _ (by simp)
        have evc : ∀ c, ev (.const c) = c := fun c => hev _ (by simp)
        have k0 := (hb.cell (p := ⟨Bx, 0, none⟩) hBz).trans y0
        have k1 := (hb.cell (p := ⟨Bx, 1, none⟩) hBz).trans y1
        have k2 := (hb.cell (p := ⟨Bx, 2, none⟩) hBz).trans y2
        have k3 := (hb.cell (p := ⟨H, 1, none⟩) hHz).trans c1
        have HB6 := hide (HB3.out.trans (((Below.refl w3.heap.size w3).drew.trans hb).mono HB3.out.size))
        clear hev hb y0 y1 y2 c1
        simp [DepsG, Held.is] at hd
        try simp [OpGuard, OpRuns, execOp, go_sem, Held.is, Below.refl, *]
    · intro f w9 hb hf
      have e4 : f 4 = .bool true := hf 4 (by simp)
      have HB9 := hide (HB3.out.trans (((Below.refl w3.heap.size w3).drew.trans hb).mono HB3.out.size))
      clear hf hb
      simp only [puts, Act.put, List.setIfInBounds_toArray, List.set_cons_succ, List.set_cons_zero]
      rw [e4]
      clear e4
      generalize f 9 = q9
      generalize f 10 = q10
      generalize f 11 = q11
      generalize f 12 = q12
      generalize f 13 = q13
      generalize f 14 = q14
      generalize f 15 = q15
      generalize f 16 = q16
      generalize f 17 = q17
      generalize f 18 = q18
      generalize f 19 = q19
      generalize f 20 = q20
      generalize f 21 = q21
      generalize f 22 = q22
      clear f
      go_wp2_with fail
      go_ret
      exact ⟨by rw [HRZ.out]; rfl, HB9.out⟩
  · have hz0 : (z == 0) = false := by rw [beq_eq_false_iff_ne]; exact hz
    have hrr : decide (z + (ln : Int) ≤ sz) = r := by rw [hr, decide_eq_false hz]; simp
    have hwz : IntKind.i64.wrap (z + (ln : Int)) = z + (ln : Int) := by rw [IntKind.wrap_i64]; omega
    clear hr hz hpos
    refine wp_region_guard (G := fun a b : World => Below a.heap.size a b) ⟨fun w => Below.refl _ w, fun h k => h.trans (k.mono h.size)⟩ [9, 10, 11, 12, 13, 14, 15, 16, 17, 18, 19, 20, 21, 22, 4] (fun d => match d with
      | 9 => .is (.int .i64 z) | 10 => .is (.bool false) | 11 => .is (.bool false) | 12 => .is (.int .i64 z) | 13 => .is (.agg #[.int .i64 ba, .int .i64 ep, .slice A m cap]) | 14 => .is (.int .i64 ln) | 15 => .is (.int .i64 (z + ln)) | 16 => .is (.pointer (some ⟨H, 0, none⟩)) | 17 => .is (.pointer (some ⟨H, 0, none⟩)) | 18 => .is (.pointer (some ⟨H, 1, none⟩)) | 19 => .is (.pointer (some ⟨H, 1, none⟩)) | 20 => .is (.int .i64 sz) | 21 => .is (.bool r) | 22 => .is (.bool r) | _ => .is (.bool r)) (by kernel_rfl) (by kernel_rfl) (by kernel_rfl) ?_ ?_
    · simp only [StepsG]
      refine ⟨?_, ?_, ?_, ?_, ?_, ?_, ?_, ?_, ?_, ?_, ?_, ?_, ?_, ?_, ?_, trivial⟩
      all_goals
        intro ev w6 hb hev hd
        have ev0 : ev (.tmp 0) = .pointer (some ⟨H, 0, none⟩) := hev _ (by simp)
        have ev3 : ev (.tmp 3) = .pointer (some ⟨Bx, 0, none⟩) := hev _ (by simp)
        have ev5 : ev (.tmp 5) = .int .i64 z := hev _ (by simp)
        have evf : ∀ f, ev (.func f) = .func (.func f) #[] #[] := fun f => hev _ (by simp)
        have evc : ∀ c, ev (.const c) = c := fun c => hev _ (by simp)
        have k0 := (hb.cell (p := ⟨Bx, 0, none⟩) hBz).trans y0
        have k1 := (hb.cell (p := ⟨Bx, 1, none⟩) hBz).trans y1
        have k2 := (hb.cell (p := ⟨Bx, 2, none⟩) hBz).trans y2
        have k3 := (hb.cell (p := ⟨H, 1, none⟩) hHz).trans c1
        have HB6 := hide (HB3.out.trans (((Below.refl w3.heap.size w3).drew.trans hb).mono HB3.out.size))
        clear hev hb y0 y1 y2 c1
        simp [DepsG, Held.is] at hd
        try simp [OpGuard, OpRuns, execOp, go_sem, Held.is, Below.refl, *]
      exact HSZ.out w6 HB6.out
    · intro f w9 hb hf
      have e4 : f 4 = .bool r := hf 4 (by simp)
      have HB9 := hide (HB3.out.trans (((Below.refl w3.heap.size w3).drew.trans hb).mono HB3.out.size))
      clear hf hb
      simp only [puts, Act.put, List.setIfInBounds_toArray, List.set_cons_succ, List.set_cons_zero]
      rw [e4]
      clear e4
      generalize f 9 = q9
      generalize f 10 = q10
      generalize f 11 = q11
      generalize f 12 = q12
      generalize f 13 = q13
      generalize f 14 = q14
      generalize f 15 = q15
      generalize f 16 = q16
      generalize f 17 = q17
      generalize f 18 = q18
      generalize f 19 = q19
      generalize f 20 = q20
      generalize f 21 = q21
      generalize f 22 = q22
      clear f
      go_wp2_with fail
      go_ret
      exact ⟨rfl, HB9.out⟩
end
end Go.Proofs.YtcmgppacipdnaaaGreatDoor

namespace Go.Proofs.YtcmgppacipdnaaaGreatDoor
open Go.RowKit Go.Maps

section
variable {w0 w w' w1 w2 : World} {S S' C C' T' U : Nat → Prop} {n m Bd H X : Nat} {d d' : Dk.St} {sz ev : Int} {vs vb vs' vb' v' : Value} {qs qs' : List HQ} {q : HQ} {bats bats' : List (Int × Int)} {s' : Sg.St}
/-- Its own blocks changed, the disk and the segments not. -/
theorem HtL.turn (h : HtL w0 S n Bd d H C sz ev vs vb qs bats w) {V : Nat → Prop} (hc : Chg V w w') (hV : ∀ k, V k → C k) (hC : ∀ k, C k → C' k) (hC' : ∀ k, C' k → C k ∨ (w.heap.size ≤ k ∧ k < w'.heap.size))
    (box : w'.heap[H]? = some (.cells (htCells Bd sz ev vs' vb') 86 (0, 0))) (own : w'.ownsRow 0 87 1 vs' qs'.length (qs'.map hqV)) (bat : w'.ownsRow 0 103 2 vb' bats'.length (bats'.flatMap hbCells))
    (ne : vs'.ownBlock ≠ some H ∧ vb'.ownBlock ≠ some H ∧ ∀ g, vs'.ownBlock = some g → vb'.ownBlock ≠ some g) (ms : ∀ g, vs'.ownBlock = some g → C' g) (mb : ∀ g, vb'.ownBlock = some g → C' g)
    (each : ∀ q ∈ qs', SegAt w q.X Bd q.s q.T ∧ Sg.Ok q.s ∧ q.s.file.length ≤ 1000 ∧ ∀ k, q.T k → ¬ S k ∧ ¬ C k ∧ w0.heap.size ≤ k ∧ k < w.heap.size) (two : qs'.Pairwise fun a b => ∀ k, a.T k → ¬ b.T k) :
    HtL w0 S n Bd d H C' sz ev vs' vb' qs' bats' w' := by
  have hs := hc.size
  have hb := h.disk.below.size
  refine ⟨⟨h.disk.disk.kept fun k hk hl => hc.block k hl fun hv => h.apart k (hV k hv) hk, fun k hk => by have := h.disk.lo k hk; omega, h.disk.below.trans (hc.below hb fun k hk => (h.lo k (hV k hk)).1), h.disk.small⟩, box, own, bat, ne, ⟨hC _ h.mine.1, ms, mb⟩, fun k hk => ?_, fun k hk hS => ?_, fun q hq => ?_, two⟩
  · rcases hC' k hk with hk | hk
    · have := h.lo k hk; omega
    · omega
  · rcases hC' k hk with hk | hk
    · exact h.apart k hk hS
    · have := (h.disk.lo k hS).2; omega
  · obtain ⟨h1, h2, h3, h4⟩ := each q hq
    refine ⟨h1.same fun k hk hl => hc.block k hl fun hv => (h4 k hk).2.1 (hV k hv), h2, h3, fun k hk => ⟨(h4 k hk).1, fun hx => ?_, (h4 k hk).2.2.1, by have := (h4 k hk).2.2.2; omega⟩⟩
    rcases hC' k hx with hx | hx
    · exact (h4 k hk).2.1 hx
    · have := (h4 k hk).2.2.2; omega
theorem HtL.chgBox (h : HtL w0 S n Bd d H C sz ev vs vb qs bats w) (hb : Below w.heap.size w w1) {row : Option Nat} (hg : w1.grownBy w2 row) (hr : ∀ k, row = some k → C k) (i : Nat) (v : Value) : Chg (fun k => k = H ∨ row = some k) w (w2.setCell ⟨H, i, none⟩ v) ∧ ∀ k, (k = H ∨ row = some k) → C k := by
  refine ⟨((Chg.of_below hb).then (Chg.of_grown hg fun k hk => .inr hk)).then (Chg.setCell (S := fun k => k = H ∨ row = some k) w2 H i v (.inl rfl)), fun k hk => ?_⟩
  rcases hk with rfl | hk
  · exact h.mine.1
  · exact hr k hk
theorem HtL.boxAt (h : HtL w0 S n Bd d H C sz ev vs vb qs bats w) (hb : Below w.heap.size w w1) {row : Option Nat} (hg : w1.grownBy w2 row) (hr : row ≠ some H) : w2.heap[H]? = some (.cells (htCells Bd sz ev vs vb) 86 (0, 0)) :=
  (hg.block H (Nat.lt_of_lt_of_le h.lt hb.size) fun e => hr e.symm).trans ((hb.block H h.lt).trans h.box)
/-- Its row of segments has one more. -/
theorem HtL.push (h : HtL w0 S n Bd d H C sz ev vs vb qs bats w) (hb : Below w.heap.size w w1) (hg : w1.grownBy w2 vs.ownBlock) (ho : w2.ownsRow 0 87 1 v' (qs.length + 1) (qs.map hqV ++ [hqV q])) (hv : v'.ownBlock = vs.ownBlock ∨ v'.ownBlock = some w1.heap.size)
    (hq : SegAt w q.X Bd q.s q.T ∧ Sg.Ok q.s ∧ q.s.file.length ≤ 1000 ∧ ∀ k, q.T k → ¬ S k ∧ ¬ C k ∧ w0.heap.size ≤ k ∧ k < w.heap.size) (hd : ∀ a ∈ qs, ∀ k, a.T k → ¬ q.T k) :
    HtL w0 S n Bd d H (fun k => C k ∨ (w1.heap.size ≤ k ∧ k < w2.heap.size)) sz ev v' vb (qs ++ [q]) bats (w2.setCell ⟨H, 3, none⟩ v') ∧ Chg C w (w2.setCell ⟨H, 3, none⟩ v') := by
  obtain ⟨hc, hV⟩ := h.chgBox hb hg (fun k hk => h.mine.2.1 k hk) 3 v'
  have hs := hb.size
  have hne : ∀ g, v'.ownBlock = some g → g ≠ H := fun g hgv e => by
    subst e
    rcases hv with e | e
    · exact h.ne.1 (e.symm.trans hgv)
    · rw [e] at hgv; injection hgv with hgv; have := h.lt; omega
  refine ⟨h.turn hc hV (fun k hk => .inl hk) (fun k hk => ?_) ?_ ?_ ?_ ⟨fun e => hne H e rfl, h.ne.2.1, fun g hgv e => ?_⟩ (fun g hgv => ?_) (fun g hgv => .inl (h.mine.2.2 g hgv)) (fun a ha => ?_) ?_, hc.mono hV⟩
  · rcases hk with hk | hk
    · exact .inl hk
    · exact .inr ⟨by omega, by simpa using hk.2⟩
  · rw [heap_setCell_same _ H 3 _ _ v' (h.boxAt hb hg h.ne.1)]; rfl
  · rw [List.length_append, List.length_singleton, List.map_append, List.map_singleton]
    exact ownsRow_same ho fun g hgv => Below.heap_setCell _ _ _ _ fun e => hne g hgv e
  · exact ownsRow_same h.bat fun g hgv => hc.block g (h.bat.lt g hgv).2 fun e => e.elim (fun e => h.ne.2.1 (e ▸ hgv)) fun e => h.ne.2.2 g e hgv
  · rcases hv with e2 | e2
    · exact h.ne.2.2 g (e2.symm.trans hgv) e
    · rw [e2] at hgv; injection hgv with hgv; have := (h.bat.lt g e).2; omega
  · rcases hv with e2 | e2
    · exact .inl (h.mine.2.1 g (e2.symm.trans hgv))
    · rw [e2] at hgv; injection hgv with hgv; exact .inr ⟨by omega, by have := (ho.lt g (by rw [e2, hgv])).2; omega⟩
  · rcases List.mem_append.1 ha with ha | ha
    · exact h.each a ha
    · rw [List.mem_singleton.1 ha]; exact hq
  · exact List.pairwise_append.2 ⟨h.two, by simp, fun a ha b hb2 => by rw [List.mem_singleton.1 hb2]; exact hd a ha⟩
/-- Its row of batches has one more. -/
theorem HtL.pushB (h : HtL w0 S n Bd d H C sz ev vs vb qs bats w) (b : Int × Int) (hb : Below w.heap.size w w1) (hg : w1.grownBy w2 vb.ownBlock) (ho : w2.ownsRow 0 103 2 v' (bats.length + 1) (bats.flatMap hbCells ++ hbCells b)) (hv : v'.ownBlock = vb.ownBlock ∨ v'.ownBlock = some w1.heap.size) :
    HtL w0 S n Bd d H (fun k => C k ∨ (w1.heap.size ≤ k ∧ k < w2.heap.size)) sz ev vs v' qs (bats ++ [b]) (w2.setCell ⟨H, 4, none⟩ v') ∧ Chg C w (w2.setCell ⟨H, 4, none⟩ v') := by
  obtain ⟨hc, hV⟩ := h.chgBox hb hg (fun k hk => h.mine.2.2 k hk) 4 v'
  have hs := hb.size
  have hne : ∀ g, v'.ownBlock = some g → g ≠ H := fun g hgv e => by
    subst e
    rcases hv with e | e
    · exact h.ne.2.1 (e.symm.trans hgv)
    · rw [e] at hgv; injection hgv with hgv; have := h.lt; omega
  refine ⟨h.turn hc hV (fun k hk => .inl hk) (fun k hk => ?_) ?_ ?_ ?_ ⟨h.ne.1, fun e => hne H e rfl, fun g hgv e => ?_⟩ (fun g hgv => .inl (h.mine.2.1 g hgv)) (fun g hgv => ?_) h.each h.two, hc.mono hV⟩
  · rcases hk with hk | hk
    · exact .inl hk
    · exact .inr ⟨by omega, by simpa using hk.2⟩
  · rw [heap_setCell_same _ H 4 _ _ v' (h.boxAt hb hg h.ne.2.1)]; rfl
  · exact ownsRow_same h.own fun g hgv => hc.block g (h.own.lt g hgv).2 fun e => e.elim (fun e => h.ne.1 (e ▸ hgv)) fun e => h.ne.2.2 g hgv e
  · rw [List.length_append, List.length_singleton, List.flatMap_append]
    simp only [List.flatMap_cons, List.flatMap_nil, List.append_nil]
    exact ownsRow_same ho fun g hgv => Below.heap_setCell _ _ _ _ fun e => hne g hgv e
  · rcases hv with e2 | e2
    · exact h.ne.2.2 g hgv (e2.symm.trans e)
    · rw [e2] at e; injection e with e; have := (h.own.lt g hgv).2; omega
  · rcases hv with e2 | e2
    · exact .inl (h.mine.2.2 g (e2.symm.trans hgv))
    · rw [e2] at hgv; injection hgv with hgv; exact .inr ⟨by omega, by have := (ho.lt g (by rw [e2, hgv])).2; omega⟩
/-- The disk has a segment more, that is not yet the log's. -/
theorem HtL.more (h : HtL w0 S n Bd d H C sz ev vs vb qs bats w) (hw : SgW w0 S' T' m Bd d' X s' w') (hc : Chg S w w') (hu : ∀ k, (S' k ∨ T' k) → Up S w w' k) :
    HtL w0 S' m Bd d' H C sz ev vs vb qs bats w' ∧ (∀ k, T' k → ¬ S' k ∧ ¬ C k ∧ w0.heap.size ≤ k ∧ k < w'.heap.size) ∧ ∀ a ∈ qs, ∀ k, a.T k → ¬ T' k := by
  have hs := hc.size
  have hC : ∀ k, C k → w'.heap[k]? = w.heap[k]? ∧ ¬ S' k ∧ ¬ T' k := fun k hk => by
    have hl := (h.lo k hk).2
    have key : ∀ P : Prop, Up S w w' k → P := fun P hx => by
      rcases hx with hx | hx
      · exact absurd hx (h.apart k hk)
      · omega
    exact ⟨hc.block k hl (h.apart k hk), fun hx => key _ (hu k (.inl hx)), fun hx => key _ (hu k (.inr hx))⟩
  have hO : ∀ a ∈ qs, ∀ k, a.T k → w'.heap[k]? = w.heap[k]? ∧ ¬ S' k ∧ ¬ T' k := fun a ha k hk => by
    obtain ⟨-, -, -, h4⟩ := h.each a ha
    have hl := (h4 k hk).2.2.2
    have key : ∀ P : Prop, Up S w w' k → P := fun P hx => by
      rcases hx with hx | hx
      · exact absurd hx (h4 k hk).1
      · omega
    exact ⟨hc.block k hl (h4 k hk).1, fun hx => key _ (hu k (.inl hx)), fun hx => key _ (hu k (.inr hx))⟩
  refine ⟨⟨hw.disk, ((hC H h.mine.1).1).trans h.box, ownsRow_same h.own fun g hg => (hC g (h.mine.2.1 g hg)).1, ownsRow_same h.bat fun g hg => (hC g (h.mine.2.2 g hg)).1, h.ne, h.mine, fun k hk => by have := h.lo k hk; omega, fun k hk => (hC k hk).2.1, fun a ha => ?_, h.two⟩, fun k hk => ⟨hw.apart k hk, fun hx => (hC k hx).2.2 hk, hw.lo k hk⟩, fun a ha k hk => (hO a ha k hk).2.2⟩
  obtain ⟨h1, h2, h3, h4⟩ := h.each a ha
  exact ⟨h1.same fun k hk _ => (hO a ha k hk).1, h2, h3, fun k hk => ⟨(hO a ha k hk).2.1, (h4 k hk).2.1, (h4 k hk).2.2.1, by have := (h4 k hk).2.2.2; omega⟩⟩
end
end Go.Proofs.YtcmgppacipdnaaaGreatDoor
