/-
  SegReads, plainly: the edges' times, the index that is built beside the segment.
-/
import Derived.Test.YtfdppggdgdnnaaaGreatDoorZ44
import Derived.Test.YtfdppggdgdnnaaaGreatDoorZ45
import Derived.Test.YtfdppggdgdnnaaaGreatDoorY46
namespace Go.Proofs.YtfdppggdgdnnaaaGreatDoor
open Go.RowKit

theorem maxT_nonneg : ∀ (rs : List Rc.Rec), (∀ r ∈ rs, 0 ≤ r.t) → 0 ≤ Rc.maxT rs
  | [], _ => Int.le_refl _
  | r :: rs, h => by
    have h0 := h r List.mem_cons_self
    have key : ∀ (l : List Rc.Rec) (m : Int), 0 ≤ m → 0 ≤ l.foldl (fun m x => max m x.t) m := by
      intro l
      induction l with
      | nil => intro m hm; exact hm
      | cons a l ih => intro m hm; exact ih _ (show 0 ≤ max m a.t by omega)
    exact key rs r.t h0
theorem Rw.go_time (zs : List Int) : ∀ (at_ : Int) (i ev : Nat), ∀ b ∈ Rw.go at_ i ev zs, 0 ≤ Rc.maxT b.recs := by
  induction zs with
  | nil => intro at_ i ev b hb; simp [Rw.go] at hb
  | cons z zs ih =>
    intro at_ i ev b hb
    rcases List.mem_cons.1 hb with rfl | hb
    · refine maxT_nonneg _ fun r hr => ?_
      obtain ⟨k, -, rfl⟩ := List.mem_map.1 hr
      show 0 ≤ 100 * (i : Int) + (k : Int)
      omega
    · exact ih _ _ _ b hb

section
variable {base every : Int} {bs : List Rc.Bat}
/-- The edge behind the first j batches: its place and time. -/
theorem eAt_time (hT : ∀ b ∈ bs, 0 ≤ Rc.maxT b.recs) : ∀ j, j ≤ bs.length → 0 ≤ (Sg.eAt (Sg.begin (Nm.seg base) base every) bs j).pos ∧ 0 ≤ (Sg.eAt (Sg.begin (Nm.seg base) base every) bs j).time ∧ ((Sg.eAt (Sg.begin (Nm.seg base) base every) bs j).pos = 0 → (Sg.eAt (Sg.begin (Nm.seg base) base every) bs j).time = 0)
  | 0, _ => ⟨Int.le_refl _, Int.le_refl _, fun _ => rfl⟩
  | j + 1, h => by
    obtain ⟨h1, h2, h3⟩ := eAt_time hT j (by omega)
    rw [Sg.eAt_succ _ _ j (by omega)]
    have hm := hT bs[j] (List.getElem_mem (by omega))
    have hp : 8 ≤ (Rc.bytes bs[j]).length := by rw [Rc.bytes_len]; omega
    refine ⟨?_, ?_, fun h => ?_⟩
    · show 0 ≤ _ + _; omega
    · show 0 ≤ (if 0 < (Sg.eAt (Sg.begin (Nm.seg base) base every) bs j).pos then max (Rc.maxT bs[j].recs) (Sg.eAt (Sg.begin (Nm.seg base) base every) bs j).time else Rc.maxT bs[j].recs)
      split <;> omega
    · have h' : (Sg.eAt (Sg.begin (Nm.seg base) base every) bs j).pos + ((Rc.bytes bs[j]).length : Int) = 0 := h
      omega
theorem eAt_next (hT : ∀ b ∈ bs, 0 ≤ Rc.maxT b.recs) (j : Nat) (hj : j < bs.length) : (Sg.eAt (Sg.begin (Nm.seg base) base every) bs (j + 1)).time = max (Sg.eAt (Sg.begin (Nm.seg base) base every) bs j).time (Rc.maxT bs[j].recs) := by
  obtain ⟨h1, h2, h3⟩ := eAt_time (base := base) (every := every) hT j (by omega)
  rw [Sg.eAt_succ _ _ j hj]
  have hm := hT bs[j] (List.getElem_mem hj)
  show (if 0 < (Sg.eAt (Sg.begin (Nm.seg base) base every) bs j).pos then max (Rc.maxT bs[j].recs) (Sg.eAt (Sg.begin (Nm.seg base) base every) bs j).time else Rc.maxT bs[j].recs) = _
  split
  · omega
  · have := h3 (by omega); omega
theorem ixs_time (hT : ∀ b ∈ bs, 0 ≤ Rc.maxT b.recs) : ∀ j, j < bs.length → (ixs every (Sg.begin (Nm.seg base) base every) bs (j + 1)).time = (Sg.eAt (Sg.begin (Nm.seg base) base every) bs (j + 1)).time
  | 0, h => by
    have h2 := (eAt_time (base := base) (every := every) hT (0 + 1) (by omega)).2.1
    show max (-1099511627776 : Int) (Sg.eAt (Sg.begin (Nm.seg base) base every) bs (0 + 1)).time = (Sg.eAt (Sg.begin (Nm.seg base) base every) bs (0 + 1)).time
    generalize (Sg.eAt (Sg.begin (Nm.seg base) base every) bs (0 + 1)).time = t at *
    omega
  | j + 1, h => by
    have h1 := ixs_time hT j (by omega)
    have h2 := eAt_next (base := base) (every := every) hT (j + 1) h
    show max (ixs every _ bs (j + 1)).time _ = _
    rw [h1]
    omega
end
theorem put_time {s : Ix.St} {t t' : Int} (h : max s.time t = max s.time t') (o p : Int) : Ix.put s o t p = Ix.put s o t' p := by
  unfold Ix.put; rw [h]
section
variable {d : Dk.St} {s : Sg.St} {room used base every : Int} {names : Dk.Dir} {x : Nat} {bs : List Rc.Bat}
/-- The index that is built beside takes each batch in. -/
theorem Mz.ixAdd (h : Mz d s room used names base every x bs) (ho : Sg.Ok s) (hT : ∀ b ∈ bs, 0 ≤ Rc.maxT b.recs) (hl : (bs.flatMap Rc.bytes).length ≤ 1000000) (j : Nat) (hj : j < bs.length) (L : Nat) (hL : 1 ≤ L) :
    Ix.good (ixs every (Sg.begin (Nm.seg base) base every) bs j) bs[j].base (Rc.maxT bs[j].recs) (((bs.take j).flatMap Rc.bytes).length : Nat) L ∧
    Ix.add (ixs every (Sg.begin (Nm.seg base) base every) bs j) bs[j].base (Rc.maxT bs[j].recs) (((bs.take j).flatMap Rc.bytes).length : Nat) L = (none, ixs every (Sg.begin (Nm.seg base) base every) bs (j + 1)) := by
  have hb := h.edOff j hj
  have hp := h.edPos j (by omega)
  have e0 := eAt_ed h j (by omega)
  have e1 := eAt_ed h (j + 1) (by omega)
  have hn := eAt_next (base := base) (every := every) hT j hj
  have h1 := ho.edge j (by rw [h.len]; omega)
  have h2 := ho.edge (j + 1) (by rw [h.len]; omega)
  rw [e0, e1] at hn
  have hm := hT bs[j] (List.getElem_mem hj)
  have h4 := Sg.flat_take_le bs j bs.length (by omega)
  rw [List.take_length] at h4
  have hg : Ix.good (ixs every (Sg.begin (Nm.seg base) base every) bs j) bs[j].base (Rc.maxT bs[j].recs) (((bs.take j).flatMap Rc.bytes).length : Nat) L := by
    refine ⟨by rw [← hb]; exact h1.1, ⟨by omega, by omega⟩, by omega, ⟨by omega, by omega⟩, fun a ha => ?_⟩
    obtain ⟨i, rfl, rfl⟩ := (ixs_adds _ _ _ _).2.2 a ha
    rw [eAt_ed h i (by omega), ← hb, ← hp]
    exact ⟨h.offs i (i + 1) (by omega) (by omega), h.poss i (i + 1) (by omega) (by omega)⟩
  refine ⟨hg, ?_⟩
  unfold Ix.add
  rw [if_pos hg]
  show (none, _) = (none, Ix.put (ixs every _ bs j) _ _ _)
  rw [e0, e1, hb, hp]
  congr 1
  refine put_time ?_ _ _
  cases j with
  | zero =>
    have h0 : (Sg.ed s.edges 0).time = 0 := by rw [← e0]; rfl
    rw [hn, h0]
    congr 1
    omega
  | succ j =>
    have ht := ixs_time (base := base) (every := every) hT j (by omega)
    rw [ht, e0, hn]
    omega
theorem Mz.ixInv (h : Mz d s room used names base every x bs) (ho : Sg.Ok s) (hT : ∀ b ∈ bs, 0 ≤ Rc.maxT b.recs) (hl : (bs.flatMap Rc.bytes).length ≤ 1000000) (he : 1 ≤ every ∧ every ≤ 1048576) : ∀ j, j ≤ bs.length → Ix.Inv0 (ixs every (Sg.begin (Nm.seg base) base every) bs j)
  | 0, _ => Ix.Inv0.new every he
  | j + 1, hj => by
    have h1 := h.ixInv ho hT hl he j (by omega)
    have h2 := (h.ixAdd ho hT hl j (by omega) 1 (by omega)).2
    have h3 := h1.add bs[j].base (Rc.maxT bs[j].recs) (((bs.take j).flatMap Rc.bytes).length : Nat) (1 : Nat)
    rw [h2] at h3
    exact h3
end
theorem ixMarks_len : ∀ (l : List Ix.Mark) (a : Ix.Mark), Ix.steps a l → (Ix.marksB a l).length ≤ 30 * l.length
  | [], _, _ => Nat.le_refl _
  | m :: l, a, h => by
    have h1 := Ix.stepB_len a m h.1
    have h2 := ixMarks_len l m h.2
    simp only [Ix.marksB, List.length_append, List.length_cons]
    omega
theorem ixBytes_le {s : Ix.St} (h : Ix.Inv0 s) (hn : s.marks.length ≤ 4096) : (Ix.bytes s).length ≤ 24 + 30 * s.marks.length := by
  have h1 := ixMarks_len s.marks Ix.z0 h.steps
  have h2 := Vi.size_le10 (n := s.every.toNat) (by have := h.ok.every; omega)
  have h3 := Vi.size_le10 (n := s.marks.length) (by omega)
  unfold Vi.size at h2 h3
  rw [Ix.bytes_len]
  simp only [Ix.body, List.length_append]
  omega

theorem Mz.rawR {d : Dk.St} {s : Sg.St} {room used base every : Int} {names : Dk.Dir} {x : Nat} {bs : List Rc.Bat} (h : Mz d s room used names base every x bs) : sgRaw d s 0 (s.edges.length - 1) = (none, bs.flatMap Rc.bytes) := by
  have hl := h.len
  obtain ⟨z, hz⟩ := h
  have e := raw_adds d _ rfl rfl bs x (hz.has.find _ x hz.nm) hz.bytes 0 bs.length (Nat.zero_le _) (Nat.le_refl _)
  rw [List.drop_zero, Nat.sub_zero, List.take_length, ← hz.seg] at e
  rw [hl, Nat.add_sub_cancel]
  exact e

/-- An index behind a call that took one in. -/
structure IxPost (I : Nat) (ix : Ix.St) (S : Nat → Prop) (w W : World) : Prop where
  at_ : IxAt W I ix (Up S w W)
  chg : Chg S w W
theorem IxPost.grow {I : Nat} {ix : Ix.St} {S : Nat → Prop} {w W W' : World} (h : IxPost I ix S w W) (hb : Below W.heap.size W W') : IxPost I ix S w W' :=
  ⟨(h.at_.below hb).mono fun k hk => by rcases hk with hk | hk; exact .inl hk; exact .inr ⟨hk.1, Nat.lt_of_lt_of_le hk.2 hb.size⟩, h.chg.then (Chg.of_below hb)⟩
theorem IxPost.ahead {I : Nat} {ix : Ix.St} {S : Nat → Prop} {w w1 W : World} (hb : Below w.heap.size w w1) (h : IxPost I ix S w1 W) : IxPost I ix S w W :=
  ⟨h.at_.mono fun k hk => by
    have := hb.size
    rcases hk with hk | hk
    · exact .inl hk
    · exact .inr ⟨by omega, hk.2⟩, (Chg.of_below hb).then h.chg⟩
end Go.Proofs.YtfdppggdgdnnaaaGreatDoor
