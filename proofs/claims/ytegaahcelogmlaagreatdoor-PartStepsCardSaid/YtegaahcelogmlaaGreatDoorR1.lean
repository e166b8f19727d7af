/-
  A store's uploads: Start, Part, Abort.
  A store's uploads: the parts joined; Complete, Abort, Start.
  A store's Start.
  A store's uploads under a walk: Start, Part, Complete, Abort.
  A client's Start.
-/
import Derived.Test.YtegaahcelogmlaaGreatDoorT4
import Derived.LoopTactic
import Derived.Deep.LoopGhost
import Derived.Carry
import Derived.Test.YtegaahcelogmlaaGreatDoorU1
namespace Go.Proofs.YtegaahcelogmlaaGreatDoor
open Go.RowKit Go.Maps

section
variable {w : World} {sb ob ub : Nat} {sv : Value} {ov : St.Nm → Option Value} {pb : Int → Nat} {pv : Int → Int → Option Value} {s : St.S} {m : Nat} {S D : Nat → Prop}

/-- An upload begins: the box tells its number, the map of its parts is new. -/
theorem StoreL.putUp {w1 w2 : World} {g : Nat} {k : List UInt8} (h : StoreL w sb ob ub sv ov pb pv s m S D) (hk : k.length ≤ 64)
    (hc1 : Chg (fun k => k = sb) w w1) (hgw : w.heap.size ≤ g) (hgl : g < w1.heap.size)
    (hb : w1.heap[sb]? = some (.cells (stCells { s with last := s.last + 1 } ob ub sv) 51 (0, 0)))
    (hn : MapN w1 g 0 (fun _ => none))
    (hm : MapN w2 ub (m + 1) (updV (upV pb s) (s.last + 1) (some (.agg #[encStr k, .map (some g)])))) (hg : w1.grownBy w2 (some ub)) (hz : w2.heap.size = w1.heap.size) :
    StoreL w2 sb ob ub sv ov (fun i => if i = s.last + 1 then g else pb i) (fun i => if i = s.last + 1 then fun _ => none else pv i) { s with last := s.last + 1, ups := St.upd s.ups (s.last + 1) (some ⟨k, fun _ => none⟩) } (m + 1) (Up S w w2) D := by
  have hlastu : s.ups (s.last + 1) = none := by
    cases hu : s.ups (s.last + 1) with
    | none => rfl
    | some u => obtain ⟨_, _, _, _, _, _, hl, _⟩ := h.parts _ u hu; omega
  have nsb : ∀ k es clock, w.heap[k]? = some (.map es clock) → k ≠ sb := fun k es clock hk e => by
    subst e; rw [h.box] at hk; cases hk
  have hoth : ∀ x, x ≠ sb → x ≠ ub → x < w.heap.size → w2.heap[x]? = w.heap[x]? := fun x h1 h2 h3 => by
    rw [hg.block x (Nat.lt_of_lt_of_le h3 hc1.size) (by intro e; injection e with e; exact h2 e), hc1.block x h3 h1]
  have hsz : w.heap.size ≤ w2.heap.size := by have := hc1.size; omega
  have hD := fun (v : Value) (l : List UInt8) (hd : DataAt w D v l) => hd.kept hsz fun x hx hl => hoth x (fun e => h.sd _ h.msb (e ▸ hx)) (fun e => h.sd _ h.mub (e ▸ hx)) hl
  have hmp : ∀ {κ : Type} {kt : TypeId} {mk : κ → Lit} {x : Nat} {f : κ → Option Value}, MapV kt mk w x m f → x ≠ ub → MapV kt mk w2 x (m + 1) f := fun hmap hne => by
    obtain ⟨es, clock, he⟩ := hmap.isMap
    exact (hmap.same (hoth _ (nsb _ _ _ he) hne hmap.lt)).mono (Nat.le_succ _)
  have hub : ub < w.heap.size := h.lt _ (.inl h.mub)
  have hob : ob < w.heap.size := h.lt _ (.inl h.mob)
  have hsb : sb ≠ ub := fun e => by
    obtain ⟨es, clock, he⟩ := h.ups.isMap
    exact nsb _ _ _ he e.symm
  have hgu : g ≠ ub := by omega
  refine { box := ?_, objs := hmp h.objs h.ne, oat := fun x => (h.oat x).imp hD, ups := ?_, parts := fun i u hu => ?_, inj := fun i j hi hj e => ?_, ne := h.ne, scr := ?_, msb := .inl h.msb, mob := .inl h.mob, mub := .inl h.mub, sd := fun x hx hd => ?_, lt := fun x hx => ?_, keys := h.keys, last := ⟨by have := h.last.1; show 0 ≤ s.last + 1; omega, by have := h.last.2; show s.last + 1 ≤ _; omega⟩ }
  · rw [hg.block sb (Nat.lt_of_lt_of_le (h.lt _ (.inl h.msb)) hc1.size) (by intro e; injection e with e; exact hsb e), hb]
    rfl
  · have e : upV (fun i => if i = s.last + 1 then g else pb i) { s with last := s.last + 1, ups := St.upd s.ups (s.last + 1) (some ⟨k, fun _ => none⟩) } = updV (upV pb s) (s.last + 1) (some (.agg #[encStr k, .map (some g)])) := by
      funext i
      by_cases e : i = s.last + 1
      · subst e; simp [upV, updV, St.upd]
      · simp [upV, updV, St.upd, e]
    rw [e]; exact hm
  · by_cases e : i = s.last + 1
    · subst e
      simp only [St.upd, if_true] at hu
      obtain rfl := Option.some.inj hu
      simp only [if_true]
      refine ⟨(hn.same (hg.block g hgl (by intro e; injection e with e; exact hgu e))).mono (Nat.zero_le _), fun n => trivial, .inr ⟨hgw, by omega⟩, by omega, hgu, by have := h.last.1; omega, Int.le_refl _, hk⟩
    · simp only [St.upd, if_neg e] at hu ⊢
      obtain ⟨p1, p2, p3, p4, p5, p6, p7, p8⟩ := h.parts i u hu
      exact ⟨hmp p1 p5, fun n => (p2 n).imp hD, .inl p3, p4, p5, p6, (by show i ≤ s.last + 1; omega), p8⟩
  · have hlt : ∀ i, s.ups i ≠ none → pb i < w.heap.size := fun i hi => by
      obtain ⟨u, hu⟩ := Option.ne_none_iff_exists'.1 hi
      exact (h.parts i u hu).1.lt
    simp only [St.upd] at hi hj
    by_cases e1 : i = s.last + 1
    · by_cases e2 : j = s.last + 1
      · rw [e1, e2]
      · simp only [e1, if_true, if_neg e2] at e hj
        have := hlt j hj; omega
    · by_cases e2 : j = s.last + 1
      · simp only [e2, if_true, if_neg e1] at e hi
        have := hlt i hi; omega
      · simp only [if_neg e1, if_neg e2] at e hi hj
        exact h.inj i j hi hj e
  · exact (h.scr.kept fun x hx hl ⟨cs, hcs⟩ => hoth x (fun e => by subst e; rw [h.box] at hcs; injection hcs with hcs; injection hcs with _ hcs _; exact absurd hcs (by decide)) (fun e => by subst e; obtain ⟨es, clock, he⟩ := h.ups.isMap; rw [hcs] at he; cases he) hl).mono fun _ h => .inl h
  · rcases hx with hx | hx
    · exact h.sd _ hx hd
    · have := h.lt _ (.inr hd); omega
  · rcases hx with (hx | hx) | hx
    · have := h.lt _ (.inl hx); omega
    · exact hx.2
    · have := h.lt _ (.inr hx); omega
/-- A part is laid. -/
theorem StoreL.putPart {w1 w2 : World} (h : StoreL w sb ob ub sv ov pb pv s m S D) (hb : Below w.heap.size w w1) {id n : Int} {u : St.Up} (hu : s.ups id = some u) {v : Value} {b : List UInt8} (hv : Own w1 w.heap.size v b) (hl : b.length ≤ 1000000000)
    (hm : MapN w2 (pb id) (m + 1) (updV (pv id) n (some v))) (hg : w1.grownBy w2 (some (pb id))) (hz : w2.heap.size = w1.heap.size) :
    StoreL w2 sb ob ub sv ov pb (fun i => if i = id then updV (pv id) n (some v) else pv i) { s with ups := St.upd s.ups id (some { u with parts := St.upd u.parts n (some b) }) } (m + 1) S (fun g => D g ∨ v.ownBlock = some g) := by
  have h1 := h.kept (w' := w1) hb.size fun k _ hl => hb.block k hl
  have hlt := hv.lt
  obtain ⟨q1, q2, q3, q4, q5, q6, q7, q8⟩ := h1.parts id u hu
  have hoth : ∀ g, g ≠ pb id → g < w1.heap.size → w2.heap[g]? = w1.heap[g]? := fun g hne hl => hg.block g hl (by intro e; injection e with e; exact hne e)
  have nD : ∀ g, D g ∨ v.ownBlock = some g → g ≠ pb id := fun g hx e => by
    rcases hx with hx | hx
    · exact h.sd _ q3 (e ▸ hx)
    · have := (hlt _ hx).1; have := h.lt _ (.inl q3); omega
  have hD : ∀ v' l', DataAt w1 D v' l' → DataAt w2 (fun g => D g ∨ v.ownBlock = some g) v' l' := fun v' l' hd => (hd.mono fun _ h => .inl h).kept (by omega) fun g hg' hl => hoth g (nD g hg') hl
  have hnew : DataAt w2 (fun g => D g ∨ v.ownBlock = some g) v b := (hv.data hl).kept (by omega) fun g hg' hl => hoth g (nD g hg') hl
  have hmp : ∀ {κ : Type} {kt : TypeId} {mk : κ → Lit} {x : Nat} {f : κ → Option Value}, MapV kt mk w1 x m f → x ≠ pb id → MapV kt mk w2 x (m + 1) f := fun hmap hne => (hmap.same (hoth _ hne hmap.lt)).mono (Nat.le_succ _)
  have hsb : sb ≠ pb id := fun e => by
    obtain ⟨es, clock, he⟩ := q1.isMap
    rw [← e, h1.box] at he; cases he
  have hup : ∀ i, St.upd s.ups id (some { u with parts := St.upd u.parts n (some b) }) i ≠ none → s.ups i ≠ none := fun i hi => by
    by_cases e : i = id
    · rw [e, hu]; simp
    · simpa [St.upd, e] using hi
  refine { box := (hoth _ hsb (h1.lt _ (.inl h.msb))).trans h1.box, objs := hmp h1.objs (Ne.symm q4), oat := fun x => (h1.oat x).imp hD, ups := ?_, parts := fun i u' hu' => ?_, inj := fun i j hi hj e => h.inj i j (hup i hi) (hup j hj) e, ne := h.ne, scr := h1.scr.kept fun g hS hl ⟨cs, hcs⟩ => hoth g (fun e => ?_) hl, msb := h.msb, mob := h.mob, mub := h.mub, sd := fun g hS hx => ?_, lt := fun g hx => ?_, keys := h.keys, last := ⟨h.last.1, by have := h.last.2; show s.last ≤ _; omega⟩ }
  · have e : upV pb { s with ups := St.upd s.ups id (some { u with parts := St.upd u.parts n (some b) }) } = upV pb s := by
      funext i
      by_cases e : i = id
      · subst e; simp [upV, St.upd, hu]
      · simp [upV, St.upd, e]
    rw [e]; exact hmp h1.ups (Ne.symm q5)
  · by_cases e : i = id
    · subst e
      simp only [St.upd, if_true] at hu' ⊢
      obtain rfl := Option.some.inj hu'
      refine ⟨hm, fun n' => ?_, q3, q4, q5, q6, q7, q8⟩
      by_cases e : n' = n
      · subst e; simp only [updV, St.upd, if_true]; exact hnew
      · simp only [updV, St.upd, if_neg e]; exact (q2 n').imp hD
    · simp only [St.upd, if_neg e] at hu' ⊢
      obtain ⟨p1, p2, p3, p4, p5, p6, p7, p8⟩ := h1.parts i u' hu'
      exact ⟨hmp p1 fun e' => e (h.inj i id (by rw [hu']; simp) (by rw [hu]; simp) e'), fun n => (p2 n).imp hD, p3, p4, p5, p6, p7, p8⟩
  · subst e
    obtain ⟨es, clock, he⟩ := q1.isMap
    rw [hcs] at he; cases he
  · rcases hx with hx | hx
    · exact h.sd _ hS hx
    · have := (hlt _ hx).1; have := h.lt _ (.inl hS); omega
  · rw [hz]
    rcases hx with hx | hx | hx
    · exact h1.lt _ (.inl hx)
    · exact h1.lt _ (.inr hx)
    · exact (hlt _ hx).2
/-- An upload is let go. -/
theorem StoreL.dropUp {w2 : World} (h : StoreL w sb ob ub sv ov pb pv s m S D) {id : Int} (hm : MapN w2 ub m (updV (upV pb s) id none)) (hg : w.grownBy w2 (some ub)) (hz : w2.heap.size = w.heap.size) :
    StoreL w2 sb ob ub sv ov pb pv { s with ups := St.upd s.ups id none } m S D := by
  have hoth : ∀ g, g ≠ ub → g < w.heap.size → w2.heap[g]? = w.heap[g]? := fun g hne hl => hg.block g hl (by intro e; injection e with e; exact hne e)
  have hD := fun (v : Value) (l : List UInt8) (hd : DataAt w D v l) => hd.kept (w' := w2) (by omega) fun g hx hl => hoth g (fun e => h.sd _ h.mub (e ▸ hx)) hl
  have hmp : ∀ {κ : Type} {kt : TypeId} {mk : κ → Lit} {x : Nat} {f : κ → Option Value}, MapV kt mk w x m f → x ≠ ub → MapV kt mk w2 x m f := fun hmap hne => hmap.same (hoth _ hne hmap.lt)
  have hsb : sb ≠ ub := fun e => by
    obtain ⟨es, clock, he⟩ := h.ups.isMap
    rw [← e, h.box] at he; cases he
  have hup : ∀ i u, St.upd s.ups id none i = some u → s.ups i = some u ∧ i ≠ id := fun i u hi => by
    by_cases e : i = id
    · simp [St.upd, e] at hi
    · exact ⟨by simpa [St.upd, e] using hi, e⟩
  have hup2 : ∀ i, St.upd s.ups id none i ≠ none → s.ups i ≠ none := fun i hi => by
    obtain ⟨u, hu⟩ := Option.ne_none_iff_exists'.1 hi
    rw [(hup i u hu).1]; simp
  refine { box := (hoth _ hsb (h.lt _ (.inl h.msb))).trans h.box, objs := hmp h.objs h.ne, oat := fun x => (h.oat x).imp hD, ups := ?_, parts := fun i u hu => ?_, inj := fun i j hi hj e => h.inj i j (hup2 i hi) (hup2 j hj) e, ne := h.ne, scr := h.scr.kept fun g hS hl ⟨cs, hcs⟩ => hoth g (fun e => ?_) hl, msb := h.msb, mob := h.mob, mub := h.mub, sd := h.sd, lt := fun g hx => by rw [hz]; exact h.lt g hx, keys := h.keys, last := h.last }
  · have e : upV pb { s with ups := St.upd s.ups id none } = updV (upV pb s) id none := by
      funext i
      by_cases e : i = id
      · subst e; simp [upV, updV, St.upd]
      · simp [upV, updV, St.upd, e]
    rw [e]; exact hm
  · obtain ⟨p1, p2, p3, p4, p5, p6, p7, p8⟩ := h.parts i u (hup i u hu).1
    exact ⟨hmp p1 p5, fun n => (p2 n).imp hD, p3, p4, p5, p6, p7, p8⟩
  · subst e
    obtain ⟨es, clock, he⟩ := h.ups.isMap
    rw [hcs] at he; cases he
/-- What is at a number, as a look-up tells it. -/
theorem StoreL.lookUp (h : StoreL w sb ob ub sv ov pb pv s m S D) (id : Int) (hid : -9223372036854775808 ≤ id ∧ id ≤ 9223372036854775807) (W : World) (hW : Below w.heap.size w W) :
    (Instr.lookup 49 (.map (some ub)) (.int .i64 id) true).run Tryz.prog W = .ok (.tuple #[((upV pb s) id).getD (.agg #[encStr [], .map none]), .bool (s.ups id).isSome]) W := by
  have h1 := (show MapN W ub m (upV pb s) from h.ups.same (hW.block _ h.ups.lt)).look intK map_ups (zero_upload W) id (intKey hid)
  rw [h1]
  have e : (upV pb s id).isSome = (s.ups id).isSome := by simp [upV]
  rw [e]
end

set_option maxRecDepth 100000 in
set_option maxHeartbeats 1000000 in
/-- The closure of Part. -/
theorem stPart1_any (p : Nat → Addr) {w : World} {sb ob ub : Nat} {sv : Value} {ov : St.Nm → Option Value} {pb : Int → Nat} {pv : Int → Int → Option Value} {s : St.S} {m : Nat} {S D : Nat → Prop} (h : StoreL w sb ob ub sv ov pb pv s m S D) (hm : m ≤ 1000000000)
    (hs6 : w.cell? ⟨2, 0, none⟩ = some (errV (p 6))) (hs4 : w.cell? ⟨0, 0, none⟩ = some (errV (p 4))) (xb ib nb bb : Nat) (id n : Int) (hid : -9223372036854775808 ≤ id ∧ id ≤ 9223372036854775807) (hn : -9223372036854775808 ≤ n ∧ n ≤ 9223372036854775807) (A : Option Addr) (l c : Nat) (b : List UInt8) (ha : Arg w A c b) (hl : b.length = l) (hl2 : l ≤ 1000000000)
    (c1 : w.cell? ⟨xb, 0, none⟩ = some (.pointer (some ⟨sb, 0, none⟩))) (c2 : w.cell? ⟨ib, 0, none⟩ = some (.int .i64 id)) (c3 : w.cell? ⟨nb, 0, none⟩ = some (.int .i64 n)) (c4 : w.cell? ⟨bb, 0, none⟩ = some (.slice A l c)) :
    Calls Tryz.prog 60 #[.pointer (some ⟨xb, 0, none⟩), .pointer (some ⟨ib, 0, none⟩), .pointer (some ⟨nb, 0, none⟩), .pointer (some ⟨bb, 0, none⟩)] w fun e w' => e = .returned (errR p (s.partF id n b).1.2) ∧ StPost w sb (s.partF id n b).2 (m + 1) S D w' := by
  have HLK := fun W hW => h.lookUp id hid W hW
  have b1 : w.cell? ⟨sb, 1, none⟩ = some (.map (some ub)) := box_cell h.box 1
  unfold errV at hs6 hs4
  have HH := hide h
  obtain ⟨r, hr⟩ : ∃ r, s.partF id n b = r := ⟨_, rfl⟩
  rw [hr]
  unfold St.S.partF at hr
  cases hu : s.ups id with
  | none =>
    rw [hu] at hr HLK
    subst hr
    have e : upV pb s id = none := by simp [upV, hu]
    rw [e] at HLK
    simp only [Option.getD_none, Option.isSome_none] at HLK
    have hlk1 := HLK w.drew (below_drewN (Below.refl _ _) 1)
    have hlk2 := fun o => HLK (w.alloc o).drew (below_drewN (balloc (Below.refl _ _) o) 1)
    have up : ∀ {a : Addr} {v : Value}, w.cell? a = some v → ∀ o, (w.alloc o).cell? a = some v := fun ha o => (World.cell?_alloc_lt w o _ (World.block_lt_of_cell? _ _ ha)).trans ha
    have d1 := up c1
    have d2 := up c2
    have db := up b1
    have d6 := up hs6
    clear h HLK ha hu e up
    go_enter Tryz.func60, Tryz.ntmps60
    go_wp2_with fail
    go_region
    go_wp2_with fail
    go_ret
    exact ⟨rfl, (StPost.of_same (IsStore.below ⟨_, _, _, _, _, _, HH.out⟩ (below_drewN (balloc (Below.refl _ _) _) 1)) (Chg.of_below (below_drewN (balloc (Below.refl _ _) _) 1))).mono (Nat.le_succ _)⟩
  | some u =>
    rw [hu] at hr HLK
    simp only at hr
    have e : upV pb s id = some (.agg #[encStr u.name, .map (some (pb id))]) := by simp [upV, hu]
    rw [e] at HLK
    simp only [Option.getD_some, Option.isSome_some] at HLK
    have hlk1 := HLK w.drew (below_drewN (Below.refl _ _) 1)
    have hlk2 := fun o => HLK (w.alloc o).drew (below_drewN (balloc (Below.refl _ _) o) 1)
    have up : ∀ {a : Addr} {v : Value}, w.cell? a = some v → ∀ o, (w.alloc o).cell? a = some v := fun ha o => (World.cell?_alloc_lt w o _ (World.block_lt_of_cell? _ _ ha)).trans ha
    have d1 := up c1
    have d2 := up c2
    have db := up b1
    have HU := hide hu
    have HA := hide ha
    clear h HLK hu e up ha
    go_enter Tryz.func60, Tryz.ntmps60
    go_wp2_with fail
    go_region
    obtain ⟨W1, hW1⟩ : ∃ W1, W1 = (w.alloc (.cells #[.string ⟨u.name.toArray⟩, .map (some (pb id))] 69)).drew := ⟨_, rfl⟩
    rw [← hW1]
    have hb1 : Below w.heap.size w W1 := hW1 ▸ below_drewN (balloc (Below.refl _ _) _) 1
    have k0 : W1.cell? ⟨w.heap.size, 0, none⟩ = some (.string ⟨u.name.toArray⟩) := by rw [hW1]; show (w.alloc _).cell? _ = _; rw [World.cell?_alloc_mark]; rfl
    have k1 : W1.cell? ⟨w.heap.size, 1, none⟩ = some (.map (some (pb id))) := by rw [hW1]; show (w.alloc _).cell? _ = _; rw [World.cell?_alloc_mark]; rfl
    have hh1 := HH.out.kept (w' := W1) hb1.size fun g _ hl => hb1.block g hl
    have HH1 := hide hh1
    have HB1 := hide hb1
    have up1 : ∀ {a : Addr} {v : Value}, w.cell? a = some v → W1.cell? a = some v := fun ha => (hb1.cell (p := _) (World.block_lt_of_cell? _ _ ha)).trans ha
    have x3 := up1 c3
    have x4 := up1 c4
    have x5 := up1 hs4
    clear c1 c2 c3 c4 b1 hs6 hs4 d1 d2 db up1 hlk1 hlk2 hh1 hb1 hW1
    have HBAD : Hid (∀ W, Below W1.heap.size W1 W → StPost w sb s (m + 1) S D W) := hide (fun W hW => (StPost.of_same (IsStore.below ⟨_, _, _, _, _, _, HH.out⟩ (HB1.out.trans (hW.mono HB1.out.size))) (Chg.of_below (HB1.out.trans (hW.mono HB1.out.size)))).mono (Nat.le_succ _))
    by_cases n0 : n < 0
    · rw [if_pos (.inl n0)] at hr
      subst hr
      go_wp2_with fail
      go_ret
      exact ⟨rfl, HBAD.out _ (Below.refl _ _)⟩
    · by_cases n1 : 256 ≤ n
      · rw [if_pos (.inr n1)] at hr
        subst hr
        go_wp2_with fail
        go_ret
        exact ⟨rfl, HBAD.out _ (Below.refl _ _)⟩
      · rw [if_neg (by omega)] at hr
        subst hr
        have HC := hide (fun W (hW : Below W1.heap.size W1 W) => bclone_any A c l b W hl hl2 ((HA.out.below HB1.out (Nat.le_refl _)).below hW (Nat.le_refl _)))
        have HLN := hide hl
        have HN0 := hide (show -9223372036854775808 ≤ n ∧ n ≤ 9223372036854775807 by omega)
        clear HBAD hl
        go_wp2_with fail
        refine wp_region_store (G := Gro) gro_goes [26, 27, 28, 29, 30] (fun d => match d with
          | 26 => .is (.pointer (some ⟨w.heap.size, 1, none⟩)) | 27 => .is (.map (some (pb id))) | 28 => .is (.int .i64 n) | 29 => .is (.slice A l c) | 30 => heldRow W1.heap.size b | _ => .any) _ (by kernel_rfl) (by kernel_rfl) rfl (by kernel_rfl) ?_ ?_
        · simp only [List.size_toArray, List.length_cons, List.length_nil, List.take_succ_cons, List.take_zero, StepsH, Nat.reduceAdd, Nat.reduceSub]
          refine ⟨?_, ?_, ?_, ?_, ?_, trivial⟩
          all_goals
            intro ev w2 hb hev hd
            have ev5 : ev (.tmp 5) = .pointer (some ⟨w.heap.size, 0, none⟩) := hev _ (by simp)
            have ev2 : ev (.tmp 2) = .pointer (some ⟨nb, 0, none⟩) := hev _ (by simp)
            have ev3 : ev (.tmp 3) = .pointer (some ⟨bb, 0, none⟩) := hev _ (by simp)
            have evf : ∀ f, ev (.func f) = .func (.func f) #[] #[] := fun f => hev _ (by simp)
            have z1 := (hb.cell (p := ⟨w.heap.size, 1, none⟩) (World.block_lt_of_cell? _ _ k1)).trans k1
            have z2 := (hb.cell (p := ⟨nb, 0, none⟩) (World.block_lt_of_cell? _ _ x3)).trans x3
            have z3 := (hb.cell (p := ⟨bb, 0, none⟩) (World.block_lt_of_cell? _ _ x4)).trans x4
            have HB2 : Hid (Below W1.heap.size W1 w2) := hide ((Below.refl W1.heap.size W1).drew.trans hb)
            clear hev hb k0 k1 x3 x4 x5
            simp [DepsG, Held.is] at hd
            try simp [OpRuns, execOp, go_sem, Held.is, Below.refl, Gro, *]
          exact (HC.out _ HB2.out).mono fun e w'' ⟨v, he, ho, hb⟩ => ⟨v, he, hb, ho.mono HB2.out.size⟩
        · intro f w4 hb hf
          have e27 : f 27 = .map (some (pb id)) := hf 27 (by simp)
          have e28 : f 28 = .int .i64 n := hf 28 (by simp)
          have e30 : Own w4 W1.heap.size (f 30) b := hf 30 (by simp)
          have HB4 : Hid (Below W1.heap.size W1 w4) := hide ((Below.refl W1.heap.size W1).drew.trans hb)
          have HO4 := hide e30
          have hh4 := HH1.out.kept (w' := w4) HB4.out.size fun g _ hl => HB4.out.block g hl
          clear hb hf e30
          simp only [puts, Act.put, List.setIfInBounds_toArray, List.set_cons_succ, List.set_cons_zero]
          rw [e27, e28]
          clear e27 e28
          generalize f 30 = v at *
          generalize f 26 = z26
          generalize f 29 = z29
          clear f
          refine wpList_putV rfl (.tmp 27) (.tmp 28) (.tmp 30) _ _ rfl intK map_parts (pb id) m (pv id) rfl (hh4.parts id u HU.out).1 _ n rfl (intKey HN0.out) (intInj n) v rfl (by omega) ?_
          intro w5 hm5 hg5 hz5
          have HF := hide (HH1.out.putPart HB4.out HU.out HO4.out (by have := HLN.out; omega) hm5 hg5 hz5)
          have HC5 : Hid (Chg S w w5) := hide (((Chg.of_below HB1.out).then (Chg.of_below HB4.out)).then (Chg.of_grown hg5 fun g e => by injection e with e; exact e ▸ (HH.out.parts id u HU.out).2.2.1))
          have HZ5 := hide hz5
          clear hh4 hm5 hg5 hz5
          go_wp2_with fail
          go_ret
          have hlt := HO4.out.lt
          exact ⟨rfl, ⟨⟨S, _, ⟨_, _, _, _, _, _, HF.out⟩, fun _ h => .inl h, fun g hg => by rcases hg with hg | hg; exact .inl hg; exact .inr (by have := hlt g hg; have := HZ5.out; have := HB1.out.size; omega)⟩, HC5.out⟩⟩
end Go.Proofs.YtegaahcelogmlaaGreatDoor

namespace Go.Proofs.YtegaahcelogmlaaGreatDoor
open Go.RowKit Go.Maps

theorem St.joinN_le {f : Int → Option (List UInt8)} {k n : Nat} (hk : k ≤ n) {b : List UInt8} (h : St.joinN f n = some b) : ∃ a, St.joinN f k = some a := by
  induction n generalizing b with
  | zero => obtain rfl : k = 0 := by omega
            exact ⟨_, h⟩
  | succ n ih =>
    by_cases e : k = n + 1
    · subst e; exact ⟨_, h⟩
    · simp only [St.joinN] at h
      cases hj : St.joinN f n with
      | none => rw [hj] at h; cases h
      | some a => exact ih (by omega) hj
theorem St.joinN_step {f : Int → Option (List UInt8)} {n : Nat} {a b : List UInt8} (h1 : St.joinN f n = some a) (h2 : f (n : Int) = some b) : St.joinN f (n + 1) = some (a ++ b) := by
  simp only [St.joinN, h1, h2]
theorem St.joinN_none {f : Int → Option (List UInt8)} {k n : Nat} (hk : k < n) (h : f (k : Int) = none) : St.joinN f n = none := by
  cases hj : St.joinN f n with
  | none => rfl
  | some b =>
    obtain ⟨a, ha⟩ := St.joinN_le (show k + 1 ≤ n from hk) hj
    simp only [St.joinN, h] at ha
    split at ha <;> simp_all

set_option maxRecDepth 100000 in
set_option maxHeartbeats 1000000 in
theorem stJoin_any (p : Nat → Addr) (w : World) (x m : Nat) (D : Nat → Prop) (k : List UInt8) (pvx : Int → Option Value) (f : Int → Option (List UInt8)) (parts : Int) (hm : MapN w x m pvx) (hp : ∀ n, Both (DataAt w D) (pvx n) (f n)) (hs4 : w.cell? ⟨0, 0, none⟩ = some (errV (p 4)))
    (hsum : ∀ n b, n ≤ 256 → St.joinN f n = some b → b.length ≤ 1000000000) :
    Calls Tryz.prog 62 #[.agg #[encStr k, .map (some x)], .int .i64 parts] w fun e w' => (parts < 0 ∨ 256 < parts ∨ St.joinN f parts.toNat = none) ∧ e = .returned (.tuple #[.slice none 0 0, errR p (some 4)]) ∧ Below w.heap.size w w' ∨
      ¬ (parts < 0 ∨ 256 < parts) ∧ ∃ b v, St.joinN f parts.toNat = some b ∧ e = .returned (.tuple #[v, errR p none]) ∧ Own w' w.heap.size v b ∧ b.length ≤ 1000000000 ∧ Below w.heap.size w w' := by
  obtain ⟨W1, hW1⟩ : ∃ W1, W1 = w.alloc (.cells #[encStr k, .map (some x)] 69) := ⟨_, rfl⟩
  have hb1 : Below w.heap.size w W1 := hW1 ▸ balloc (Below.refl _ _) _
  have k1 : W1.cell? ⟨w.heap.size, 1, none⟩ = some (.map (some x)) := by rw [hW1, World.cell?_alloc_mark]; rfl
  have hs4' : W1.cell? ⟨0, 0, none⟩ = some (errV (p 4)) := (hb1.cell (p := ⟨0, 0, none⟩) (World.block_lt_of_cell? _ _ hs4)).trans hs4
  have hwl : w.heap.size < W1.heap.size := World.block_lt_of_cell? _ _ k1
  have HLK := hide (fun (W : World) (hW : Below w.heap.size w W) (n : Int) (hn : -9223372036854775808 ≤ n ∧ n ≤ 9223372036854775807) => (hm.same (hW.block _ hm.lt)).look intK map_parts (zero_bytes W) n (intKey hn))
  have HP := hide hp
  have HSUM := hide hsum
  have HB1 := hide hb1
  have HS4 := hide hs4'
  have HW := hide hW1
  have HWL := hide hwl
  clear hm hp hsum hs4 hb1 hW1
  unfold errV at hs4'
  by_cases h0 : parts < 0
  · go_enter Tryz.func62, Tryz.ntmps62
    go_wp2_with fail
    rw [← HW.out]
    go_quiet (fail)
    go_wp2_with fail
    go_returns
    exact .inl ⟨.inl h0, rfl, below_drewN HB1.out _⟩
  · by_cases h1 : 256 < parts
    · go_enter Tryz.func62, Tryz.ntmps62
      go_wp2_with fail
      rw [← HW.out]
      go_quiet (fail)
      go_wp2_with fail
      go_returns
      exact .inl ⟨.inr (.inl h1), rfl, below_drewN HB1.out _⟩
    · obtain ⟨N', rfl⟩ : ∃ N' : Nat, parts = (N' : Int) := ⟨parts.toNat, by omega⟩
      have hN : N' ≤ 256 := by omega
      go_enter Tryz.func62, Tryz.ntmps62
      go_wp2_with fail
      rw [← HW.out]
      go_loopw [6, 18] (fun v i wr => ∃ (j : Nat) (a : List UInt8), j ≤ N' ∧ i = .int .i64 j ∧ Own wr W1.heap.size v a ∧ St.joinN f j = some a ∧ Below W1.heap.size W1 wr) (fun _ i _ => N' - (intOf i).toNat)
      case atStart => exact ⟨0, [], Nat.zero_le _, rfl, Own.nil _ _, rfl, Below.refl _ _⟩
      case round =>
        obtain ⟨j, a, hj, rfl, hown, hjo, hbw⟩ := hrel
        obtain ⟨Av, cv, rfl, -⟩ := hown.arg
        have k2 : wr.cell? ⟨w.heap.size, 1, none⟩ = some (.map (some x)) := (hbw.cell (p := ⟨w.heap.size, 1, none⟩) HWL.out).trans k1
        have s4 := (hbw.cell (p := ⟨0, 0, none⟩) (World.block_lt_of_cell? _ _ HS4.out)).trans HS4.out
        unfold errV at s4
        have HBW := hide (HB1.out.trans (hbw.mono HB1.out.size))
        have HBX := hide hbw
        have HOWN := hide hown
        have HJO := hide hjo
        have HAL := hide (HSUM.out j a (by omega) hjo)
        have HLAX := HAL
        clear hown hjo hbw
        generalize hal : a.length = al at *
        have HLA := hide hal
        clear hal
        by_cases hlt : j < N'
        · have hlk := HLK.out wr HBW.out (j : Int) (by omega)
          have hpj := HP.out (j : Int)
          cases hf : f (j : Int) with
          | none =>
            cases hpv : pvx (j : Int) with
            | some v => rw [hpv, hf] at hpj; exact hpj.elim
            | none =>
              rw [hpv] at hlk
              simp only [Option.getD_none, Option.isSome_none] at hlk
              have HNO := hide (St.joinN_none hlt hf)
              clear hpj hf hpv
              go_wp2_with fail
              go_quiet (fail)
              go_wp2_with fail
              go_returns
              exact .inl ⟨.inr (.inr HNO.out), rfl, below_drewN HBW.out _⟩
          | some b =>
            cases hpv : pvx (j : Int) with
            | none => rw [hpv, hf] at hpj; exact hpj.elim
            | some v =>
              rw [hpv, hf] at hpj
              rw [hpv] at hlk
              obtain ⟨Ab, cb, rfl, q1, q2, q3, q4, q5, q6⟩ := hpj
              simp only [Option.getD_some, Option.isSome_some] at hlk
              have hst := St.joinN_step HJO.out hf
              have hlen := HSUM.out (j + 1) (a ++ b) (by omega) hst
              rw [List.length_append] at hlen
              have HST := hide hst
              have HRD := hide (q5.below HBW.out (Nat.le_refl _))
              generalize hbl : b.length = L at *
              have HBL := hide hbl
              have HLEN : Hid (al + L ≤ 1000000000) := hide (by have := HLA.out; omega)
              clear hf hpv hst hlen hbl q1 q2 q3 q4 q5 q6
              go_wp2_with (at_builtin; refine wpList_app (w := wr) rfl (.tmp 31) (.tmp 32) rfl W1.heap.size _ a b rfl HOWN.out Ab L cb rfl HBL.out HRD.out (by have := HLEN.out; have := HLA.out; omega) HBX.out.size ?_; intro v' w' hown' hg' hv')
              exact ⟨⟨j + 1, a ++ b, by omega, by simp, hown', HST.out, HBX.out.grown hg' HBX.out.size (fun g hg => (HOWN.out.lt g hg).1)⟩, by simp [intOf]; omega⟩
        · obtain rfl : j = N' := by omega
          go_wp2_with fail
          go_returns
          exact .inr ⟨by omega, a, _, by simpa using HJO.out, rfl, by have h9 := HOWN.out; exact h9.mono (by omega), by rw [HLA.out]; exact HLAX.out, HBW.out⟩

set_option maxRecDepth 100000 in
set_option maxHeartbeats 1000000 in
/-- The closure of Complete. -/
theorem stComp1_any (p : Nat → Addr) {w : World} {sb ob ub : Nat} {sv : Value} {ov : St.Nm → Option Value} {pb : Int → Nat} {pv : Int → Int → Option Value} {s : St.S} {m : Nat} {S D : Nat → Prop} (h : StoreL w sb ob ub sv ov pb pv s m S D) (hm : m ≤ 1000000000)
    (hs4 : w.cell? ⟨0, 0, none⟩ = some (errV (p 4))) (hs6 : w.cell? ⟨2, 0, none⟩ = some (errV (p 6))) (xb ib nb : Nat) (id n : Int) (hsum : ∀ u, s.ups id = some u → ∀ k b, k ≤ 256 → St.joinN u.parts k = some b → b.length ≤ 1000000000) (hid : -9223372036854775808 ≤ id ∧ id ≤ 9223372036854775807)
    (c1 : w.cell? ⟨xb, 0, none⟩ = some (.pointer (some ⟨sb, 0, none⟩))) (c2 : w.cell? ⟨ib, 0, none⟩ = some (.int .i64 id)) (c3 : w.cell? ⟨nb, 0, none⟩ = some (.int .i64 n)) :
    Calls Tryz.prog 61 #[.pointer (some ⟨xb, 0, none⟩), .pointer (some ⟨ib, 0, none⟩), .pointer (some ⟨nb, 0, none⟩)] w fun e w' => e = .returned (errR p (s.compF id n).1.2) ∧ StPost w sb (s.compF id n).2 (m + 1) S D w' := by
  have HLK := fun W hW => h.lookUp id hid W hW
  have b1 : w.cell? ⟨sb, 1, none⟩ = some (.map (some ub)) := box_cell h.box 1
  unfold errV at hs6
  have HH := hide h
  obtain ⟨r, hr⟩ : ∃ r, s.compF id n = r := ⟨_, rfl⟩
  rw [hr]
  unfold St.S.compF at hr
  cases hu : s.ups id with
  | none =>
    rw [hu] at hr HLK
    subst hr
    have e : upV pb s id = none := by simp [upV, hu]
    rw [e] at HLK
    simp only [Option.getD_none, Option.isSome_none] at HLK
    have hlk1 := HLK w.drew (below_drewN (Below.refl _ _) 1)
    have hlk2 := fun o => HLK (w.alloc o).drew (below_drewN (balloc (Below.refl _ _) o) 1)
    have up : ∀ {a : Addr} {v : Value}, w.cell? a = some v → ∀ o, (w.alloc o).cell? a = some v := fun ha o => (World.cell?_alloc_lt w o _ (World.block_lt_of_cell? _ _ ha)).trans ha
    have d1 := up c1
    have d2 := up c2
    have db := up b1
    have d6 := up hs6
    clear h HLK hu e up
    go_enter Tryz.func61, Tryz.ntmps61
    go_wp2_with fail
    go_region
    go_wp2_with fail
    go_ret
    exact ⟨rfl, (StPost.of_same (IsStore.below ⟨_, _, _, _, _, _, HH.out⟩ (below_drewN (balloc (Below.refl _ _) _) 1)) (Chg.of_below (below_drewN (balloc (Below.refl _ _) _) 1))).mono (Nat.le_succ _)⟩
  | some u =>
    rw [hu] at hr HLK
    simp only at hr
    have e : upV pb s id = some (.agg #[encStr u.name, .map (some (pb id))]) := by simp [upV, hu]
    rw [e] at HLK
    simp only [Option.getD_some, Option.isSome_some] at HLK
    have hlk1 := HLK w.drew (below_drewN (Below.refl _ _) 1)
    have hlk2 := fun o => HLK (w.alloc o).drew (below_drewN (balloc (Below.refl _ _) o) 1)
    have up : ∀ {a : Addr} {v : Value}, w.cell? a = some v → ∀ o, (w.alloc o).cell? a = some v := fun ha o => (World.cell?_alloc_lt w o _ (World.block_lt_of_cell? _ _ ha)).trans ha
    have d1 := up c1
    have d2 := up c2
    have db := up b1
    have HU := hide hu
    have HID := hide hid
    clear h HLK hu e up
    go_enter Tryz.func61, Tryz.ntmps61
    go_wp2_with fail
    go_region
    obtain ⟨W1, hW1⟩ : ∃ W1, W1 = (w.alloc (.cells #[.string ⟨u.name.toArray⟩, .map (some (pb id))] 69)).drew := ⟨_, rfl⟩
    rw [← hW1]
    have hb1 : Below w.heap.size w W1 := hW1 ▸ below_drewN (balloc (Below.refl _ _) _) 1
    have k0 : W1.cell? ⟨w.heap.size, 0, none⟩ = some (.string ⟨u.name.toArray⟩) := by rw [hW1]; show (w.alloc _).cell? _ = _; rw [World.cell?_alloc_mark]; rfl
    have k1 : W1.cell? ⟨w.heap.size, 1, none⟩ = some (.map (some (pb id))) := by rw [hW1]; show (w.alloc _).cell? _ = _; rw [World.cell?_alloc_mark]; rfl
    have hh1 := HH.out.kept (w' := W1) hb1.size fun g _ hl => hb1.block g hl
    have HH1 := hide hh1
    have HB1 := hide hb1
    have up1 : ∀ {a : Addr} {v : Value}, w.cell? a = some v → W1.cell? a = some v := fun ha => (hb1.cell (p := _) (World.block_lt_of_cell? _ _ ha)).trans ha
    have x1 := up1 c1
    have x2 := up1 c2
    have x3 := up1 b1
    have x4 := up1 c3
    have b0 : w.cell? ⟨sb, 0, none⟩ = some (.map (some ob)) := box_cell HH.out.box 0
    have x5 := up1 b0
    have hpt := hh1.parts id u HU.out
    have HJ := hide (stJoin_any p W1 (pb id) m D u.name (pv id) u.parts n hpt.1 hpt.2.1 (up1 hs4) (hsum u HU.out))
    have hnl := hpt.2.2.2.2.2.2.2
    have HNL := hide hnl
    clear c1 c2 c3 b1 b0 hs6 d1 d2 db up1 hlk1 hlk2 hh1 hb1 hW1 hpt hs4 hsum hnl
    have hne := fun W => neq_nilD (p 4) W
    unfold errV at hne
    by_cases hbad : n < 0 ∨ 256 < n ∨ St.joinN u.parts n.toNat = none
    · have hr2 : r = (((), some 4), s) := by
        rw [← hr]
        by_cases h1 : n < 0 ∨ 256 < n
        · rw [if_pos h1]
        · rw [if_neg h1]
          have h2 : St.joinN u.parts n.toNat = none := by
            rcases hbad with h | h | h
            · exact absurd (.inl h) h1
            · exact absurd (.inr h) h1
            · exact h
          rw [h2]
      subst hr2
      have HBD := hide hbad
      clear hr hbad
      go_wp2_with (first
        | (go_at_call 62; refine HJ.out.mono ?_; rintro e w2 (⟨-, rfl, hb2⟩ | ⟨h1, b, v, h2, -⟩); rotate_left 1; exact absurd HBD.out (by rintro (h | h | h); exact h1 (.inl h); exact h1 (.inr h); rw [h] at h2; cases h2); have HB2 := hide hb2; clear hb2; unfold errR errV)
        | fail)
      go_ret
      exact ⟨rfl, (StPost.of_same (IsStore.below ⟨_, _, _, _, _, _, HH.out⟩ (HB1.out.trans (HB2.out.mono HB1.out.size))) (Chg.of_below (HB1.out.trans (HB2.out.mono HB1.out.size)))).mono (Nat.le_succ _)⟩
    · have hn1 : ¬ (n < 0 ∨ 256 < n) := fun h => hbad (by rcases h with h | h; exact .inl h; exact .inr (.inl h))
      cases hj : St.joinN u.parts n.toNat with
      | none => exact absurd (.inr (.inr hj)) hbad
      | some b =>
        rw [if_neg hn1, hj] at hr
        simp only at hr
        subst hr
        have HJE := hide hj
        have HBD := hide hbad
        clear hbad hn1 hj
        go_wp2_with (first
          | (go_at_call 62; refine HJ.out.mono ?_; rintro e w2 (⟨h1, -, -⟩ | ⟨h1, b', v, h2, rfl, ho, hl2, hb2⟩); exact absurd h1 HBD.out; obtain rfl : b = b' := Option.some.inj (HJE.out.symm.trans h2); obtain ⟨Av, cv, rfl, -⟩ := ho.arg; have HB2 := hide hb2; have HO := hide ho; have HL2 := hide hl2; have y1 := (hb2.cell (p := ⟨xb, 0, none⟩) (World.block_lt_of_cell? _ _ x1)).trans x1; have y2 := (hb2.cell (p := ⟨ib, 0, none⟩) (World.block_lt_of_cell? _ _ x2)).trans x2; have y3 := (hb2.cell (p := ⟨sb, 1, none⟩) (World.block_lt_of_cell? _ _ x3)).trans x3; have y5 := (hb2.cell (p := ⟨sb, 0, none⟩) (World.block_lt_of_cell? _ _ x5)).trans x5; have yk := (hb2.cell (p := ⟨w.heap.size, 0, none⟩) (World.block_lt_of_cell? _ _ k0)).trans k0; clear hb2 ho h1 h2 hl2; unfold errR)
          | fail)
        have HB02 := hide (HB1.out.trans (HB2.out.mono HB1.out.size))
        have HNM : Hid (∀ (a : Addr), (∃ v, w2.cell? a = some v) → some a.block ≠ some ob) := hide (fun a ⟨v, hv⟩ e => by
          injection e with e
          obtain ⟨es, clock, he⟩ := HH.out.objs.isMap
          have := (HB02.out.block ob (HH.out.objs.lt)).trans he
          rw [← e] at this
          simp [World.cell?, this] at hv)
        refine wp_region_store (G := Gro) gro_goes [29, 30, 31, 32, 33, 34, 35] (fun d => match d with
          | 29 => .is (.pointer (some ⟨sb, 0, none⟩)) | 30 => .is (.pointer (some ⟨sb, 0, none⟩)) | 31 => .is (.pointer (some ⟨sb, 0, none⟩)) | 32 => .is (.map (some ob)) | 33 => .is (.pointer (some ⟨w.heap.size, 0, none⟩)) | 34 => .is (encStr u.name) | 35 => .is (.slice Av b.length cv) | _ => .any) _ (by kernel_rfl) (by kernel_rfl) rfl (by kernel_rfl) ?_ ?_
        · simp only [List.size_toArray, List.length_cons, List.length_nil, List.take_succ_cons, List.take_zero, StepsH, Nat.reduceAdd, Nat.reduceSub]
          refine ⟨?_, ?_, ?_, ?_, ?_, ?_, ?_, trivial⟩
          all_goals
            intro ev w9 hb hev hd
            have ev0 : ev (.tmp 0) = .pointer (some ⟨xb, 0, none⟩) := hev _ (by simp)
            have ev1 : ev (.tmp 4) = .pointer (some ⟨w.heap.size, 0, none⟩) := hev _ (by simp)
            have ev2 : ev (.tmp 6) = .slice Av b.length cv := hev _ (by simp)
            have evf : ∀ f, ev (.func f) = .func (.func f) #[] #[] := fun f => hev _ (by simp)
            have zz0 := (hb.cell (p := ⟨xb, 0, none⟩) (World.block_lt_of_cell? _ _ y1)).trans y1
            have zz1 := (hb.cell (p := ⟨sb, 0, none⟩) (World.block_lt_of_cell? _ _ y5)).trans y5
            have zz2 := (hb.cell (p := ⟨w.heap.size, 0, none⟩) (World.block_lt_of_cell? _ _ yk)).trans yk
            have HB9 : Hid (Below w2.heap.size w2 w9) := hide ((Below.refl w2.heap.size w2).drew.trans hb)
            clear hev hb y1 y5 yk
            simp [DepsG, Held.is] at hd
            try simp [OpRuns, execOp, go_sem, Held.is, Below.refl, Gro, *]
        · intro f w9 hb hf
          have e32 : f 32 = .map (some ob) := hf 32 (by simp)
          have e34 : f 34 = encStr u.name := hf 34 (by simp)
          have e35 : f 35 = .slice Av b.length cv := hf 35 (by simp)
          have HB9 : Hid (Below w2.heap.size w2 w9) := hide ((Below.refl w2.heap.size w2).drew.trans hb)
          clear hb hf
          simp only [puts, Act.put, List.setIfInBounds_toArray, List.set_cons_succ, List.set_cons_zero]
          rw [e32, e34, e35]
          clear e32 e34 e35
          generalize f 29 = q29
          generalize f 30 = q30
          generalize f 31 = q31
          generalize f 33 = q33
          clear f
          have HHQ := hide (HH.out.kept (w' := w9) (HB02.out.trans (HB9.out.mono HB02.out.size)).size fun g _ hl => (HB02.out.trans (HB9.out.mono HB02.out.size)).block g hl)
          have HOQ := hide (HO.out.below HB9.out (Nat.le_refl _))
          have hk64 := HNL.out
          refine wpList_putV rfl (.tmp 32) (.tmp 34) (.tmp 35) _ _ rfl strK map_objs ob m ov rfl HHQ.out.objs _ u.name rfl (strKey (by omega)) (strInj u.name) (.slice Av b.length cv) rfl (by omega) ?_
          intro w5 hm5 hg5 hz5
          have HF5 := hide (HH.out.putObj (HB02.out.trans (HB9.out.mono HB02.out.size)) (HOQ.out.mono HB1.out.size) HL2.out hk64 hm5 hg5 hz5)
          have HC5 : Hid (Chg S w w5) := hide ((Chg.of_below (HB02.out.trans (HB9.out.mono HB02.out.size))).then (Chg.of_grown hg5 fun g e => by injection e with e; exact e ▸ HH.out.mob))
          have HG5 := hide hg5
          have HZ5 := hide hz5
          have v1 := (hg5.cell (a := ⟨xb, 0, none⟩) ((HB9.out.cell (p := ⟨xb, 0, none⟩) (World.block_lt_of_cell? _ _ y1)).trans y1) (HNM.out _ ⟨_, y1⟩))
          have v2 := (hg5.cell (a := ⟨ib, 0, none⟩) ((HB9.out.cell (p := ⟨ib, 0, none⟩) (World.block_lt_of_cell? _ _ y2)).trans y2) (HNM.out _ ⟨_, y2⟩))
          have v3 := (hg5.cell (a := ⟨sb, 1, none⟩) ((HB9.out.cell (p := ⟨sb, 1, none⟩) (World.block_lt_of_cell? _ _ y3)).trans y3) (HNM.out _ ⟨_, y3⟩))
          clear hm5 hg5 hz5 y1 y2 y3 y5 yk
          have HHQ := hide (HF5.out.kept (w' := w5.drew) (Nat.le_refl _) fun _ _ _ => rfl)
          obtain ⟨w6, hdel, hm6, hg6, hz6⟩ := HHQ.out.ups.del intK map_ups id (intKey HID.out) (intInj id) 0
          have HF := hide (HHQ.out.dropUp hm6 hg6 hz6)
          have HC6 : Hid (Chg S w w6) := hide ((HC5.out.then (Chg.of_below (below_drewN (Below.refl _ _) 1))).then (Chg.of_grown hg6 fun g e => by injection e with e; exact e ▸ HH.out.mub))
          have HZ6 : Hid (w6.heap.size = w5.heap.size) := hide hz6
          clear hm6 hg6 hz6
          go_wp2_with fail
          go_region
          go_wp2_with fail
          go_ret
          have hlt := HO.out.lt
          exact ⟨rfl, ⟨⟨S, _, ⟨_, _, _, _, _, _, HF.out⟩, fun _ h => .inl h, fun g hg => by rcases hg with hg | hg; exact .inl hg; exact .inr (by have := hlt g hg; have := HZ5.out; have := HZ6.out; have := HB9.out.size; have := HB1.out.size; omega)⟩, HC6.out⟩⟩
end Go.Proofs.YtegaahcelogmlaaGreatDoor

namespace Go.Proofs.YtegaahcelogmlaaGreatDoor
open Go.RowKit Go.Maps

/-- A new map without anything, in a slot, or within what the slot holds. -/
def heldMap (base : Nat) (f : Value → Value) : Held Gro := ⟨fun v W => ∃ g, v = f (.map (some g)) ∧ base ≤ g ∧ g < W.heap.size ∧ MapN W g 0 (fun _ => none), fun _ _ _ ⟨g, h1, h2, h3, h4⟩ hb => ⟨g, h1, h2, Nat.lt_of_lt_of_le h3 hb.size, h4.same (hb.block g h3)⟩⟩

set_option maxRecDepth 100000 in
set_option maxHeartbeats 1000000 in
/-- The closure of Start. -/
theorem stStart1_any (p : Nat → Addr) {w : World} {sb ob ub : Nat} {sv : Value} {ov : St.Nm → Option Value} {pb : Int → Nat} {pv : Int → Int → Option Value} {s : St.S} {m : Nat} {S D : Nat → Prop} (h : StoreL w sb ob ub sv ov pb pv s m S D) (hm : m ≤ 1000000000)
    (hs5 : w.cell? ⟨1, 0, none⟩ = some (errV (p 5))) (xb nb : Nat) (k : List UInt8) (hk : k.length ≤ 1000000000) (hxs : xb ≠ sb) (hns : nb ≠ sb) (hxu : xb ≠ ub)
    (c1 : w.cell? ⟨xb, 0, none⟩ = some (.pointer (some ⟨sb, 0, none⟩))) (c2 : w.cell? ⟨nb, 0, none⟩ = some (encStr k)) :
    Calls Tryz.prog 57 #[.pointer (some ⟨nb, 0, none⟩), .pointer (some ⟨xb, 0, none⟩)] w fun e w' => ∃ x, e = .returned (.tuple #[.int .i64 x, errR p (s.startF k).1.2]) ∧ x = (s.startF k).1.1 ∧ StPost w sb (s.startF k).2 (m + 1) S D w' := by
  have HV := hide (fun W => stValid_any k (by omega) W)
  have HH := hide h
  obtain ⟨r, hr⟩ : ∃ r, s.startF k = r := ⟨_, rfl⟩
  rw [hr]
  unfold St.S.startF at hr
  cases hv : Dk.valid k with
  | false =>
    rw [hv] at HV hr
    rw [if_neg (by simp)] at hr
    subst hr
    unfold errV at hs5
    clear h hv
    go_enter Tryz.func57, Tryz.ntmps57
    go_wp2_with (first
      | (go_at_call 58; refine (HV.out _).mono ?_; rintro e w1 ⟨rfl, rfl⟩)
      | fail)
    go_quiet (fail)
    go_wp2_with fail
    go_returns
    exact ⟨_, by first | rfl | trivial, by trivial, (StPost.of_same (IsStore.below ⟨_, _, _, _, _, _, HH.out⟩ (below_drewN (Below.refl _ _) _)) (Chg.of_below (below_drewN (Below.refl _ _) _))).mono (Nat.le_succ _)⟩
  | true =>
    rw [hv] at HV hr
    rw [if_pos rfl] at hr
    subst hr
    have HK := hide (stValid_len hv)
    have b2 : w.cell? ⟨sb, 2, none⟩ = some (.int .i64 s.last) := box_cell h.box 2
    have f2 := box_free h.box 2
    have HLA := hide h.last
    have hw1 : IntKind.i64.wrap (s.last + 1) = s.last + 1 := IntWalk.i64_in _ (by have := h.last; omega)
    have hbx : (w.setCell ⟨sb, 2, none⟩ (.int .i64 (s.last + 1))).heap[sb]? = some (.cells (stCells { s with last := s.last + 1 } ob ub sv) 51 (0, 0)) := by rw [heap_set h.box]; rfl
    have HBX := hide hbx
    have HSL : Hid (sb < (w.setCell ⟨sb, 2, none⟩ (.int .i64 (s.last + 1))).heap.size) := hide (Array.getElem?_eq_some_iff.1 hbx).1
    have HNE : Hid (ub ≠ sb) := hide fun e => by
      obtain ⟨es, clock, he⟩ := h.ups.isMap
      rw [e, h.box] at he; cases he
    have HNX : Hid (some (⟨xb, 0, none⟩ : Addr).block ≠ some ub) := hide fun e => by injection e with e; exact hxu e
    have z0 : (w.setCell ⟨sb, 2, none⟩ (.int .i64 (s.last + 1))).cell? ⟨nb, 0, none⟩ = some (encStr k) := by rw [World.cell?_of_block (a := ⟨nb, 0, none⟩) (Below.heap_setCell _ _ _ _ hns)]; exact c2
    have z1 : (w.setCell ⟨sb, 2, none⟩ (.int .i64 (s.last + 1))).cell? ⟨xb, 0, none⟩ = some (.pointer (some ⟨sb, 0, none⟩)) := by rw [World.cell?_of_block (a := ⟨xb, 0, none⟩) (Below.heap_setCell _ _ _ _ hxs)]; exact c1
    have z2 : (w.setCell ⟨sb, 2, none⟩ (.int .i64 (s.last + 1))).cell? ⟨sb, 1, none⟩ = some (.map (some ub)) := box_cell hbx 1
    have z3 : (w.setCell ⟨sb, 2, none⟩ (.int .i64 (s.last + 1))).cell? ⟨sb, 2, none⟩ = some (.int .i64 (s.last + 1)) := box_cell hbx 2
    clear h hv hbx hs5
    go_enter Tryz.func57, Tryz.ntmps57
    go_wp2_with (first
      | (go_at_call 58; refine (HV.out _).mono ?_; rintro e w1 ⟨rfl, hw⟩; obtain rfl : w = w1 := hw.symm)
      | fail)
    refine wp_region_store (G := Gro) gro_goes [15, 16, 17, 18, 19, 20, 21, 22, 23, 24, 25] (fun d => match d with
      | 15 => .is (.pointer (some ⟨sb, 0, none⟩)) | 16 => .is (.pointer (some ⟨sb, 0, none⟩)) | 17 => .is (.pointer (some ⟨sb, 1, none⟩)) | 18 => .is (.map (some ub)) | 19 => .is (.pointer (some ⟨sb, 0, none⟩)) | 20 => .is (.pointer (some ⟨sb, 0, none⟩)) | 21 => .is (.pointer (some ⟨sb, 2, none⟩)) | 22 => .is (.int .i64 (s.last + 1)) | 23 => .is (encStr k) | 24 => heldMap (w.setCell ⟨sb, 2, none⟩ (.int .i64 (s.last + 1))).heap.size id | 25 => heldMap (w.setCell ⟨sb, 2, none⟩ (.int .i64 (s.last + 1))).heap.size (fun x => .agg #[encStr k, x]) | _ => .any) _ (by kernel_rfl) (by kernel_rfl) rfl (by kernel_rfl) ?_ ?_
    · simp only [List.size_toArray, List.length_cons, List.length_nil, List.take_succ_cons, List.take_zero, StepsH, Nat.reduceAdd, Nat.reduceSub]
      refine ⟨?_, ?_, ?_, ?_, ?_, ?_, ?_, ?_, ?_, ?_, ?_, trivial⟩
      all_goals
        intro ev w9 hb hev hd
        have ev0 : ev (.tmp 0) = .pointer (some ⟨nb, 0, none⟩) := hev _ (by simp)
        have ev1 : ev (.tmp 1) = .pointer (some ⟨xb, 0, none⟩) := hev _ (by simp)
        have evf : ∀ f, ev (.func f) = .func (.func f) #[] #[] := fun f => hev _ (by simp)
        have zz0 := (hb.cell (p := ⟨nb, 0, none⟩) (World.block_lt_of_cell? _ _ z0)).trans z0
        have zz1 := (hb.cell (p := ⟨xb, 0, none⟩) (World.block_lt_of_cell? _ _ z1)).trans z1
        have zz2 := (hb.cell (p := ⟨sb, 1, none⟩) (World.block_lt_of_cell? _ _ z2)).trans z2
        have zz3 := (hb.cell (p := ⟨sb, 2, none⟩) (World.block_lt_of_cell? _ _ z3)).trans z3
        have HB9 : Hid (Below (w.setCell ⟨sb, 2, none⟩ (.int .i64 (s.last + 1))).heap.size (w.setCell ⟨sb, 2, none⟩ (.int .i64 (s.last + 1))) w9) := hide ((Below.refl (w.setCell ⟨sb, 2, none⟩ (.int .i64 (s.last + 1))).heap.size (w.setCell ⟨sb, 2, none⟩ (.int .i64 (s.last + 1)))).drew.trans hb)
        have HGR := hide hb
        clear hev hb z0 z1 z2 z3
        simp [DepsG, Held.is] at hd
        first
          | (obtain ⟨hd1, g, hg, h1, h2, h3⟩ := hd; simp [OpRuns, execOp, go_sem, Below.refl, Gro, hd1, hg]; exact ⟨g, rfl, h1, h2, h3⟩)
          | (simp [OpRuns, execOp, go_sem, Held.is, Below.refl, Gro, *]; done)
          | (simp [OpRuns, execOp, go_sem, Gro, *])
      rw [run_makeMap]
      exact ⟨balloc (Below.refl _ _) _, w9.heap.size, rfl, by have := HB9.out.size; simpa using this, by simp, MapV.made w9⟩
    · intro f w9 hb hf
      have e18 : f 18 = .map (some ub) := hf 18 (by simp)
      have e25 := hf 25 (by simp)
      have e22 : f 22 = .int .i64 (s.last + 1) := hf 22 (by simp)
      have HB9 : Hid (Below (w.setCell ⟨sb, 2, none⟩ (.int .i64 (s.last + 1))).heap.size (w.setCell ⟨sb, 2, none⟩ (.int .i64 (s.last + 1))) w9) := hide ((Below.refl (w.setCell ⟨sb, 2, none⟩ (.int .i64 (s.last + 1))).heap.size (w.setCell ⟨sb, 2, none⟩ (.int .i64 (s.last + 1)))).drew.trans hb)
      clear hb hf
      simp only [puts, Act.put, List.setIfInBounds_toArray, List.set_cons_succ, List.set_cons_zero]
      rw [e18, e22]
      clear e18 e22
      generalize f 15 = q15
      generalize f 16 = q16
      generalize f 17 = q17
      generalize f 19 = q19
      generalize f 20 = q20
      generalize f 21 = q21
      generalize f 23 = q23
      generalize f 24 = q24
      generalize f 25 = q25 at e25 ⊢
      clear f
      obtain ⟨g, hv, hg1, hg2, hmg⟩ := e25
      have HC9 := hide ((Chg.box w sb 2 (.int .i64 (s.last + 1))).then (Chg.of_below HB9.out))
      have hbx9 := (HB9.out.block sb HSL.out).trans HBX.out
      have hup9 : MapN w9 ub m (upV pb s) := HH.out.ups.same (HC9.out.block ub (HH.out.lt _ (.inl HH.out.mub)) HNE.out)
      rw [hv]
      clear hv
      refine wpList_putV rfl (.tmp 18) (.tmp 22) (.tmp 25) _ _ rfl intK map_ups ub m (upV pb s) rfl hup9 _ (s.last + 1) rfl (intKey (by have := HLA.out; omega)) (intInj _) _ rfl (by omega) ?_
      intro w5 hm5 hg5 hz5
      have hsz9 : w.heap.size ≤ g := by have := hg1; simpa using this
      have HF := hide (HH.out.putUp HK.out HC9.out hsz9 hg2 hbx9 hmg hm5 hg5 hz5)
      have HC5 : Hid (Chg S w w5) := hide ((HC9.out.mono fun k e => e ▸ HH.out.msb).then (Chg.of_grown hg5 fun g e => by injection e with e; exact e ▸ HH.out.mub))
      have y2 : w5.cell? ⟨sb, 2, none⟩ = some (.int .i64 (s.last + 1)) := box_cell HF.out.box 2
      have y1 : w5.cell? ⟨xb, 0, none⟩ = some (.pointer (some ⟨sb, 0, none⟩)) := hg5.cell (a := ⟨xb, 0, none⟩) ((HB9.out.cell (p := ⟨xb, 0, none⟩) (World.block_lt_of_cell? _ _ z1)).trans z1) HNX.out
      clear hm5 hg5 hz5 hmg hg1 hg2 hup9 hbx9 hsz9
      go_wp2_with fail
      go_returns
      exact ⟨_, by first | rfl | trivial, by first | rfl | trivial, ⟨⟨_, _, ⟨_, _, _, _, _, _, HF.out⟩, fun _ h => h, fun _ h => .inl h⟩, HC5.out⟩⟩
end Go.Proofs.YtegaahcelogmlaaGreatDoor

namespace Go.Proofs.YtegaahcelogmlaaGreatDoor
open Go.RowKit Go.Maps

def St.S.start (s : St.S) (k : St.Nm) : (Int × Option Nat) × St.S := s.ask 0 (St.S.startF k)
def St.S.part (s : St.S) (id l : Int) (b : List UInt8) : (Unit × Option Nat) × St.S := s.ask () (St.S.partF id l b)
def St.S.comp (s : St.S) (id l : Int) : (Unit × Option Nat) × St.S := s.ask () (St.S.compF id l)
def St.S.abort (s : St.S) (id : Int) : (Unit × Option Nat) × St.S := s.ask () (St.S.abortF id)
theorem St.start_quiet (k : St.Nm) : St.Quiet (St.S.startF k) := fun t => by unfold St.S.startF; split <;> exact ⟨rfl, rfl⟩
theorem St.part_quiet (id l : Int) (b : List UInt8) : St.Quiet (St.S.partF id l b) := fun t => by unfold St.S.partF; split; exact ⟨rfl, rfl⟩; split <;> exact ⟨rfl, rfl⟩
theorem St.comp_quiet (id l : Int) : St.Quiet (St.S.compF id l) := fun t => by unfold St.S.compF; split; exact ⟨rfl, rfl⟩; split; exact ⟨rfl, rfl⟩; split <;> exact ⟨rfl, rfl⟩
theorem St.abort_quiet (id : Int) : St.Quiet (St.S.abortF id) := fun t => by unfold St.S.abortF; split <;> exact ⟨rfl, rfl⟩
set_option maxRecDepth 100000 in
set_option maxHeartbeats 1000000 in
theorem StS.comp {w0 w : World} {S D : Nat → Prop} {sb n : Nat} {s : St.S} (h : StS w0 S D sb s n w) (p : Nat → Addr) {E : Nat → Prop} [hE : Told E] (hs : SentsOn E w0 p) (hn : n ≤ 1000000) (id : Int) (hid : -9223372036854775808 ≤ id ∧ id ≤ 9223372036854775807) (l : Int) (hsum : ∀ u, s.ups id = some u → ∀ k b, k ≤ 256 → St.joinN u.parts k = some b → b.length ≤ 1000000000) :
    Calls Tryz.prog 44 #[.pointer (some ⟨sb, 0, none⟩), .int .i64 id, .int .i64 l] w fun e w' => e = .returned (errR p (s.comp id l).1.2) ∧ ∃ S' D', StS w0 S' D' sb (s.comp id l).2 (n + 1) w' ∧ StGo S D S' D' w w' := by
  obtain ⟨W, hW⟩ : ∃ W, W = (((w.alloc (.cells #[.pointer (some ⟨sb, 0, none⟩)] 26)).alloc (.cells #[.int .i64 id] 3)).alloc (.cells #[.int .i64 l] 3)) := ⟨_, rfl⟩
  have hb : Below w.heap.size w W := hW ▸ balloc (balloc (balloc (Below.refl _ _) _) _) _
  have q0 : W.cell? ⟨w.heap.size, 0, none⟩ = some (.pointer (some ⟨sb, 0, none⟩)) := by
    rw [hW, World.cell?_alloc_lt _ _ _ (by simp <;> omega), World.cell?_alloc_lt _ _ _ (by simp <;> omega), World.cell?_alloc_mark]; rfl
  have q1 : W.cell? ⟨w.heap.size + 1, 0, none⟩ = some (.int .i64 id) := by
    have e : (w.alloc (.cells #[.pointer (some ⟨sb, 0, none⟩)] 26)).heap.size = w.heap.size + 1 := by simp
    rw [hW, World.cell?_alloc_lt _ _ _ (by simp <;> omega), ← e, World.cell?_alloc_mark]; rfl
  have q2 : W.cell? ⟨w.heap.size + 2, 0, none⟩ = some (.int .i64 l) := by
    have e : ((w.alloc (.cells #[.pointer (some ⟨sb, 0, none⟩)] 26)).alloc (.cells #[.int .i64 id] 3)).heap.size = w.heap.size + 2 := by simp
    rw [hW, ← e, World.cell?_alloc_mark]; rfl
  have hbW := h.below.trans (hb.mono h.below.size)
  have hsb : sb < w.heap.size := by obtain ⟨_, _, _, _, _, _, hl⟩ := h.st; exact hl.lt _ (.inl hl.msb)
  have hSg : ∀ j, E j → ¬ S (gs.getD j 0) := fun j hj hS => by have := h.lo _ (.inl hS); have := hs.size j hj; omega
  have hsbg : ∀ j, E j → gs.getD j 0 ≠ sb := fun j hj e => by obtain ⟨_, _, _, _, _, _, hl⟩ := h.st; exact hSg j hj (e ▸ hl.msb)
  have HB := hide (bareCall (h.st.below hb) ⟨h.calls.1, by have := h.calls.2; omega⟩ ⟨h.failed.1, by have := h.failed.2; omega⟩ p (errCellE hs hbW 10 hE.e10) (hSg 10 hE.e10) 61 #[.pointer (some ⟨w.heap.size, 0, none⟩), .pointer (some ⟨w.heap.size + 1, 0, none⟩), .pointer (some ⟨w.heap.size + 2, 0, none⟩)] (enters_of Tryz.func61 (by kernel_rfl) rfl) (St.S.compF id l)
    fun w1 hc1 h1 => by
      obtain ⟨ob, ub, sv, ov, pb, pv, h1⟩ := h1
      exact stComp1_any p h1 (by omega) (hc1.cell (errCellE hs hbW 4 hE.e4) (hsbg 4 hE.e4)) (hc1.cell (errCellE hs hbW 6 hE.e6) (hsbg 6 hE.e6)) _ _ _ id l hsum hid (hc1.cell q0 (by show ¬ (w.heap.size = sb); omega)) (hc1.cell q1 (by show ¬ (w.heap.size + 1 = sb); omega)) (hc1.cell q2 (by show ¬ (w.heap.size + 2 = sb); omega)))
  have HP : Hid (∀ w', StPost W sb (s.ask () (St.S.compF id l)).2 (n + 1) S D w' → ∃ S' D', StS w0 S' D' sb (s.ask () (St.S.compF id l)).2 (n + 1) w' ∧ StGo S D S' D' w w') := hide (fun w' hp => by
    have hq := St.ask_num (St.comp_quiet id l) s ()
    have := h.calls; have := h.failed
    exact h.post (hp.ahead (Chg.of_below hb)) ⟨by omega, by omega⟩ ⟨by omega, by omega⟩)
  have HW := hide hW
  clear h hs hW hb q0 q1 q2 hbW hSg hsbg hsb hsum
  go_enter Tryz.func44, Tryz.ntmps44
  go_wp2_with (first
    | (go_at_call 59; rw [← HW.out]; refine HB.out.mono ?_; rintro e w1 ⟨rfl, hp⟩; have H := hide (HP.out _ hp); clear hp)
    | fail)
  go_ret
  exact ⟨rfl, H.out⟩
set_option maxRecDepth 100000 in
set_option maxHeartbeats 1000000 in
theorem StS.part {w0 w : World} {S D : Nat → Prop} {sb n : Nat} {s : St.S} (h : StS w0 S D sb s n w) (p : Nat → Addr) {E : Nat → Prop} [hE : Told E] (hs : SentsOn E w0 p) (hn : n ≤ 1000000) (id : Int) (hid : -9223372036854775808 ≤ id ∧ id ≤ 9223372036854775807) (l : Int) (hl : -9223372036854775808 ≤ l ∧ l ≤ 9223372036854775807) (A : Option Addr) (L c : Nat) (b : List UInt8) (ha : Arg w A c b) (hL : b.length = L) (hL2 : L ≤ 1000000000) (hA : ∀ x o, A = some ⟨x, o, none⟩ → b ≠ [] → ¬ S x) :
    Calls Tryz.prog 42 #[.pointer (some ⟨sb, 0, none⟩), .int .i64 id, .int .i64 l, .slice A L c] w fun e w' => e = .returned (errR p (s.part id l b).1.2) ∧ ∃ S' D', StS w0 S' D' sb (s.part id l b).2 (n + 1) w' ∧ StGo S D S' D' w w' := by
  obtain ⟨W, hW⟩ : ∃ W, W = ((((w.alloc (.cells #[.pointer (some ⟨sb, 0, none⟩)] 26)).alloc (.cells #[.int .i64 id] 3)).alloc (.cells #[.int .i64 l] 3)).alloc (.cells #[.slice A L c] 22)) := ⟨_, rfl⟩
  have hb : Below w.heap.size w W := hW ▸ balloc (balloc (balloc (balloc (Below.refl _ _) _) _) _) _
  have q0 : W.cell? ⟨w.heap.size, 0, none⟩ = some (.pointer (some ⟨sb, 0, none⟩)) := by
    rw [hW, World.cell?_alloc_lt _ _ _ (by simp <;> omega), World.cell?_alloc_lt _ _ _ (by simp <;> omega), World.cell?_alloc_lt _ _ _ (by simp <;> omega), World.cell?_alloc_mark]; rfl
  have q1 : W.cell? ⟨w.heap.size + 1, 0, none⟩ = some (.int .i64 id) := by
    have e : (w.alloc (.cells #[.pointer (some ⟨sb, 0, none⟩)] 26)).heap.size = w.heap.size + 1 := by simp
    rw [hW, World.cell?_alloc_lt _ _ _ (by simp <;> omega), World.cell?_alloc_lt _ _ _ (by simp <;> omega), ← e, World.cell?_alloc_mark]; rfl
  have q2 : W.cell? ⟨w.heap.size + 2, 0, none⟩ = some (.int .i64 l) := by
    have e : ((w.alloc (.cells #[.pointer (some ⟨sb, 0, none⟩)] 26)).alloc (.cells #[.int .i64 id] 3)).heap.size = w.heap.size + 2 := by simp
    rw [hW, World.cell?_alloc_lt _ _ _ (by simp <;> omega), ← e, World.cell?_alloc_mark]; rfl
  have q3 : W.cell? ⟨w.heap.size + 3, 0, none⟩ = some (.slice A L c) := by
    have e : (((w.alloc (.cells #[.pointer (some ⟨sb, 0, none⟩)] 26)).alloc (.cells #[.int .i64 id] 3)).alloc (.cells #[.int .i64 l] 3)).heap.size = w.heap.size + 3 := by simp
    rw [hW, ← e, World.cell?_alloc_mark]; rfl
  have hbW := h.below.trans (hb.mono h.below.size)
  have hsb : sb < w.heap.size := by obtain ⟨_, _, _, _, _, _, hl⟩ := h.st; exact hl.lt _ (.inl hl.msb)
  have hSg : ∀ j, E j → ¬ S (gs.getD j 0) := fun j hj hS => by have := h.lo _ (.inl hS); have := hs.size j hj; omega
  have hsbg : ∀ j, E j → gs.getD j 0 ≠ sb := fun j hj e => by obtain ⟨_, _, _, _, _, _, hl⟩ := h.st; exact hSg j hj (e ▸ hl.msb)
  have HB := hide (bareCall (h.st.below hb) ⟨h.calls.1, by have := h.calls.2; omega⟩ ⟨h.failed.1, by have := h.failed.2; omega⟩ p (errCellE hs hbW 10 hE.e10) (hSg 10 hE.e10) 60 #[.pointer (some ⟨w.heap.size, 0, none⟩), .pointer (some ⟨w.heap.size + 1, 0, none⟩), .pointer (some ⟨w.heap.size + 2, 0, none⟩), .pointer (some ⟨w.heap.size + 3, 0, none⟩)] (enters_of Tryz.func60 (by kernel_rfl) rfl) (St.S.partF id l b)
    fun w1 hc1 h1 => by
      obtain ⟨ob, ub, sv, ov, pb, pv, h1⟩ := h1
      have hmsb := h1.msb
      exact stPart1_any p h1 (by omega) (hc1.cell (errCellE hs hbW 6 hE.e6) (hsbg 6 hE.e6)) (hc1.cell (errCellE hs hbW 4 hE.e4) (hsbg 4 hE.e4)) _ _ _ _ id l hid hl A L c b ((ha.below hb (Nat.le_refl _)).chg hc1 fun x o e hne ex => hA x o e hne (ex ▸ hmsb)) hL hL2 (hc1.cell q0 (by show ¬ (w.heap.size = sb); omega)) (hc1.cell q1 (by show ¬ (w.heap.size + 1 = sb); omega)) (hc1.cell q2 (by show ¬ (w.heap.size + 2 = sb); omega)) (hc1.cell q3 (by show ¬ (w.heap.size + 3 = sb); omega)))
  have HP : Hid (∀ w', StPost W sb (s.ask () (St.S.partF id l b)).2 (n + 1) S D w' → ∃ S' D', StS w0 S' D' sb (s.ask () (St.S.partF id l b)).2 (n + 1) w' ∧ StGo S D S' D' w w') := hide (fun w' hp => by
    have hq := St.ask_num (St.part_quiet id l b) s ()
    have := h.calls; have := h.failed
    exact h.post (hp.ahead (Chg.of_below hb)) ⟨by omega, by omega⟩ ⟨by omega, by omega⟩)
  have HW := hide hW
  clear h hs hW hb q0 q1 q2 q3 hbW hSg hsbg hsb ha hA hL
  go_enter Tryz.func42, Tryz.ntmps42
  go_wp2_with (first
    | (go_at_call 59; rw [← HW.out]; refine HB.out.mono ?_; rintro e w1 ⟨rfl, hp⟩; have H := hide (HP.out _ hp); clear hp)
    | fail)
  go_ret
  exact ⟨rfl, H.out⟩
set_option maxRecDepth 100000 in
set_option maxHeartbeats 1000000 in
theorem StS.start {w0 w : World} {S D : Nat → Prop} {sb n : Nat} {s : St.S} (h : StS w0 S D sb s n w) (p : Nat → Addr) {E : Nat → Prop} [hE : Told E] (hs : SentsOn E w0 p) (hn : n ≤ 1000000) (k : List UInt8) (hk : k.length ≤ 100000) :
    Calls Tryz.prog 40 #[.pointer (some ⟨sb, 0, none⟩), encStr k] w fun e w' => e = .returned (.tuple #[.int .i64 (s.start k).1.1, errR p (s.start k).1.2]) ∧ ∃ S' D', StS w0 S' D' sb (s.start k).2 (n + 1) w' ∧ StGo S D S' D' w w' := by
  obtain ⟨W, hW⟩ : ∃ W, W = ((w.alloc (.cells #[.pointer (some ⟨sb, 0, none⟩)] 26)).alloc (.cells #[encStr k] 9)) := ⟨_, rfl⟩
  have hb : Below w.heap.size w W := hW ▸ balloc (balloc (Below.refl _ _) _) _
  have q0 : W.cell? ⟨w.heap.size, 0, none⟩ = some (.pointer (some ⟨sb, 0, none⟩)) := by
    rw [hW, World.cell?_alloc_lt _ _ _ (by simp <;> omega), World.cell?_alloc_mark]; rfl
  have q1 : W.cell? ⟨w.heap.size + 1, 0, none⟩ = some (encStr k) := by
    have e : (w.alloc (.cells #[.pointer (some ⟨sb, 0, none⟩)] 26)).heap.size = w.heap.size + 1 := by simp
    rw [hW, ← e, World.cell?_alloc_mark]; rfl
  have hbW := h.below.trans (hb.mono h.below.size)
  have hsb : sb < w.heap.size := by obtain ⟨_, _, _, _, _, _, hl⟩ := h.st; exact hl.lt _ (.inl hl.msb)
  have hSg : ∀ j, E j → ¬ S (gs.getD j 0) := fun j hj hS => by have := h.lo _ (.inl hS); have := hs.size j hj; omega
  have hsbg : ∀ j, E j → gs.getD j 0 ≠ sb := fun j hj e => by obtain ⟨_, _, _, _, _, _, hl⟩ := h.st; exact hSg j hj (e ▸ hl.msb)
  have hmsb : S sb := by obtain ⟨_, _, _, _, _, _, hl⟩ := h.st; exact hl.msb
  have HB := hide (ansCallI (h.st.below hb) ⟨h.calls.1, by have := h.calls.2; omega⟩ ⟨h.failed.1, by have := h.failed.2; omega⟩ p (errCellE hs hbW 10 hE.e10) (hSg 10 hE.e10) 57 #[.pointer (some ⟨w.heap.size + 1, 0, none⟩), .pointer (some ⟨w.heap.size, 0, none⟩)] (enters_of Tryz.func57 (by kernel_rfl) rfl) 0 (St.S.startF k) (fun a v W => v = .int .i64 a) (fun a v W W' h1 _ => h1) (fun W => rfl) (fun t W' => StPost W sb t (n + 1) S D W') (fun w1 hc hi => (StPost.of_same hi (hc.mono fun k e => e ▸ hmsb)).mono (Nat.le_succ _)) (fun t W W' hh hb => hh.grow hb) (fun t W hh => hh.chg)
    fun w1 hc1 h1 => by
      obtain ⟨ob, ub, sv, ov, pb, pv, h1⟩ := h1
      exact (stStart1_any p h1 (by omega) (hc1.cell (errCellE hs hbW 5 hE.e5) (hsbg 5 hE.e5)) _ _ k (by omega) (by omega) (by omega) (by have := h.lt _ (.inl h1.mub); omega) (hc1.cell q0 (by show ¬ (w.heap.size = sb); omega)) (hc1.cell q1 (by show ¬ (w.heap.size + 1 = sb); omega))).mono fun e w2 ⟨x, he, hx, hp⟩ => ⟨x, he, by rw [hx], hp.ahead (hc1.mono fun k e => e ▸ hmsb)⟩)
  have HP : Hid (∀ w', StPost W sb (s.ask 0 (St.S.startF k)).2 (n + 1) S D w' → ∃ S' D', StS w0 S' D' sb (s.ask 0 (St.S.startF k)).2 (n + 1) w' ∧ StGo S D S' D' w w') := hide (fun w' hp => by
    have hq := St.ask_num (St.start_quiet k) s 0
    have := h.calls; have := h.failed
    exact h.post (hp.ahead (Chg.of_below hb)) ⟨by omega, by omega⟩ ⟨by omega, by omega⟩)
  have HW := hide hW
  clear h hs hW hb q0 q1 hbW hSg hsbg hsb hmsb
  go_enter Tryz.func40, Tryz.ntmps40
  go_wp2_with (first
    | (go_at_call 56; rw [← HW.out]; refine HB.out.mono ?_; rintro e w1 ⟨x, rfl, hx, hp⟩; have H := hide (HP.out _ hp); have HX := hide hx; clear hp hx)
    | fail)
  go_returns
  refine ⟨?_, H.out⟩
  rw [show (s.start k).1.1 = x from (by have := HX.out; injection this with _ this; exact this.symm)]
  rfl
end Go.Proofs.YtegaahcelogmlaaGreatDoor

namespace Go.Proofs.YtegaahcelogmlaaGreatDoor
open Go.RowKit Go.Maps

/-- A box of the call's own is written beside a store. -/
theorem StS.boxed {w0 w w2 : World} {S D S2 D2 : Nat → Prop} {sb n vb i : Nat} {s : St.S} {cs : Array Value} {t : TypeId} (h : StS w0 S2 D2 sb s n w2) (hg : StGo S D S2 D2 w w2) (hv : w.heap[vb]? = some (.cells cs t (0, 0))) (hS : ¬ S vb) (hD : ¬ D vb) (h0 : w0.heap.size ≤ vb) (v : Value) :
    (w2.setCell ⟨vb, i, none⟩ v).heap[vb]? = some (.cells (cs.setIfInBounds i v) t (0, 0)) ∧ StS w0 S2 D2 sb s n (w2.setCell ⟨vb, i, none⟩ v) ∧ CaGo S D (fun k => k = vb) S2 D2 w (w2.setCell ⟨vb, i, none⟩ v) := by
  have hl := (Array.getElem?_eq_some_iff.1 hv).1
  have hc : CaGo S D (fun k => k = vb) S2 D2 w w2 := CaGo.of_st hg
  have hc2 : CaGo S D (fun _ => False) S2 D2 w w2 := CaGo.of_st hg
  obtain ⟨e, hS2⟩ := hc2.stays hl hS id
  have hD2 := hc2.notD hl hD
  exact ⟨heap_set (e.trans hv) i v, h.setC vb i v hS2 hD2 h0, hc.trans ⟨Chg.setCell (S := fun k => S2 k ∨ k = vb) w2 vb i v (.inr rfl), fun _ h => .inl h, fun _ h => .inl h⟩⟩

set_option maxRecDepth 100000 in
set_option maxHeartbeats 1000000 in
/-- The closure of Start. -/
theorem caStart1_any {w0 w : World} {S D : Nat → Prop} {sb cb n : Nat} {s : St.S} (h : StS w0 S D sb s n w) (c0 : w.cell? ⟨cb, 0, none⟩ = some (.pointer (some ⟨sb, 0, none⟩))) (p : Nat → Addr) {E : Nat → Prop} [hE : Told E] (hs : SentsOn E w0 p) (hn : n ≤ 1000000) (xc xn vb : Nat) (k : List UInt8) (hk : k.length ≤ 100000)
    (c1 : w.cell? ⟨xc, 0, none⟩ = some (.pointer (some ⟨cb, 0, none⟩))) (c2 : w.cell? ⟨xn, 0, none⟩ = some (encStr k)) (z : Int) (hv : w.heap[vb]? = some (.cells #[.int .i64 z] 3 (0, 0))) (hS : ¬ S vb) (hD : ¬ D vb) (h0 : w0.heap.size ≤ vb) :
    Calls Tryz.prog 39 #[.pointer (some ⟨xc, 0, none⟩), .pointer (some ⟨xn, 0, none⟩), .pointer (some ⟨vb, 0, none⟩)] w fun e w' => e = .returned (errR p (s.start k).1.2) ∧ w'.heap[vb]? = some (.cells #[.int .i64 (s.start k).1.1] 3 (0, 0)) ∧ ∃ S' D', StS w0 S' D' sb (s.start k).2 (n + 1) w' ∧ CaGo S D (fun k => k = vb) S' D' w w' := by
  have HP := hide (fun (W : World) (hW : Below w.heap.size w W) => StS.start (h.grow hW) p hs hn k hk)
  have HV := hide (fun (W : World) (hW : Below w.heap.size w W) (w2 : World) (S2 D2 : Nat → Prop) (h2 : StS w0 S2 D2 sb (s.start k).2 (n + 1) w2) (hg : StGo S D S2 D2 W w2) (v : Value) => h2.boxed (i := 0) hg ((hW.block vb (Array.getElem?_eq_some_iff.1 hv).1).trans hv) hS hD h0 v)
  have HC := hide (fun (W : World) (hW : Below w.heap.size w W) (w2 : World) (S2 D2 : Nat → Prop) (hg : StGo S D S2 D2 W w2) => (((CaGo.of_st (K := fun _ => False) hg).stays (Nat.lt_of_lt_of_le (Array.getElem?_eq_some_iff.1 hv).1 hW.size) hS id).1.trans ((hW.block vb (Array.getElem?_eq_some_iff.1 hv).1).trans hv) : w2.heap[vb]? = some (.cells #[.int .i64 z] 3 (0, 0))))
  clear h hs hn hk hv hS hD h0
  go_enter Tryz.func39, Tryz.ntmps39
  go_wp2_with fail
  go_region_with (go_at_call 40; refine (HP.out _ (below_drewN (Below.refl _ _) _)).mono ?_; rintro e w2 ⟨rfl, S2, D2, h2, hg⟩; have H2 := hide h2; have HG := hide hg; have hx := HC.out _ (below_drewN (Below.refl _ _) _) w2 S2 D2 hg; have cv := box_cell hx 0; have fv := box_free hx 0; clear h2 hg hx)
  all_goals
    go_wp2_with fail
    refine bodyPost_ret (by simp [results, Tryz.results39, go_sem]; try rfl) rfl ?_
    obtain ⟨q1, q2, q3⟩ := HV.out _ (below_drewN (Below.refl _ _) _) w2 S2 D2 H2.out HG.out (.int .i64 (s.start k).1.1)
    exact ⟨rfl, q1, S2, D2, q2, q3.ahead (below_drewN (Below.refl _ _) _) fun k hk => .inl hk⟩

/-- What a client's Start makes of a store. -/
abbrev St.cstart (t : Nat) (k : St.Nm) (s : St.S) : St.Ag (St.S × Int) := St.again (St.askOf fun s => s.ask 0 (St.S.startF k)) t (s, 0)
theorem St.start_in {E : Nat → Prop} (h5 : E 5) (k : St.Nm) (t : St.S) (j : Nat) (h : (St.S.startF k t).1.2 = some j) : E j := by
  unfold St.S.startF at h; split at h <;> simp at h; exact h ▸ h5
set_option maxRecDepth 100000 in
set_option maxHeartbeats 1000000 in
theorem CaS.start {w0 w : World} {S D : Nat → Prop} {sb cb t n : Nat} {a : Int} {s : St.S} (h : CaS w0 S D sb cb t a s n w) (p : Nat → Addr) {E : Nat → Prop} [hE : Told E] (hs : SentsOn E w0 p) (ht : 1 ≤ t ∧ t ≤ 8) (hn : n ≤ 900000) (k : List UInt8) (hk : k.length ≤ 100000) :
    Calls Tryz.prog 28 #[.pointer (some ⟨cb, 0, none⟩), encStr k] w fun e w' => e = .returned (.tuple #[.int .i64 (St.cstart t k s).st.2, errR p (St.cstart t k s).r]) ∧ ∃ S' D', CaS w0 S' D' sb cb t (a + (St.cstart t k s).k) (St.cstart t k s).st.1 (n + t) w' ∧ CaGo S D (fun k => k = cb) S' D' w w' := by
  obtain ⟨W, hW⟩ : ∃ W, W = ((w.alloc (.cells #[.pointer (some ⟨cb, 0, none⟩)] 28)).alloc (.cells #[encStr k] 9)).alloc (.cells #[.int .i64 0] 3) := ⟨_, rfl⟩
  have hb : Below w.heap.size w W := hW ▸ balloc (balloc (balloc (Below.refl _ _) _) _) _
  have q0 : W.cell? ⟨w.heap.size, 0, none⟩ = some (.pointer (some ⟨cb, 0, none⟩)) := by
    rw [hW, World.cell?_alloc_lt _ _ _ (by simp; omega), World.cell?_alloc_lt _ _ _ (by simp), World.cell?_alloc_mark]; rfl
  have q1 : W.cell? ⟨w.heap.size + 1, 0, none⟩ = some (encStr k) := by
    rw [hW, World.cell?_alloc_lt _ _ _ (by simp)]
    have e : (w.alloc (.cells #[.pointer (some ⟨cb, 0, none⟩)] 28)).heap.size = w.heap.size + 1 := by simp
    rw [← e, World.cell?_alloc_mark]; rfl
  have q2 : W.heap[w.heap.size + 2]? = some (.cells #[.int .i64 0] 3 (0, 0)) := by
    have e : ((w.alloc (.cells #[.pointer (some ⟨cb, 0, none⟩)] 28)).alloc (.cells #[encStr k] 9)).heap.size = w.heap.size + 2 := by simp
    rw [hW, ← e, heap_alloc_new]
  have hcl : cb < w.heap.size := (Array.getElem?_eq_some_iff.1 h.box).1
  have hvl : w.heap.size + 2 < W.heap.size := (Array.getElem?_eq_some_iff.1 q2).1
  have hnS : ∀ x, w.heap.size ≤ x → ¬ S x := fun x hx hS => by have := h.st.lt _ (.inl hS); omega
  have hnD : ∀ x, w.heap.size ≤ x → ¬ D x := fun x hx hS => by have := h.st.lt _ (.inr hS); omega
  have hw0 : w0.heap.size ≤ w.heap.size := h.st.below.size
  have HA := hide (caAgain (E := E) hE.e10 (h.grow hb) hs ht (by omega) 39 #[.pointer (some ⟨w.heap.size, 0, none⟩), .pointer (some ⟨w.heap.size + 1, 0, none⟩), .pointer (some ⟨w.heap.size + 2, 0, none⟩)] (enters_of Tryz.func39 (by kernel_rfl) rfl)
    (fun s => s.ask 0 (St.S.startF k)) (St.err_in (E := E) hE.e10 0 _ (St.start_in (E := E) hE.e5 k)) (fun x => x = w.heap.size + 2) (fun z W => W.heap[w.heap.size + 2]? = some (.cells #[.int .i64 z] 3 (0, 0))) (fun _ => True) (fun _ _ => trivial)
    (fun x W1 v hx => (Below.heap_setCell _ _ _ _ (fun e => by have e2 : w.heap.size + 2 = cb := e; omega)).trans hx)
    (fun S1 D1 s1 a1 n1 x W1 h1 _ h3 h4 hgo hx => by
      have hS1 : ¬ S1 (w.heap.size + 2) := fun hy => by
        rcases hgo.s _ hy with hy | hy
        · exact hnS _ (by omega) hy
        · omega
      have hD1 : ¬ D1 (w.heap.size + 2) := fun hy => by
        rcases hgo.d _ hy with hy | hy
        · exact hnD _ (by omega) hy
        · omega
      exact caStart1_any h3 (box_cell h4 0) p hs (by omega) _ _ _ k hk (hgo.cell q0 (hnS _ (Nat.le_refl _)) (by omega)) (hgo.cell q1 (hnS _ (by omega)) (by omega)) x hx hS1 hD1 (by omega)) (by omega) 0 q2 trivial)
  have HW := hide hW
  have HB := hide hb
  clear h hs ht hn hk hW hb q0 q1 q2 hcl hvl hnS hnD hw0
  go_enter Tryz.func28, Tryz.ntmps28
  go_wp2_with (first
    | (go_at_call 38; rw [← HW.out]; refine HA.out.mono ?_; rintro e w2 ⟨rfl, hbx, -, S', D', h1, h2⟩; have H1 := hide h1; have H2 := hide h2; have cv := box_cell hbx 0; simp only [List.getElem?_toArray, List.getElem?_cons_zero] at cv; clear h1 h2 hbx)
    | fail)
  go_returns
  exact ⟨rfl, S', D', H1.out, H2.out.ahead HB.out fun k hk => hk.elim .inl fun e => .inr (by omega)⟩
end Go.Proofs.YtegaahcelogmlaaGreatDoor
