/-
  A store's names and uploads: Names, Open.
  A store's uploads: Start, Part, Abort.
  A store's Get and Head.
  A store's Delete.
  strings.HasPrefix, found in this program.
  A store's List.
  Rows of texts that came in; the reference's In and Rising.
  StoreLists, plainly; a row of texts apart from a store.
  StoreLists, walked.
  StoreLists, proved.
-/
import Derived.Test.YtipmmmmobopbmaaDoorT8
import Derived.Test.YtipmmmmobopbmaaDoorT4
import Derived.Test.YtipmmmmobopbmaaDoorT5
import Derived.Shelf.Lays
import Derived.Shelf.Strings.Prefix
import Derived.Test.YtipmmmmobopbmaaDoorRows
import Derived.LoopTactic
import Derived.Deep.LoopGhost
import Derived.Test.YtipmmmmobopbmaaDoorT1
import Derived.SliceStrings
import Derived.Lib.Hide
import Derived.Deep.RegionLaw
import Derived.Test.YtipmmmmobopbmaaDoorT2
namespace Go.Proofs.YtipmmmmobopbmaaDoor
open Go.RowKit Go.Maps Go.Sort

/-- These are the numbers, or the names, at which there is anything, rising. -/
def St.ListsI {α : Type} (f : Int → Option α) (l : List Int) : Prop := l.Pairwise (· < ·) ∧ ∀ x, x ∈ l ↔ f x ≠ none
def St.ListsS {α : Type} (f : List UInt8 → Option α) (l : List (List UInt8)) : Prop := l.Pairwise (· < ·) ∧ ∀ x, x ∈ l ↔ f x ≠ none
def OwnZ (w : World) (base : Nat) (v : Value) (l : List Int) : Prop := w.ownsRow base 3 1 v l.length (l.map (.int .i64 ·))

theorem keysI_lists {w : World} {b nn : Nat} {D0 : DataW Value} {f : Int → Option Value} (hown : w.ownsMap Tryd.prog 3 heldE b nn D0) (hat0 : ∀ k zd, D0.atKey (.int .i64 k) zd = heldV (f k) zd) {ss : List Int} (h : ss.Perm (intKeys D0)) :
    St.ListsI f (ss.mergeSort fun x y => decide (x ≤ y)) := by
  obtain ⟨es, hD, hpw, _⟩ := hown.entries intK
  obtain ⟨es', hD', hko⟩ := hown.keysOf
  obtain rfl : es = es' := by rw [hD] at hD'; simpa using hD'
  subst hD
  have hk : ∀ p ∈ es, ∃ x, p.1 = .int .i64 x := fun p hp => by
    obtain ⟨v, hv⟩ := hko p hp
    obtain ⟨x, _, hx, _⟩ := Maps.keyOf_int_inv Tryd.underlying3 hv
    exact ⟨x, hx⟩
  have hnd : (intKeys (.map es)).Nodup := by
    show (es.map fun p => Go.intOf p.1).Nodup
    refine List.pairwise_map.2 (hpw.imp_of_mem fun {p q} hp hq hne e => hne ?_)
    obtain ⟨x, hx⟩ := hk p hp
    obtain ⟨y, hy⟩ := hk q hq
    rw [hx, hy] at e ⊢
    exact congrArg _ e
  have hmem : ∀ x, x ∈ intKeys (.map es) ↔ f x ≠ none := fun x => by
    have h1 := hasV (mk := fun k : Int => Lit.int .i64 k) hat0 x
    have h2 : f x ≠ none ↔ Maps.has (.map es) (Lit.int .i64 x) = true := by rw [h1]; cases f x <;> simp
    rw [h2, has_eq, List.any_eq_true]
    show x ∈ es.map (fun p => Go.intOf p.1) ↔ _
    rw [List.mem_map]
    constructor
    · rintro ⟨p, hp, rfl⟩
      obtain ⟨y, hy⟩ := hk p hp
      exact ⟨p, hp, by rw [hy]; simp [Lit.sameKey, Go.intOf]⟩
    · rintro ⟨p, hp, hs⟩
      obtain ⟨y, hy⟩ := hk p hp
      rw [hy] at hs
      exact ⟨p, hp, by rw [hy]; simpa [Lit.sameKey, Go.intOf] using hs⟩
  have hp2 : (ss.mergeSort fun x y => decide (x ≤ y)).Perm (intKeys (.map es)) := (List.mergeSort_perm ss _).trans h
  refine ⟨?_, fun x => (hp2.mem_iff).trans (hmem x)⟩
  have hle : (ss.mergeSort fun x y => decide (x ≤ y)).Pairwise (fun a b => decide (a ≤ b) = true) :=
    List.pairwise_mergeSort (fun a b c h1 h2 => by simp only [decide_eq_true_eq] at *; omega) (fun a b => by simp only [Bool.or_eq_true, decide_eq_true_eq]; omega) ss
  have hne : (ss.mergeSort fun x y => decide (x ≤ y)).Nodup := hp2.nodup_iff.2 hnd
  refine (hle.and hne).imp fun {a b} hab => ?_
  have h1 : a ≤ b := of_decide_eq_true hab.1
  have h2 := hab.2
  omega
theorem keysS_lists {w : World} {b nn : Nat} {D0 : DataW Value} {f : List UInt8 → Option Value} (hown : w.ownsMap Tryd.prog 9 heldE b nn D0) (hat0 : ∀ k zd, D0.atKey (.string k) zd = heldV (f k) zd) {ss : List (List UInt8)} (h : ss.Perm (strKeys D0)) :
    St.ListsS f (ss.mergeSort fun x y => decide (x ≤ y)) := by
  obtain ⟨es, hD, hpw, _⟩ := hown.entries strK
  obtain ⟨es', hD', hko⟩ := hown.keysOf
  obtain rfl : es = es' := by rw [hD] at hD'; simpa using hD'
  subst hD
  have hk : ∀ p ∈ es, ∃ x, p.1 = .string x := fun p hp => by
    obtain ⟨v, hv⟩ := hko p hp
    obtain ⟨x, _, hx, _⟩ := Maps.keyOf_str Tryd.underlying9 hv
    exact ⟨x, hx⟩
  have hnd : (strKeys (.map es)).Nodup := by
    show (es.map fun p => strOf p.1).Nodup
    refine List.pairwise_map.2 (hpw.imp_of_mem fun {p q} hp hq hne e => hne ?_)
    obtain ⟨x, hx⟩ := hk p hp
    obtain ⟨y, hy⟩ := hk q hq
    rw [hx, hy] at e ⊢
    exact congrArg _ e
  have hmem : ∀ x, x ∈ strKeys (.map es) ↔ f x ≠ none := fun x => by
    have h1 := hasV (mk := fun k : List UInt8 => Lit.string k) hat0 x
    have h2 : f x ≠ none ↔ Maps.has (.map es) (Lit.string x) = true := by rw [h1]; cases f x <;> simp
    rw [h2, has_eq, List.any_eq_true]
    show x ∈ es.map (fun p => strOf p.1) ↔ _
    rw [List.mem_map]
    constructor
    · rintro ⟨p, hp, rfl⟩
      obtain ⟨y, hy⟩ := hk p hp
      exact ⟨p, hp, by rw [hy]; simp [Lit.sameKey, strOf]⟩
    · rintro ⟨p, hp, hs⟩
      obtain ⟨y, hy⟩ := hk p hp
      rw [hy] at hs
      exact ⟨p, hp, by rw [hy]; simpa [Lit.sameKey, strOf] using hs⟩
  have hp2 : (ss.mergeSort fun x y => decide (x ≤ y)).Perm (strKeys (.map es)) := (List.mergeSort_perm ss _).trans h
  refine ⟨?_, fun x => (hp2.mem_iff).trans (hmem x)⟩
  have hle : (ss.mergeSort fun x y => decide (x ≤ y)).Pairwise (fun a b => decide (a ≤ b) = true) :=
    List.pairwise_mergeSort (fun a b c h1 h2 => by simp only [decide_eq_true_eq] at *; exact List.le_trans h1 h2) (fun a b => by simp only [Bool.or_eq_true, decide_eq_true_eq]; exact List.le_total a b) ss
  have hne : (ss.mergeSort fun x y => decide (x ≤ y)).Nodup := hp2.nodup_iff.2 hnd
  refine (hle.and hne).imp fun {a b} hab => ?_
  have h1 : a ≤ b := of_decide_eq_true hab.1
  rcases Nm.tx_tri a b with e | e | e
  · exact e
  · exact absurd e hab.2
  · exact absurd e (List.not_lt.2 h1)

set_option maxRecDepth 100000 in
theorem StS.names {w0 w : World} {S D : Nat → Prop} {sb n : Nat} {s : St.S} (h : StS w0 S D sb s n w) (hn : n ≤ 1000000) :
    Calls Tryd.prog 29 #[.pointer (some ⟨sb, 0, none⟩)] w fun e w' => ∃ v l, e = .returned v ∧ St.ListsS s.objs l ∧ OwnT w' w.heap.size v l ∧ Below w.heap.size w w' := by
  obtain ⟨ob, ub, sv, ov, pb, pv, hL⟩ := h.st
  obtain ⟨D0, hown, hat0⟩ := hL.objs.ex
  have hsz := hown.size_le
  have c : w.cell? ⟨sb, 0, none⟩ = some (.map (some ob)) := box_cell hL.box 0
  have hS := callsIn_wide.1 (lay_slices_Sorted_keysO ob n D0 heldE w hown (by simp only [maxLen]; omega) (by omega))
  have hK := fun (mb : Option Nat) (W : World) => callsIn_wide.1 (lay_maps_KeysO mb W)
  have hov : ∀ x, ov x ≠ none ↔ s.objs x ≠ none := fun x => by
    have := hL.oat x
    cases h1 : ov x <;> cases h2 : s.objs x <;> simp_all [Both]
  have HL := hide (fun (ss : List (List UInt8)) (hp : ss.Perm (strKeys D0)) => (show St.ListsS s.objs (ss.mergeSort fun x y => decide (x ≤ y)) from ⟨(keysS_lists hown hat0 hp).1, fun x => ((keysS_lists hown hat0 hp).2 x).trans (hov x)⟩))
  have HS := hide hS
  have HK := hide hK
  clear h hL hS hK hown hat0 hsz hov
  go_enter Tryd.func29, Tryd.ntmps29
  go_wp2_with (first
    | (go_at_call 55; refine (HK.out _ _).mono ?_; rintro e w1 ⟨rfl, rfl⟩)
    | (go_at_call 54; refine HS.out.mono ?_; rintro e w2 ⟨v, ss, rfl, hp, hrow, -, hb2⟩; have HRO := hide hrow; have HB := hide hb2; have HP := hide hp; clear hrow hb2 hp)
    | fail)
  go_ret
  have hlen : (ss.mergeSort fun x y => decide (x ≤ y)).length = ss.length := by simp
  refine ⟨_, _, rfl, HL.out ss HP.out, ?_, (balloc (Below.refl _ _) _).trans (HB.out.mono (by simp))⟩
  refine OwnT.mono (base := (w.alloc (.cells #[.map (some ob)] 67)).heap.size) ?_ (by simp)
  unfold OwnT
  rw [hlen]
  exact HRO.out
theorem OwnZ.mono {w : World} {base base' : Nat} {v : Value} {l : List Int} (h : OwnZ w base v l) (hb : base' ≤ base) : OwnZ w base' v l := by
  obtain ⟨h1, h2⟩ := h
  refine ⟨h1, ?_⟩
  rcases h2 with h2 | ⟨g, cap, cur, hv, hg, r⟩
  · exact .inl h2
  · exact .inr ⟨g, cap, cur, hv, by omega, r⟩
set_option maxRecDepth 100000 in
theorem StS.openOf {w0 w : World} {S D : Nat → Prop} {sb n : Nat} {s : St.S} (h : StS w0 S D sb s n w) (hn : n ≤ 1000000) :
    Calls Tryd.prog 19 #[.pointer (some ⟨sb, 0, none⟩)] w fun e w' => ∃ v l, e = .returned v ∧ St.ListsI s.ups l ∧ OwnZ w' w.heap.size v l ∧ Below w.heap.size w w' := by
  obtain ⟨ob, ub, sv, ov, pb, pv, hL⟩ := h.st
  obtain ⟨D0, hown, hat0⟩ := hL.ups.ex
  have hsz := hown.size_le
  have c : w.cell? ⟨sb, 1, none⟩ = some (.map (some ub)) := box_cell hL.box 1
  have hS := callsIn_wide.1 (lay_slices_Sorted_keysI ub n D0 heldE w hown (by simp only [maxLen]; omega) (by omega))
  have hK := fun (mb : Option Nat) (W : World) => callsIn_wide.1 (lay_maps_KeysI mb W)
  have hov : ∀ x, upV pb s x ≠ none ↔ s.ups x ≠ none := fun x => by simp [upV]
  have HL := hide (fun (ss : List Int) (hp : ss.Perm (intKeys D0)) => (show St.ListsI s.ups (ss.mergeSort fun x y => decide (x ≤ y)) from ⟨(keysI_lists hown hat0 hp).1, fun x => ((keysI_lists hown hat0 hp).2 x).trans (hov x)⟩))
  have HS := hide hS
  have HK := hide hK
  clear h hL hS hK hown hat0 hsz hov
  go_enter Tryd.func19, Tryd.ntmps19
  go_wp2_with (first
    | (go_at_call 47; refine (HK.out _ _).mono ?_; rintro e w1 ⟨rfl, rfl⟩)
    | (go_at_call 46; refine HS.out.mono ?_; rintro e w2 ⟨v, ss, rfl, hp, hrow, -, hb2⟩; have HRO := hide hrow; have HB := hide hb2; have HP := hide hp; clear hrow hb2 hp)
    | fail)
  go_ret
  have hlen : (ss.mergeSort fun x y => decide (x ≤ y)).length = ss.length := by simp
  refine ⟨_, _, rfl, HL.out ss HP.out, ?_, (balloc (Below.refl _ _) _).trans (HB.out.mono (by simp))⟩
  refine OwnZ.mono (base := (w.alloc (.cells #[.map (some ub)] 68)).heap.size) ?_ (by simp)
  unfold OwnZ
  rw [hlen]
  exact HRO.out
end Go.Proofs.YtipmmmmobopbmaaDoor

namespace Go.Proofs.YtipmmmmobopbmaaDoor
open Go.RowKit Go.Maps

section
variable {w : World} {sb ob ub : Nat} {sv : Value} {ov : St.Nm → Option Value} {pb : Int → Nat} {pv : Int → Int → Option Value} {s : St.S} {m : Nat} {S D : Nat → Prop}

/-- An upload begins: the box tells its number, the map of its parts is new. -/
theorem StoreL.putUp {w1 w2 : World} {g : Nat} {k : List UInt8} (h : StoreL w sb ob ub sv ov pb pv s m S D) (hk : k.length ≤ 64)
    (hc1 : Chg (fun k => k = sb) w w1) (hgw : w.heap.size ≤ g) (hgl : g < w1.heap.size)
    (hb : w1.heap[sb]? = some (.cells (stCells { s with last := s.last + 1 } ob ub sv) 70 (0, 0)))
    (hn : MapN w1 g 0 (fun _ => none))
    (hm : MapN w2 ub (m + 1) (updV (upV pb s) (s.last + 1) (some (.agg #[encStr k, .map (some g)])))) (hg : w1.grownBy w2 (some ub)) (hz : w2.heap.size = w1.heap.size) :
    StoreL w2 sb ob ub sv ov (fun i => if i = s.last + 1 then g else pb i) (fun i => if i = s.last + 1 then fun _ => none else pv i) { s with last := s.last + 1, ups := St.upd s.ups (s.last + 1) (some ⟨k, fun _ => none⟩) } (m + 1) (Up S w w2) D := by
  have hlastu : s.ups (s.last + 1) = none := by
    cases hu : s.ups (s.last + 1) with
    | none => rfl
    | some u => obtain ⟨_, _, _, _, _, _, hl, _⟩ := h.parts _ u hu; omega
  have nsb : ∀ k es clock, w.heap[k]? = some (.map es clock) → k ≠ sb := fun k es clock hk e => by
    subst e; rw [h.box] at hk; cases hk
  have hoth : ∀ x, x ≠ sb → x ≠ ub → x < w.heap.size → w2.heap[x]? = w.heap[x]? := fun x h1 h2 h3 => by
    rw [hg.block x (Nat.lt_of_lt_of_le h3 hc1.size) (by intro e; injection e with e; exact h2 e), hc1.block x h3 h1]
  have hsz : w.heap.size ≤ w2.heap.size := by have := hc1.size; omega
  have hD := fun (v : Value) (l : List UInt8) (hd : DataAt w D v l) => hd.kept hsz fun x hx hl => hoth x (fun e => h.sd _ h.msb (e ▸ hx)) (fun e => h.sd _ h.mub (e ▸ hx)) hl
  have hmp : ∀ {κ : Type} {kt : TypeId} {mk : κ → Lit} {x : Nat} {f : κ → Option Value}, MapV kt mk w x m f → x ≠ ub → MapV kt mk w2 x (m + 1) f := fun hmap hne => by
    obtain ⟨es, clock, he⟩ := hmap.isMap
    exact (hmap.same (hoth _ (nsb _ _ _ he) hne hmap.lt)).mono (Nat.le_succ _)
  have hub : ub < w.heap.size := h.lt _ (.inl h.mub)
  have hob : ob < w.heap.size := h.lt _ (.inl h.mob)
  have hsb : sb ≠ ub := fun e => by
    obtain ⟨es, clock, he⟩ := h.ups.isMap
    exact nsb _ _ _ he e.symm
  have hgu : g ≠ ub := by omega
  refine { box := ?_, objs := hmp h.objs h.ne, oat := fun x => (h.oat x).imp hD, ups := ?_, parts := fun i u hu => ?_, inj := fun i j hi hj e => ?_, ne := h.ne, scr := ?_, msb := .inl h.msb, mob := .inl h.mob, mub := .inl h.mub, sd := fun x hx hd => ?_, lt := fun x hx => ?_, keys := h.keys, last := ⟨by have := h.last.1; show 0 ≤ s.last + 1; omega, by have := h.last.2; show s.last + 1 ≤ _; omega⟩ }
  · rw [hg.block sb (Nat.lt_of_lt_of_le (h.lt _ (.inl h.msb)) hc1.size) (by intro e; injection e with e; exact hsb e), hb]
    rfl
  · have e : upV (fun i => if i = s.last + 1 then g else pb i) { s with last := s.last + 1, ups := St.upd s.ups (s.last + 1) (some ⟨k, fun _ => none⟩) } = updV (upV pb s) (s.last + 1) (some (.agg #[encStr k, .map (some g)])) := by
      funext i
      by_cases e : i = s.last + 1
      · subst e; simp [upV, updV, St.upd]
      · simp [upV, updV, St.upd, e]
    rw [e]; exact hm
  · by_cases e : i = s.last + 1
    · subst e
      simp only [St.upd, if_true] at hu
      obtain rfl := Option.some.inj hu
      simp only [if_true]
      refine ⟨(hn.same (hg.block g hgl (by intro e; injection e with e; exact hgu e))).mono (Nat.zero_le _), fun n => trivial, .inr ⟨hgw, by omega⟩, by omega, hgu, by have := h.last.1; omega, Int.le_refl _, hk⟩
    · simp only [St.upd, if_neg e] at hu ⊢
      obtain ⟨p1, p2, p3, p4, p5, p6, p7, p8⟩ := h.parts i u hu
      exact ⟨hmp p1 p5, fun n => (p2 n).imp hD, .inl p3, p4, p5, p6, (by show i ≤ s.last + 1; omega), p8⟩
  · have hlt : ∀ i, s.ups i ≠ none → pb i < w.heap.size := fun i hi => by
      obtain ⟨u, hu⟩ := Option.ne_none_iff_exists'.1 hi
      exact (h.parts i u hu).1.lt
    simp only [St.upd] at hi hj
    by_cases e1 : i = s.last + 1
    · by_cases e2 : j = s.last + 1
      · rw [e1, e2]
      · simp only [e1, if_true, if_neg e2] at e hj
        have := hlt j hj; omega
    · by_cases e2 : j = s.last + 1
      · simp only [e2, if_true, if_neg e1] at e hi
        have := hlt i hi; omega
      · simp only [if_neg e1, if_neg e2] at e hi hj
        exact h.inj i j hi hj e
  · exact (h.scr.kept fun x hx hl ⟨cs, hcs⟩ => hoth x (fun e => by subst e; rw [h.box] at hcs; injection hcs with hcs; injection hcs with _ hcs _; exact absurd hcs (by decide)) (fun e => by subst e; obtain ⟨es, clock, he⟩ := h.ups.isMap; rw [hcs] at he; cases he) hl).mono fun _ h => .inl h
  · rcases hx with hx | hx
    · exact h.sd _ hx hd
    · have := h.lt _ (.inr hd); omega
  · rcases hx with (hx | hx) | hx
    · have := h.lt _ (.inl hx); omega
    · exact hx.2
    · have := h.lt _ (.inr hx); omega
/-- A part is laid. -/
theorem StoreL.putPart {w1 w2 : World} (h : StoreL w sb ob ub sv ov pb pv s m S D) (hb : Below w.heap.size w w1) {id n : Int} {u : St.Up} (hu : s.ups id = some u) {v : Value} {b : List UInt8} (hv : Own w1 w.heap.size v b) (hl : b.length ≤ 1000000000)
    (hm : MapN w2 (pb id) (m + 1) (updV (pv id) n (some v))) (hg : w1.grownBy w2 (some (pb id))) (hz : w2.heap.size = w1.heap.size) :
    StoreL w2 sb ob ub sv ov pb (fun i => if i = id then updV (pv id) n (some v) else pv i) { s with ups := St.upd s.ups id (some { u with parts := St.upd u.parts n (some b) }) } (m + 1) S (fun g => D g ∨ v.ownBlock = some g) := by
  have h1 := h.kept (w' := w1) hb.size fun k _ hl => hb.block k hl
  have hlt := hv.lt
  obtain ⟨q1, q2, q3, q4, q5, q6, q7, q8⟩ := h1.parts id u hu
  have hoth : ∀ g, g ≠ pb id → g < w1.heap.size → w2.heap[g]? = w1.heap[g]? := fun g hne hl => hg.block g hl (by intro e; injection e with e; exact hne e)
  have nD : ∀ g, D g ∨ v.ownBlock = some g → g ≠ pb id := fun g hx e => by
    rcases hx with hx | hx
    · exact h.sd _ q3 (e ▸ hx)
    · have := (hlt _ hx).1; have := h.lt _ (.inl q3); omega
  have hD : ∀ v' l', DataAt w1 D v' l' → DataAt w2 (fun g => D g ∨ v.ownBlock = some g) v' l' := fun v' l' hd => (hd.mono fun _ h => .inl h).kept (by omega) fun g hg' hl => hoth g (nD g hg') hl
  have hnew : DataAt w2 (fun g => D g ∨ v.ownBlock = some g) v b := (hv.data hl).kept (by omega) fun g hg' hl => hoth g (nD g hg') hl
  have hmp : ∀ {κ : Type} {kt : TypeId} {mk : κ → Lit} {x : Nat} {f : κ → Option Value}, MapV kt mk w1 x m f → x ≠ pb id → MapV kt mk w2 x (m + 1) f := fun hmap hne => (hmap.same (hoth _ hne hmap.lt)).mono (Nat.le_succ _)
  have hsb : sb ≠ pb id := fun e => by
    obtain ⟨es, clock, he⟩ := q1.isMap
    rw [← e, h1.box] at he; cases he
  have hup : ∀ i, St.upd s.ups id (some { u with parts := St.upd u.parts n (some b) }) i ≠ none → s.ups i ≠ none := fun i hi => by
    by_cases e : i = id
    · rw [e, hu]; simp
    · simpa [St.upd, e] using hi
  refine { box := (hoth _ hsb (h1.lt _ (.inl h.msb))).trans h1.box, objs := hmp h1.objs (Ne.symm q4), oat := fun x => (h1.oat x).imp hD, ups := ?_, parts := fun i u' hu' => ?_, inj := fun i j hi hj e => h.inj i j (hup i hi) (hup j hj) e, ne := h.ne, scr := h1.scr.kept fun g hS hl ⟨cs, hcs⟩ => hoth g (fun e => ?_) hl, msb := h.msb, mob := h.mob, mub := h.mub, sd := fun g hS hx => ?_, lt := fun g hx => ?_, keys := h.keys, last := ⟨h.last.1, by have := h.last.2; show s.last ≤ _; omega⟩ }
  · have e : upV pb { s with ups := St.upd s.ups id (some { u with parts := St.upd u.parts n (some b) }) } = upV pb s := by
      funext i
      by_cases e : i = id
      · subst e; simp [upV, St.upd, hu]
      · simp [upV, St.upd, e]
    rw [e]; exact hmp h1.ups (Ne.symm q5)
  · by_cases e : i = id
    · subst e
      simp only [St.upd, if_true] at hu' ⊢
      obtain rfl := Option.some.inj hu'
      refine ⟨hm, fun n' => ?_, q3, q4, q5, q6, q7, q8⟩
      by_cases e : n' = n
      · subst e; simp only [updV, St.upd, if_true]; exact hnew
      · simp only [updV, St.upd, if_neg e]; exact (q2 n').imp hD
    · simp only [St.upd, if_neg e] at hu' ⊢
      obtain ⟨p1, p2, p3, p4, p5, p6, p7, p8⟩ := h1.parts i u' hu'
      exact ⟨hmp p1 fun e' => e (h.inj i id (by rw [hu']; simp) (by rw [hu]; simp) e'), fun n => (p2 n).imp hD, p3, p4, p5, p6, p7, p8⟩
  · subst e
    obtain ⟨es, clock, he⟩ := q1.isMap
    rw [hcs] at he; cases he
  · rcases hx with hx | hx
    · exact h.sd _ hS hx
    · have := (hlt _ hx).1; have := h.lt _ (.inl hS); omega
  · rw [hz]
    rcases hx with hx | hx | hx
    · exact h1.lt _ (.inl hx)
    · exact h1.lt _ (.inr hx)
    · exact (hlt _ hx).2
/-- An upload is let go. -/
theorem StoreL.dropUp {w2 : World} (h : StoreL w sb ob ub sv ov pb pv s m S D) {id : Int} (hm : MapN w2 ub m (updV (upV pb s) id none)) (hg : w.grownBy w2 (some ub)) (hz : w2.heap.size = w.heap.size) :
    StoreL w2 sb ob ub sv ov pb pv { s with ups := St.upd s.ups id none } m S D := by
  have hoth : ∀ g, g ≠ ub → g < w.heap.size → w2.heap[g]? = w.heap[g]? := fun g hne hl => hg.block g hl (by intro e; injection e with e; exact hne e)
  have hD := fun (v : Value) (l : List UInt8) (hd : DataAt w D v l) => hd.kept (w' := w2) (by omega) fun g hx hl => hoth g (fun e => h.sd _ h.mub (e ▸ hx)) hl
  have hmp : ∀ {κ : Type} {kt : TypeId} {mk : κ → Lit} {x : Nat} {f : κ → Option Value}, MapV kt mk w x m f → x ≠ ub → MapV kt mk w2 x m f := fun hmap hne => hmap.same (hoth _ hne hmap.lt)
  have hsb : sb ≠ ub := fun e => by
    obtain ⟨es, clock, he⟩ := h.ups.isMap
    rw [← e, h.box] at he; cases he
  have hup : ∀ i u, St.upd s.ups id none i = some u → s.ups i = some u ∧ i ≠ id := fun i u hi => by
    by_cases e : i = id
    · simp [St.upd, e] at hi
    · exact ⟨by simpa [St.upd, e] using hi, e⟩
  have hup2 : ∀ i, St.upd s.ups id none i ≠ none → s.ups i ≠ none := fun i hi => by
    obtain ⟨u, hu⟩ := Option.ne_none_iff_exists'.1 hi
    rw [(hup i u hu).1]; simp
  refine { box := (hoth _ hsb (h.lt _ (.inl h.msb))).trans h.box, objs := hmp h.objs h.ne, oat := fun x => (h.oat x).imp hD, ups := ?_, parts := fun i u hu => ?_, inj := fun i j hi hj e => h.inj i j (hup2 i hi) (hup2 j hj) e, ne := h.ne, scr := h.scr.kept fun g hS hl ⟨cs, hcs⟩ => hoth g (fun e => ?_) hl, msb := h.msb, mob := h.mob, mub := h.mub, sd := h.sd, lt := fun g hx => by rw [hz]; exact h.lt g hx, keys := h.keys, last := h.last }
  · have e : upV pb { s with ups := St.upd s.ups id none } = updV (upV pb s) id none := by
      funext i
      by_cases e : i = id
      · subst e; simp [upV, updV, St.upd]
      · simp [upV, updV, St.upd, e]
    rw [e]; exact hm
  · obtain ⟨p1, p2, p3, p4, p5, p6, p7, p8⟩ := h.parts i u (hup i u hu).1
    exact ⟨hmp p1 p5, fun n => (p2 n).imp hD, p3, p4, p5, p6, p7, p8⟩
  · subst e
    obtain ⟨es, clock, he⟩ := h.ups.isMap
    rw [hcs] at he; cases he
/-- What is at a number, as a look-up tells it. -/
theorem StoreL.lookUp (h : StoreL w sb ob ub sv ov pb pv s m S D) (id : Int) (hid : -9223372036854775808 ≤ id ∧ id ≤ 9223372036854775807) (W : World) (hW : Below w.heap.size w W) :
    (Instr.lookup 68 (.map (some ub)) (.int .i64 id) true).run Tryd.prog W = .ok (.tuple #[((upV pb s) id).getD (.agg #[encStr [], .map none]), .bool (s.ups id).isSome]) W := by
  have h1 := (show MapN W ub m (upV pb s) from h.ups.same (hW.block _ h.ups.lt)).look intK map_ups (zero_upload W) id (intKey hid)
  rw [h1]
  have e : (upV pb s id).isSome = (s.ups id).isSome := by simp [upV]
  rw [e]
end

set_option maxRecDepth 100000 in
set_option maxHeartbeats 1000000 in
/-- The closure of Part. -/
theorem stPart1_any (p : Nat → Addr) {w : World} {sb ob ub : Nat} {sv : Value} {ov : St.Nm → Option Value} {pb : Int → Nat} {pv : Int → Int → Option Value} {s : St.S} {m : Nat} {S D : Nat → Prop} (h : StoreL w sb ob ub sv ov pb pv s m S D) (hm : m ≤ 1000000000)
    (hs6 : w.cell? ⟨1, 0, none⟩ = some (errV (p 6))) (hs4 : w.cell? ⟨2, 0, none⟩ = some (errV (p 4))) (xb ib nb bb : Nat) (id n : Int) (hid : -9223372036854775808 ≤ id ∧ id ≤ 9223372036854775807) (hn : -9223372036854775808 ≤ n ∧ n ≤ 9223372036854775807) (A : Option Addr) (l c : Nat) (b : List UInt8) (ha : Arg w A c b) (hl : b.length = l) (hl2 : l ≤ 1000000000)
    (c1 : w.cell? ⟨xb, 0, none⟩ = some (.pointer (some ⟨sb, 0, none⟩))) (c2 : w.cell? ⟨ib, 0, none⟩ = some (.int .i64 id)) (c3 : w.cell? ⟨nb, 0, none⟩ = some (.int .i64 n)) (c4 : w.cell? ⟨bb, 0, none⟩ = some (.slice A l c)) :
    Calls Tryd.prog 40 #[.pointer (some ⟨xb, 0, none⟩), .pointer (some ⟨ib, 0, none⟩), .pointer (some ⟨nb, 0, none⟩), .pointer (some ⟨bb, 0, none⟩)] w fun e w' => e = .returned (errR p (s.partF id n b).1.2) ∧ StPost w sb (s.partF id n b).2 (m + 1) S D w' := by
  have HLK := fun W hW => h.lookUp id hid W hW
  have b1 : w.cell? ⟨sb, 1, none⟩ = some (.map (some ub)) := box_cell h.box 1
  unfold errV at hs6 hs4
  have HH := hide h
  obtain ⟨r, hr⟩ : ∃ r, s.partF id n b = r := ⟨_, rfl⟩
  rw [hr]
  unfold St.S.partF at hr
  cases hu : s.ups id with
  | none =>
    rw [hu] at hr HLK
    subst hr
    have e : upV pb s id = none := by simp [upV, hu]
    rw [e] at HLK
    simp only [Option.getD_none, Option.isSome_none] at HLK
    have hlk1 := HLK w.drew (below_drewN (Below.refl _ _) 1)
    have hlk2 := fun o => HLK (w.alloc o).drew (below_drewN (balloc (Below.refl _ _) o) 1)
    have up : ∀ {a : Addr} {v : Value}, w.cell? a = some v → ∀ o, (w.alloc o).cell? a = some v := fun ha o => (World.cell?_alloc_lt w o _ (World.block_lt_of_cell? _ _ ha)).trans ha
    have d1 := up c1
    have d2 := up c2
    have db := up b1
    have d6 := up hs6
    clear h HLK ha hu e up
    go_enter Tryd.func40, Tryd.ntmps40
    go_wp2_with fail
    go_region
    go_wp2_with fail
    go_ret
    exact ⟨rfl, (StPost.of_same (IsStore.below ⟨_, _, _, _, _, _, HH.out⟩ (below_drewN (balloc (Below.refl _ _) _) 1)) (Chg.of_below (below_drewN (balloc (Below.refl _ _) _) 1))).mono (Nat.le_succ _)⟩
  | some u =>
    rw [hu] at hr HLK
    simp only at hr
    have e : upV pb s id = some (.agg #[encStr u.name, .map (some (pb id))]) := by simp [upV, hu]
    rw [e] at HLK
    simp only [Option.getD_some, Option.isSome_some] at HLK
    have hlk1 := HLK w.drew (below_drewN (Below.refl _ _) 1)
    have hlk2 := fun o => HLK (w.alloc o).drew (below_drewN (balloc (Below.refl _ _) o) 1)
    have up : ∀ {a : Addr} {v : Value}, w.cell? a = some v → ∀ o, (w.alloc o).cell? a = some v := fun ha o => (World.cell?_alloc_lt w o _ (World.block_lt_of_cell? _ _ ha)).trans ha
    have d1 := up c1
    have d2 := up c2
    have db := up b1
    have HU := hide hu
    have HA := hide ha
    clear h HLK hu e up ha
    go_enter Tryd.func40, Tryd.ntmps40
    go_wp2_with fail
    go_region
    obtain ⟨W1, hW1⟩ : ∃ W1, W1 = (w.alloc (.cells #[.string ⟨u.name.toArray⟩, .map (some (pb id))] 75)).drew := ⟨_, rfl⟩
    rw [← hW1]
    have hb1 : Below w.heap.size w W1 := hW1 ▸ below_drewN (balloc (Below.refl _ _) _) 1
    have k0 : W1.cell? ⟨w.heap.size, 0, none⟩ = some (.string ⟨u.name.toArray⟩) := by rw [hW1]; show (w.alloc _).cell? _ = _; rw [World.cell?_alloc_mark]; rfl
    have k1 : W1.cell? ⟨w.heap.size, 1, none⟩ = some (.map (some (pb id))) := by rw [hW1]; show (w.alloc _).cell? _ = _; rw [World.cell?_alloc_mark]; rfl
    have hh1 := HH.out.kept (w' := W1) hb1.size fun g _ hl => hb1.block g hl
    have HH1 := hide hh1
    have HB1 := hide hb1
    have up1 : ∀ {a : Addr} {v : Value}, w.cell? a = some v → W1.cell? a = some v := fun ha => (hb1.cell (p := _) (World.block_lt_of_cell? _ _ ha)).trans ha
    have x3 := up1 c3
    have x4 := up1 c4
    have x5 := up1 hs4
    clear c1 c2 c3 c4 b1 hs6 hs4 d1 d2 db up1 hlk1 hlk2 hh1 hb1 hW1
    have HBAD : Hid (∀ W, Below W1.heap.size W1 W → StPost w sb s (m + 1) S D W) := hide (fun W hW => (StPost.of_same (IsStore.below ⟨_, _, _, _, _, _, HH.out⟩ (HB1.out.trans (hW.mono HB1.out.size))) (Chg.of_below (HB1.out.trans (hW.mono HB1.out.size)))).mono (Nat.le_succ _))
    by_cases n0 : n < 0
    · rw [if_pos (.inl n0)] at hr
      subst hr
      go_wp2_with fail
      go_ret
      exact ⟨rfl, HBAD.out _ (Below.refl _ _)⟩
    · by_cases n1 : 256 ≤ n
      · rw [if_pos (.inr n1)] at hr
        subst hr
        go_wp2_with fail
        go_ret
        exact ⟨rfl, HBAD.out _ (Below.refl _ _)⟩
      · rw [if_neg (by omega)] at hr
        subst hr
        have HC := hide (fun W (hW : Below W1.heap.size W1 W) => bclone_any A c l b W hl hl2 ((HA.out.below HB1.out (Nat.le_refl _)).below hW (Nat.le_refl _)))
        have HLN := hide hl
        have HN0 := hide (show -9223372036854775808 ≤ n ∧ n ≤ 9223372036854775807 by omega)
        clear HBAD hl
        go_wp2_with fail
        refine wp_region_store (G := Gro) gro_goes [26, 27, 28, 29, 30] (fun d => match d with
          | 26 => .is (.pointer (some ⟨w.heap.size, 1, none⟩)) | 27 => .is (.map (some (pb id))) | 28 => .is (.int .i64 n) | 29 => .is (.slice A l c) | 30 => heldRow W1.heap.size b | _ => .any) _ (by kernel_rfl) (by kernel_rfl) rfl (by kernel_rfl) ?_ ?_
        · simp only [List.size_toArray, List.length_cons, List.length_nil, List.take_succ_cons, List.take_zero, StepsH, Nat.reduceAdd, Nat.reduceSub]
          refine ⟨?_, ?_, ?_, ?_, ?_, trivial⟩
          all_goals
            intro ev w2 hb hev hd
            have ev5 : ev (.tmp 5) = .pointer (some ⟨w.heap.size, 0, none⟩) := hev _ (by simp)
            have ev2 : ev (.tmp 2) = .pointer (some ⟨nb, 0, none⟩) := hev _ (by simp)
            have ev3 : ev (.tmp 3) = .pointer (some ⟨bb, 0, none⟩) := hev _ (by simp)
            have evf : ∀ f, ev (.func f) = .func (.func f) #[] #[] := fun f => hev _ (by simp)
            have z1 := (hb.cell (p := ⟨w.heap.size, 1, none⟩) (World.block_lt_of_cell? _ _ k1)).trans k1
            have z2 := (hb.cell (p := ⟨nb, 0, none⟩) (World.block_lt_of_cell? _ _ x3)).trans x3
            have z3 := (hb.cell (p := ⟨bb, 0, none⟩) (World.block_lt_of_cell? _ _ x4)).trans x4
            have HB2 : Hid (Below W1.heap.size W1 w2) := hide ((Below.refl W1.heap.size W1).drew.trans hb)
            clear hev hb k0 k1 x3 x4 x5
            simp [DepsG, Held.is] at hd
            try simp [OpRuns, execOp, go_sem, Held.is, Below.refl, Gro, *]
          exact (HC.out _ HB2.out).mono fun e w'' ⟨v, he, ho, hb⟩ => ⟨v, he, hb, ho.mono HB2.out.size⟩
        · intro f w4 hb hf
          have e27 : f 27 = .map (some (pb id)) := hf 27 (by simp)
          have e28 : f 28 = .int .i64 n := hf 28 (by simp)
          have e30 : Own w4 W1.heap.size (f 30) b := hf 30 (by simp)
          have HB4 : Hid (Below W1.heap.size W1 w4) := hide ((Below.refl W1.heap.size W1).drew.trans hb)
          have HO4 := hide e30
          have hh4 := HH1.out.kept (w' := w4) HB4.out.size fun g _ hl => HB4.out.block g hl
          clear hb hf e30
          simp only [puts, Act.put, List.setIfInBounds_toArray, List.set_cons_succ, List.set_cons_zero]
          rw [e27, e28]
          clear e27 e28
          generalize f 30 = v at *
          generalize f 26 = z26
          generalize f 29 = z29
          clear f
          refine wpList_putV rfl (.tmp 27) (.tmp 28) (.tmp 30) _ _ rfl intK map_parts (pb id) m (pv id) rfl (hh4.parts id u HU.out).1 _ n rfl (intKey HN0.out) (intInj n) v rfl (by omega) ?_
          intro w5 hm5 hg5 hz5
          have HF := hide (HH1.out.putPart HB4.out HU.out HO4.out (by have := HLN.out; omega) hm5 hg5 hz5)
          have HC5 : Hid (Chg S w w5) := hide (((Chg.of_below HB1.out).then (Chg.of_below HB4.out)).then (Chg.of_grown hg5 fun g e => by injection e with e; exact e ▸ (HH.out.parts id u HU.out).2.2.1))
          have HZ5 := hide hz5
          clear hh4 hm5 hg5 hz5
          go_wp2_with fail
          go_ret
          have hlt := HO4.out.lt
          exact ⟨rfl, ⟨⟨S, _, ⟨_, _, _, _, _, _, HF.out⟩, fun _ h => .inl h, fun g hg => by rcases hg with hg | hg; exact .inl hg; exact .inr (by have := hlt g hg; have := HZ5.out; have := HB1.out.size; omega)⟩, HC5.out⟩⟩
end Go.Proofs.YtipmmmmobopbmaaDoor

namespace Go.Proofs.YtipmmmmobopbmaaDoor
open Go.RowKit Go.Maps

/-- What is at a name, as a look-up tells it. -/
theorem StoreL.lookObj {w : World} {sb ob ub : Nat} {sv : Value} {ov : St.Nm → Option Value} {pb : Int → Nat} {pv : Int → Int → Option Value} {s : St.S} {m : Nat} {S D : Nat → Prop} (h : StoreL w sb ob ub sv ov pb pv s m S D) (k : List UInt8) (hk : k.length ≤ 9223372036854775807) :
    ∃ A c, (∀ q, (Instr.lookup 67 (.map (some ob)) (encStr k) true).run Tryd.prog (w.drewN q) = .ok (.tuple #[.slice A ((s.objs k).getD []).length c, .bool (s.objs k).isSome]) (w.drewN q)) ∧ ((s.objs k).getD []).length ≤ 1000000000 ∧ Arg w A c ((s.objs k).getD []) := by
  have hl := fun q => (show MapS (w.drewN q) ob m ov from h.objs.same rfl).look strK map_objs (zero_bytes (w.drewN q)) k (strKey hk)
  have hb := h.oat k
  cases h1 : ov k with
  | none =>
    cases h2 : s.objs k with
    | none => rw [h1] at hl; exact ⟨none, 0, hl, by simp, ⟨by simp, by omega, fun _ => rfl, .inl rfl⟩⟩
    | some b => rw [h1, h2] at hb; exact hb.elim
  | some v =>
    cases h2 : s.objs k with
    | none => rw [h1, h2] at hb; exact hb.elim
    | some b =>
      rw [h1, h2] at hb
      obtain ⟨A, c, rfl, q1, q2, q3, q4, q5, _⟩ := hb
      rw [h1] at hl
      exact ⟨A, c, hl, q3, ⟨q1, q2, q4, q5⟩⟩

set_option maxRecDepth 100000 in
set_option maxHeartbeats 1000000 in
/-- The closure of Get. -/
theorem stGet1_any {w : World} {sb ob ub : Nat} {sv : Value} {ov : St.Nm → Option Value} {pb : Int → Nat} {pv : Int → Int → Option Value} {s : St.S} {m : Nat} {S D : Nat → Prop} (h : StoreL w sb ob ub sv ov pb pv s m S D) (p : Nat → Addr)
    (hs6 : w.cell? ⟨1, 0, none⟩ = some (errV (p 6))) (hs4 : w.cell? ⟨2, 0, none⟩ = some (errV (p 4))) (xb nb fb lb : Nat) (k : List UInt8) (hk : k.length ≤ 1000000000) (off n : Int) (hoff : -9223372036854775808 ≤ off ∧ off ≤ 9223372036854775807) (hn : -9223372036854775808 ≤ n ∧ n ≤ 9223372036854775807)
    (c1 : w.cell? ⟨xb, 0, none⟩ = some (.pointer (some ⟨sb, 0, none⟩))) (c2 : w.cell? ⟨nb, 0, none⟩ = some (encStr k)) (c3 : w.cell? ⟨fb, 0, none⟩ = some (.int .i64 off)) (c4 : w.cell? ⟨lb, 0, none⟩ = some (.int .i64 n)) :
    Calls Tryd.prog 58 #[.pointer (some ⟨xb, 0, none⟩), .pointer (some ⟨nb, 0, none⟩), .pointer (some ⟨fb, 0, none⟩), .pointer (some ⟨lb, 0, none⟩)] w fun e w' => ∃ A l c, e = .returned (.tuple #[.slice A l c, errR p (s.getF k off n).1.2]) ∧ Own w' w.heap.size (.slice A l c) (s.getF k off n).1.1 ∧ (s.getF k off n).2 = s ∧ Below w.heap.size w w' := by
  obtain ⟨A, c, hl, hle, ha⟩ := h.lookObj k (by omega)
  have b0 : w.cell? ⟨sb, 0, none⟩ = some (.map (some ob)) := box_cell h.box 0
  unfold errV at hs6 hs4
  obtain ⟨r, hr⟩ : ∃ r, s.getF k off n = r := ⟨_, rfl⟩
  rw [hr]
  unfold St.S.getF at hr
  clear h
  cases ho : s.objs k with
  | none =>
    rw [ho] at hl hr
    subst hr
    simp only [Option.getD_none, Option.isSome_none] at hl
    clear hle ha
    go_enter Tryd.func58, Tryd.ntmps58
    go_wp2_with fail
    go_quiet (fail)
    go_wp2_with fail
    go_quiet (fail)
    go_wp2_with fail
    go_returns
    exact ⟨_, _, _, by first | rfl | trivial, Own.nil _ _, by trivial, below_drewN (below_drewN (Below.refl _ _) _) _⟩
  | some b =>
    rw [ho] at hl hle ha hr
    simp only at hr
    simp only [Option.getD_some, Option.isSome_some] at hl hle ha
    clear ho
    have HA := hide ha
    generalize hbl : b.length = L at *
    have HBL := hide hbl
    clear ha hbl
    by_cases h0 : off < 0
    · rw [if_pos (.inl h0)] at hr
      subst hr
      go_enter Tryd.func58, Tryd.ntmps58
      go_wp2_with fail
      go_quiet (fail)
      go_wp2_with fail
      go_quiet (fail)
      go_wp2_with fail
      go_returns
      exact ⟨_, _, _, by first | rfl | trivial, Own.nil _ _, by trivial, below_drewN (below_drewN (Below.refl _ _) _) _⟩
    · obtain ⟨x, rfl⟩ : ∃ x : Nat, off = (x : Int) := ⟨off.toNat, by omega⟩
      have hw1 : IntKind.i64.wrap ((L : Int) - (x : Int)) = (L : Int) - (x : Int) := IntWalk.i64_in _ (by omega)
      by_cases h1 : n < 0
      · rw [if_pos (.inr (.inl h1))] at hr
        subst hr
        go_enter Tryd.func58, Tryd.ntmps58
        go_wp2_with fail
        go_quiet (fail)
        go_wp2_with fail
        go_quiet (fail)
        go_wp2_with fail
        go_returns
        exact ⟨_, _, _, by first | rfl | trivial, Own.nil _ _, by trivial, below_drewN (below_drewN (Below.refl _ _) _) _⟩
      · obtain ⟨m', rfl⟩ : ∃ x : Nat, n = (x : Int) := ⟨n.toNat, by omega⟩
        by_cases h2 : (L : Int) - (x : Int) < (m' : Int)
        · rw [if_pos (.inr (.inr h2))] at hr
          subst hr
          go_enter Tryd.func58, Tryd.ntmps58
          go_wp2_with fail
          go_quiet (fail)
          go_wp2_with fail
          go_quiet (fail)
          go_wp2_with fail
          go_returns
          exact ⟨_, _, _, by first | rfl | trivial, Own.nil _ _, by trivial, below_drewN (below_drewN (Below.refl _ _) _) _⟩
        · have d3 : decide ((L : Int) - (x : Int) < (m' : Int)) = false := by simp; omega
          rw [if_neg (by omega)] at hr
          simp only [Int.toNat_natCast] at hr
          subst hr
          have hx : x + m' ≤ L := by omega
          obtain ⟨y, hy⟩ : ∃ y, y = x + m' := ⟨_, rfl⟩
          have hw2 : IntKind.i64.wrap ((x : Int) + (m' : Int)) = (y : Int) := by rw [IntWalk.i64_in _ (by omega)]; omega
          have HY := hide hy
          have hlec := HA.out.le
          have hct := fun W => run_cut_lh W A L c x y (by omega) (by have := HBL.out; omega)
          rw [show y - x = m' by omega] at hct
          have HCA : Hid (∀ W, Below w.heap.size w W → Calls Tryd.prog 41 #[.slice (cutA A c x) m' (c - x)] W fun e w' => ∃ v, e = .returned v ∧ Own w' W.heap.size v ((b.drop x).take m') ∧ Below W.heap.size W w') := hide (fun W hW =>
            bclone_any _ _ _ _ W (by rw [List.length_take, List.length_drop]; have := HBL.out; omega) (by omega) (((HA.out.below hW (Nat.le_refl _)).cut x (by have := HBL.out; omega)).first m'))
          have HLN : Hid (((b.drop x).take m').length = m') := hide (by rw [List.length_take, List.length_drop]; have := HBL.out; omega)
          clear h0 h1 h2 hy
          go_enter Tryd.func58, Tryd.ntmps58
          go_wp2_with fail
          go_quiet (fail)
          have HCW := hide (HCA.out _ (below_drewN (Below.refl _ _) nq))
          go_wp2_with (first
            | (go_at_call 41; refine HCW.out.mono ?_; rintro e w2 ⟨v, rfl, ho, hb⟩; obtain ⟨A2, c2, rfl, -⟩ := own_n (n := m') ho HLN.out; have HO := hide ho; have HB := hide hb; clear ho hb)
            | fail)
          go_returns
          exact ⟨_, _, _, by first | rfl | trivial, HO.out, by trivial, (below_drewN (Below.refl _ _) _).trans HB.out⟩

def St.S.get (s : St.S) (k : St.Nm) (off n : Int) : (List UInt8 × Option Nat) × St.S := s.ask [] (St.S.getF k off n)
theorem St.get_quiet (k : St.Nm) (off n : Int) : St.Quiet (St.S.getF k off n) := fun t => by unfold St.S.getF; split; exact ⟨rfl, rfl⟩; split <;> exact ⟨rfl, rfl⟩
set_option maxRecDepth 100000 in
set_option maxHeartbeats 1000000 in
theorem StS.get {w0 w : World} {S D : Nat → Prop} {sb n : Nat} {s : St.S} (h : StS w0 S D sb s n w) (p : Nat → Addr) (hs : Sents w0 p) (hn : n ≤ 1000000) (k : List UInt8) (hk : k.length ≤ 100000) (off l : Int) (hoff : -9223372036854775808 ≤ off ∧ off ≤ 9223372036854775807) (hl : -9223372036854775808 ≤ l ∧ l ≤ 9223372036854775807) :
    Calls Tryd.prog 32 #[.pointer (some ⟨sb, 0, none⟩), encStr k, .int .i64 off, .int .i64 l] w fun e w' => ∃ v, e = .returned (.tuple #[v, errR p (s.get k off l).1.2]) ∧ Own w' w.heap.size v (s.get k off l).1.1 ∧ StS w0 S D sb (s.get k off l).2 (n + 1) w' ∧ Chg S w w' := by
  obtain ⟨W, hW⟩ : ∃ W, W = ((((w.alloc (.cells #[.pointer (some ⟨sb, 0, none⟩)] 26)).alloc (.cells #[encStr k] 9)).alloc (.cells #[.int .i64 off] 3)).alloc (.cells #[.int .i64 l] 3)) := ⟨_, rfl⟩
  have hb : Below w.heap.size w W := hW ▸ balloc (balloc (balloc (balloc (Below.refl _ _) _) _) _) _
  have q0 : W.cell? ⟨w.heap.size, 0, none⟩ = some (.pointer (some ⟨sb, 0, none⟩)) := by
    rw [hW, World.cell?_alloc_lt _ _ _ (by simp <;> omega), World.cell?_alloc_lt _ _ _ (by simp <;> omega), World.cell?_alloc_lt _ _ _ (by simp <;> omega), World.cell?_alloc_mark]; rfl
  have q1 : W.cell? ⟨w.heap.size + 1, 0, none⟩ = some (encStr k) := by
    have e : (w.alloc (.cells #[.pointer (some ⟨sb, 0, none⟩)] 26)).heap.size = w.heap.size + 1 := by simp
    rw [hW, World.cell?_alloc_lt _ _ _ (by simp <;> omega), World.cell?_alloc_lt _ _ _ (by simp <;> omega), ← e, World.cell?_alloc_mark]; rfl
  have q2 : W.cell? ⟨w.heap.size + 2, 0, none⟩ = some (.int .i64 off) := by
    have e : ((w.alloc (.cells #[.pointer (some ⟨sb, 0, none⟩)] 26)).alloc (.cells #[encStr k] 9)).heap.size = w.heap.size + 2 := by simp
    rw [hW, World.cell?_alloc_lt _ _ _ (by simp <;> omega), ← e, World.cell?_alloc_mark]; rfl
  have q3 : W.cell? ⟨w.heap.size + 3, 0, none⟩ = some (.int .i64 l) := by
    have e : (((w.alloc (.cells #[.pointer (some ⟨sb, 0, none⟩)] 26)).alloc (.cells #[encStr k] 9)).alloc (.cells #[.int .i64 off] 3)).heap.size = w.heap.size + 3 := by simp
    rw [hW, ← e, World.cell?_alloc_mark]; rfl
  have hbW := h.below.trans (hb.mono h.below.size)
  have hsb : sb < w.heap.size := by obtain ⟨_, _, _, _, _, _, hl⟩ := h.st; exact hl.lt _ (.inl hl.msb)
  have hSg : ∀ j, j < 19 → ¬ S (gs.getD j 0) := fun j hj hS => by have := h.lo _ (.inl hS); have := hs.size j hj; omega
  have hsbg : ∀ j, j < 19 → gs.getD j 0 ≠ sb := fun j hj e => by obtain ⟨_, _, _, _, _, _, hl⟩ := h.st; exact hSg j hj (e ▸ hl.msb)
  have hmsb : S sb := by obtain ⟨_, _, _, _, _, _, hl⟩ := h.st; exact hl.msb
  have HB := hide (ansCallB (h.st.below hb) ⟨h.calls.1, by have := h.calls.2; omega⟩ ⟨h.failed.1, by have := h.failed.2; omega⟩ p (errCell hs hbW 10 (by omega)) (hSg 10 (by omega)) 58 #[.pointer (some ⟨w.heap.size, 0, none⟩), .pointer (some ⟨w.heap.size + 1, 0, none⟩), .pointer (some ⟨w.heap.size + 2, 0, none⟩), .pointer (some ⟨w.heap.size + 3, 0, none⟩)] (enters_of Tryd.func58 (by kernel_rfl) rfl) ([] : List UInt8) (St.S.getF k off l) (fun a v W => Own W w.heap.size v a) (fun a v W W' h1 h2 => Own.below h1 h2 (Nat.le_refl _)) (fun W => Own.nil _ _) (fun t W' => IsStore W' sb t n S D ∧ Chg S W W') (fun w1 hc hi => ⟨hi, hc.mono fun k e => e ▸ hmsb⟩) (fun t W W' hh hb => ⟨hh.1.below hb, hh.2.then (Chg.of_below hb)⟩) (fun t W hh => hh.2)
    fun w1 hc1 h1 => by
      obtain ⟨ob, ub, sv, ov, pb, pv, h1⟩ := h1
      refine (stGet1_any h1 p (hc1.cell (errCell hs hbW 6 (by omega)) (hsbg 6 (by omega))) (hc1.cell (errCell hs hbW 4 (by omega)) (hsbg 4 (by omega))) _ _ _ _ k (by omega) off l hoff hl (hc1.cell q0 (by show ¬ (w.heap.size = sb); omega)) (hc1.cell q1 (by show ¬ (w.heap.size + 1 = sb); omega)) (hc1.cell q2 (by show ¬ (w.heap.size + 2 = sb); omega)) (hc1.cell q3 (by show ¬ (w.heap.size + 3 = sb); omega))).mono ?_
      rintro e w2 ⟨A, x, c, he, ho, hst, hb2⟩
      have hz1 := hc1.size
      refine ⟨A, x, c, he, ho.mono (Nat.le_trans hb.size hz1), ?_⟩
      rw [hst]
      exact ⟨IsStore.below ⟨_, _, _, _, _, _, h1⟩ hb2, (hc1.mono fun k e => e ▸ hmsb).then (Chg.of_below hb2)⟩)
  have HP : Hid (∀ w', IsStore w' sb (s.ask ([] : List UInt8) (St.S.getF k off l)).2 n S D ∧ Chg S W w' → StS w0 S D sb (s.ask ([] : List UInt8) (St.S.getF k off l)).2 (n + 1) w' ∧ Chg S w w') := hide (fun w' hp => by
    have hq := St.ask_num (St.get_quiet k off l) s ([] : List UInt8)
    have := h.calls; have := h.failed
    have hch := (Chg.of_below hb).then hp.2
    exact ⟨h.read hp.1 hch ⟨by omega, by omega⟩ ⟨by omega, by omega⟩, hch⟩)
  have HW := hide hW
  clear h hs hW hb q0 q1 q2 q3 hbW hSg hsbg hsb hmsb
  go_enter Tryd.func32, Tryd.ntmps32
  go_wp2_with (first
    | (go_at_call 57; rw [← HW.out]; refine HB.out.mono ?_; rintro e w1 ⟨A, x, c, rfl, ho, hp⟩; have H := hide (HP.out _ hp); have HO := hide ho; clear hp ho)
    | fail)
  go_returns
  exact ⟨_, rfl, HO.out, H.out⟩
end Go.Proofs.YtipmmmmobopbmaaDoor

namespace Go.Proofs.YtipmmmmobopbmaaDoor
open Go.RowKit Go.Maps

section
variable {w : World} {sb ob ub : Nat} {sv : Value} {ov : St.Nm → Option Value} {pb : Int → Nat} {pv : Int → Int → Option Value} {s : St.S} {m : Nat} {S D : Nat → Prop}
/-- An object goes. -/
theorem StoreL.dropObj {w2 : World} (h : StoreL w sb ob ub sv ov pb pv s m S D) {k : List UInt8} (hm : MapS w2 ob m (updV ov k none)) (hg : w.grownBy w2 (some ob)) (hz : w2.heap.size = w.heap.size) :
    StoreL w2 sb ob ub sv (updV ov k none) pb pv { s with objs := St.upd s.objs k none } m S D := by
  have hoth : ∀ g, g ≠ ob → g < w.heap.size → w2.heap[g]? = w.heap[g]? := fun g hne hl => hg.block g hl (by intro e; injection e with e; exact hne e)
  have hD := fun (v : Value) (l : List UInt8) (hd : DataAt w D v l) => hd.kept (w' := w2) (by omega) fun g hx hl => hoth g (fun e => h.sd _ h.mob (e ▸ hx)) hl
  have hmp : ∀ {κ : Type} {kt : TypeId} {mk : κ → Lit} {x : Nat} {f : κ → Option Value}, MapV kt mk w x m f → x ≠ ob → MapV kt mk w2 x m f := fun hmap hne => hmap.same (hoth _ hne hmap.lt)
  have hsb : sb ≠ ob := fun e => by
    obtain ⟨es, clock, he⟩ := h.objs.isMap
    rw [← e, h.box] at he; cases he
  refine { box := (hoth _ hsb (h.lt _ (.inl h.msb))).trans h.box, objs := hm, oat := fun x => ?_, ups := hmp h.ups h.ne.symm, parts := fun i u hu => ?_, inj := h.inj, ne := h.ne, scr := h.scr.kept fun g hS hl ⟨cs, hcs⟩ => hoth g (fun e => ?_) hl, msb := h.msb, mob := h.mob, mub := h.mub, sd := h.sd, lt := fun g hx => by rw [hz]; exact h.lt g hx, keys := fun x hx => h.keys x (fun e => hx (by show St.upd s.objs k none x = none; unfold St.upd; split; rfl; exact e)), last := h.last }
  · by_cases e : x = k
    · subst e; simp only [updV, St.upd, if_true]; trivial
    · simp only [updV, St.upd, if_neg e]; exact (h.oat x).imp hD
  · obtain ⟨p1, p2, p3, p4, p5, p6, p7, p8⟩ := h.parts i u hu
    exact ⟨hmp p1 p4, fun n => (p2 n).imp hD, p3, p4, p5, p6, p7, p8⟩
  · subst e
    obtain ⟨es, clock, he⟩ := h.objs.isMap
    rw [hcs] at he; cases he
end

set_option maxRecDepth 100000 in
set_option maxHeartbeats 1000000 in
/-- The closure of Delete. -/
theorem stDel1_any (p : Nat → Addr) {w : World} {sb ob ub : Nat} {sv : Value} {ov : St.Nm → Option Value} {pb : Int → Nat} {pv : Int → Int → Option Value} {s : St.S} {m : Nat} {S D : Nat → Prop} (h : StoreL w sb ob ub sv ov pb pv s m S D)
    (hs6 : w.cell? ⟨1, 0, none⟩ = some (errV (p 6))) (xb ib : Nat) (k : List UInt8) (hk : k.length ≤ 9223372036854775807)
    (c1 : w.cell? ⟨xb, 0, none⟩ = some (.pointer (some ⟨sb, 0, none⟩))) (c2 : w.cell? ⟨ib, 0, none⟩ = some (encStr k)) :
    Calls Tryd.prog 56 #[.pointer (some ⟨xb, 0, none⟩), .pointer (some ⟨ib, 0, none⟩)] w fun e w' => e = .returned (errR p (s.delF k).1.2) ∧ StPost w sb (s.delF k).2 (m + 1) S D w' := by
  obtain ⟨A, c, hlk, -, -⟩ := h.lookObj k hk
  have b1 : w.cell? ⟨sb, 0, none⟩ = some (.map (some ob)) := box_cell h.box 0
  unfold errV at hs6
  have HH := hide h
  obtain ⟨r, hr⟩ : ∃ r, s.delF k = r := ⟨_, rfl⟩
  rw [hr]
  unfold St.S.delF at hr
  have HL := hide hlk
  cases hu : s.objs k with
  | none =>
    rw [hu] at hr hlk
    subst hr
    simp only [Option.getD_none, Option.isSome_none, List.length_nil] at hlk
    have d3 : (encStr k) = .string ⟨k.toArray⟩ := rfl
    rw [d3] at c2 hlk
    clear h hu d3 HL
    go_enter Tryd.func56, Tryd.ntmps56
    go_wp2_with fail
    go_quiet (fail)
    go_wp2_with fail
    go_ret
    exact ⟨rfl, (StPost.of_same (IsStore.below ⟨_, _, _, _, _, _, HH.out⟩ (below_drewN (Below.refl _ _) _)) (Chg.of_below (below_drewN (Below.refl _ _) _))).mono (Nat.le_succ _)⟩
  | some u =>
    rw [hu] at hr hlk
    simp only at hr
    simp only [Option.getD_some, Option.isSome_some] at hlk
    have d3 : (encStr k) = .string ⟨k.toArray⟩ := rfl
    have HK := hide hk
    rw [d3] at c2 hlk
    subst hr
    clear h hu d3 HL hs6
    go_enter Tryd.func56, Tryd.ntmps56
    go_wp2_with fail
    go_quiet (fail)
    rename_i nq
    have x1 : (w.drewN nq).cell? ⟨xb, 0, none⟩ = some (.pointer (some ⟨sb, 0, none⟩)) := c1
    have x2 : (w.drewN nq).cell? ⟨ib, 0, none⟩ = some (.string ⟨k.toArray⟩) := c2
    have x3 : (w.drewN nq).cell? ⟨sb, 0, none⟩ = some (.map (some ob)) := b1
    clear c1 c2 b1 hlk
    generalize hW1 : w.drewN nq = W1 at *
    have hb1 : Below w.heap.size w W1 := hW1 ▸ below_drewN (Below.refl _ _) nq
    have HB1 := hide hb1
    have HH1 := hide (HH.out.kept (w' := W1) hb1.size fun g _ hl => hb1.block g hl)
    clear hW1 hb1
    go_wp2_with fail
    have HHQ := hide (HH1.out.kept (w' := W1.drew) (Nat.le_refl _) fun _ _ _ => rfl)
    obtain ⟨w5, hdel, hm5, hg5, hz5⟩ := HHQ.out.objs.del strK map_objs k (strKey HK.out) (strInj k) 0
    have HF := hide (HHQ.out.dropObj hm5 hg5 hz5)
    have HC5 : Hid (Chg S w w5) := hide (((Chg.of_below HB1.out).then (Chg.of_below (below_drewN (Below.refl _ _) 1))).then (Chg.of_grown hg5 fun g e => by injection e with e; exact e ▸ HH.out.mob))
    clear hm5 hg5 hz5
    go_region
    go_wp2_with fail
    go_ret
    exact ⟨rfl, (StPost.of_same ⟨_, _, _, _, _, _, HF.out⟩ HC5.out).mono (Nat.le_succ _)⟩

def St.S.del (s : St.S) (k : St.Nm) : (Unit × Option Nat) × St.S := s.ask () (St.S.delF k)
theorem St.del_quiet (k : St.Nm) : St.Quiet (St.S.delF k) := fun t => by unfold St.S.delF; split <;> exact ⟨rfl, rfl⟩
set_option maxRecDepth 100000 in
set_option maxHeartbeats 1000000 in
theorem StS.del {w0 w : World} {S D : Nat → Prop} {sb n : Nat} {s : St.S} (h : StS w0 S D sb s n w) (p : Nat → Addr) (hs : Sents w0 p) (hn : n ≤ 1000000) (k : List UInt8) (hk : k.length ≤ 100000) :
    Calls Tryd.prog 30 #[.pointer (some ⟨sb, 0, none⟩), encStr k] w fun e w' => e = .returned (errR p (s.del k).1.2) ∧ ∃ S' D', StS w0 S' D' sb (s.del k).2 (n + 1) w' ∧ StGo S D S' D' w w' := by
  obtain ⟨W, hW⟩ : ∃ W, W = ((w.alloc (.cells #[.pointer (some ⟨sb, 0, none⟩)] 26)).alloc (.cells #[encStr k] 9)) := ⟨_, rfl⟩
  have hb : Below w.heap.size w W := hW ▸ balloc (balloc (Below.refl _ _) _) _
  have q0 : W.cell? ⟨w.heap.size, 0, none⟩ = some (.pointer (some ⟨sb, 0, none⟩)) := by
    rw [hW, World.cell?_alloc_lt _ _ _ (by simp <;> omega), World.cell?_alloc_mark]; rfl
  have q1 : W.cell? ⟨w.heap.size + 1, 0, none⟩ = some (encStr k) := by
    have e : (w.alloc (.cells #[.pointer (some ⟨sb, 0, none⟩)] 26)).heap.size = w.heap.size + 1 := by simp
    rw [hW, ← e, World.cell?_alloc_mark]; rfl
  have hbW := h.below.trans (hb.mono h.below.size)
  have hsb : sb < w.heap.size := by obtain ⟨_, _, _, _, _, _, hl⟩ := h.st; exact hl.lt _ (.inl hl.msb)
  have hSg : ∀ j, j < 19 → ¬ S (gs.getD j 0) := fun j hj hS => by have := h.lo _ (.inl hS); have := hs.size j hj; omega
  have hsbg : ∀ j, j < 19 → gs.getD j 0 ≠ sb := fun j hj e => by obtain ⟨_, _, _, _, _, _, hl⟩ := h.st; exact hSg j hj (e ▸ hl.msb)
  have HB := hide (bareCall (h.st.below hb) ⟨h.calls.1, by have := h.calls.2; omega⟩ ⟨h.failed.1, by have := h.failed.2; omega⟩ p (errCell hs hbW 10 (by omega)) (hSg 10 (by omega)) 56 #[.pointer (some ⟨w.heap.size, 0, none⟩), .pointer (some ⟨w.heap.size + 1, 0, none⟩)] (enters_of Tryd.func56 (by kernel_rfl) rfl) (St.S.delF k)
    fun w1 hc1 h1 => by
      obtain ⟨ob, ub, sv, ov, pb, pv, h1⟩ := h1
      exact stDel1_any p h1 (hc1.cell (errCell hs hbW 6 (by omega)) (hsbg 6 (by omega))) _ _ k (by omega) (hc1.cell q0 (by show ¬ (w.heap.size = sb); omega)) (hc1.cell q1 (by show ¬ (w.heap.size + 1 = sb); omega)))
  have HP : Hid (∀ w', StPost W sb (s.ask () (St.S.delF k)).2 (n + 1) S D w' → ∃ S' D', StS w0 S' D' sb (s.ask () (St.S.delF k)).2 (n + 1) w' ∧ StGo S D S' D' w w') := hide (fun w' hp => by
    have hq := St.ask_num (St.del_quiet k) s ()
    have := h.calls; have := h.failed
    exact h.post (hp.ahead (Chg.of_below hb)) ⟨by omega, by omega⟩ ⟨by omega, by omega⟩)
  have HW := hide hW
  clear h hs hW hb q0 q1 hbW hSg hsbg hsb
  go_enter Tryd.func30, Tryd.ntmps30
  go_wp2_with (first
    | (go_at_call 39; rw [← HW.out]; refine HB.out.mono ?_; rintro e w1 ⟨rfl, hp⟩; have H := hide (HP.out _ hp); clear hp)
    | fail)
  go_ret
  exact ⟨rfl, H.out⟩
end Go.Proofs.YtipmmmmobopbmaaDoor

namespace Go.Proofs.YtipmmmmobopbmaaDoor
open Go.RowKit Go.Shelf
def lay_hasPrefixF_ren : Go.Shelf.Ren := ⟨fun | 99 => 52 | 206 => 72 | n => n, fun | 9 => 9 | 4 => 4 | 3 => 3 | n => n, fun | n => n⟩
theorem lay_hasPrefixF : Go.Proofs.Lays.n99 Tryd.prog lay_hasPrefixF_ren := {
  mixed := by kernel_rfl
  f99 := Tryd.func52.trans (congrArg some (by kernel_rfl))
  f206 := Tryd.func72.trans (congrArg some (by kernel_rfl))
  t3 := Tryd.underlying3
  a3 := Tryd.isAgg3
  z3 := Tryd.sizeOf3
  v3 := Tryd.zeroValue3
  t4 := Tryd.underlying4
  a4 := Tryd.isAgg4
  z4 := Tryd.sizeOf4
  v4 := Tryd.zeroValue4
  t9 := Tryd.underlying9
  a9 := Tryd.isAgg9
  z9 := Tryd.sizeOf9
  v9 := Tryd.zeroValue9 }
theorem hasPrefix_st (s p : List UInt8) (w : World) : Calls Tryd.prog 52 #[encStr s, encStr p] w fun e w' => e = .returned (.bool (Lib.hasPrefix s p)) ∧ w' = w :=
  Any.strings_HasPrefix lay_hasPrefixF ⟨s.toArray⟩ ⟨p.toArray⟩ w
end Go.Proofs.YtipmmmmobopbmaaDoor

namespace Go.Proofs.YtipmmmmobopbmaaDoor
open Go.RowKit Go.Maps

set_option maxRecDepth 100000 in
/-- Names, of the store at its block. -/
theorem names1_any {w : World} {sb ob ub : Nat} {sv : Value} {ov : St.Nm → Option Value} {pb : Int → Nat} {pv : Int → Int → Option Value} {s : St.S} {n : Nat} {S D : Nat → Prop} (h : StoreL w sb ob ub sv ov pb pv s n S D) (hn : n ≤ 1000000) :
    Calls Tryd.prog 29 #[.pointer (some ⟨sb, 0, none⟩)] w fun e w' => ∃ v l, e = .returned v ∧ St.ListsS s.objs l ∧ OwnT w' w.heap.size v l ∧ Below w.heap.size w w' := by
  obtain ⟨D0, hown, hat0⟩ := h.objs.ex
  have hsz := hown.size_le
  have c : w.cell? ⟨sb, 0, none⟩ = some (.map (some ob)) := box_cell h.box 0
  have hS := callsIn_wide.1 (lay_slices_Sorted_keysO ob n D0 heldE w hown (by simp only [maxLen]; omega) (by omega))
  have hK := fun (mb : Option Nat) (W : World) => callsIn_wide.1 (lay_maps_KeysO mb W)
  have hov : ∀ x, ov x ≠ none ↔ s.objs x ≠ none := fun x => by
    have := h.oat x
    cases h1 : ov x <;> cases h2 : s.objs x <;> simp_all [Both]
  have HL := hide (fun (ss : List (List UInt8)) (hp : ss.Perm (strKeys D0)) => (show St.ListsS s.objs (ss.mergeSort fun x y => decide (x ≤ y)) from ⟨(keysS_lists hown hat0 hp).1, fun x => ((keysS_lists hown hat0 hp).2 x).trans (hov x)⟩))
  have HS := hide hS
  have HK := hide hK
  clear h hS hK hown hat0 hsz hov
  go_enter Tryd.func29, Tryd.ntmps29
  go_wp2_with (first
    | (go_at_call 55; refine (HK.out _ _).mono ?_; rintro e w1 ⟨rfl, rfl⟩)
    | (go_at_call 54; refine HS.out.mono ?_; rintro e w2 ⟨v, ss, rfl, hp, hrow, -, hb2⟩; have HRO := hide hrow; have HB := hide hb2; have HP := hide hp; clear hrow hb2 hp)
    | fail)
  go_ret
  have hlen : (ss.mergeSort fun x y => decide (x ≤ y)).length = ss.length := by simp
  refine ⟨_, _, rfl, HL.out ss HP.out, ?_, (balloc (Below.refl _ _) _).trans (HB.out.mono (by simp))⟩
  refine OwnT.mono (base := (w.alloc (.cells #[.map (some ob)] 67)).heap.size) ?_ (by simp)
  unfold OwnT
  rw [hlen]
  exact HRO.out

/-- What is under a prefix. -/
def St.S.under (s : St.S) (k x : St.Nm) : Option (List UInt8) := if Lib.hasPrefix x k = true then s.objs x else none
theorem St.under_lists {s : St.S} {k : St.Nm} {l : List St.Nm} (h : St.ListsS s.objs l) : St.ListsS (s.under k) (l.filter fun x => Lib.hasPrefix x k) :=
  ⟨h.1.filter _, fun x => by
    rw [List.mem_filter, h.2 x]
    unfold St.S.under
    cases hp : Lib.hasPrefix x k <;> simp⟩
theorem filter_step {l : List St.Nm} {k : St.Nm} {j : Nat} (hj : j < l.length) : (l.take (j + 1)).filter (fun x => Lib.hasPrefix x k) = (l.take j).filter (fun x => Lib.hasPrefix x k) ++ (if Lib.hasPrefix (l.getD j []) k = true then [l.getD j []] else []) := by
  rw [List.take_succ_eq_append_getElem hj, List.filter_append]
  have e : l.getD j [] = l[j] := by simp [List.getD, hj]
  rw [e]
  cases hp : Lib.hasPrefix l[j] k <;> simp [hp]

set_option maxRecDepth 100000 in
set_option maxHeartbeats 1000000 in
/-- The closure of List. -/
theorem stList1_any {w : World} {sb ob ub : Nat} {sv : Value} {ov : St.Nm → Option Value} {pb : Int → Nat} {pv : Int → Int → Option Value} {s : St.S} {n : Nat} {S D : Nat → Prop} (h : StoreL w sb ob ub sv ov pb pv s n S D) (hn : n ≤ 1000000)
    (xb ib : Nat) (k : List UInt8) (c1 : w.cell? ⟨xb, 0, none⟩ = some (.pointer (some ⟨sb, 0, none⟩))) (c2 : w.cell? ⟨ib, 0, none⟩ = some (encStr k)) (hlen : ∀ l, St.ListsS s.objs l → l.length ≤ 1000000) :
    Calls Tryd.prog 51 #[.pointer (some ⟨xb, 0, none⟩), .pointer (some ⟨ib, 0, none⟩)] w fun e w' => ∃ A n c l, e = .returned (.tuple #[.slice A n c, .nilIface]) ∧ St.ListsS (s.under k) l ∧ OwnT w' w.heap.size (.slice A n c) l ∧ Below w.heap.size w w' := by
  have HNM := hide (names1_any h hn)
  have HLEN := hide hlen
  have HC2 : Hid (∀ W, Below w.heap.size w W → W.cell? ⟨ib, 0, none⟩ = some (encStr k)) := hide (fun W hb => (hb.cell (p := ⟨ib, 0, none⟩) (World.block_lt_of_cell? _ _ c2)).trans c2)
  have HHP := hide (fun x W => hasPrefix_st x k W)
  clear h c2 hlen
  go_enter Tryd.func51, Tryd.ntmps51
  go_wp2_with (first
    | (go_at_call 29; refine HNM.out.mono ?_; rintro e w1 ⟨v, l, rfl, hl, ho, hb⟩; obtain ⟨A1, x1, rfl, hrd, -, hcap, hmx⟩ := ho.reads; have HL := hide hl; have HO := hide ho; have HRD := hide hrd; have HB1 := hide hb; have hle := HLEN.out l hl; clear hl ho hrd hb)
    | fail)
  generalize hL : l.length = L at *
  have HLL := hide hL
  clear hL
  go_loopw [4, 10] (fun v i wr => ∃ j : Nat, j ≤ L ∧ i = .int .i64 j ∧ OwnT wr w1.heap.size v ((l.take j).filter fun x => Lib.hasPrefix x k) ∧ Below w1.heap.size w1 wr) (fun _ i _ => L - (intOf i).toNat)
  case atStart => exact ⟨0, Nat.zero_le _, rfl, by simp; exact OwnT.nil _ _, Below.refl _ _⟩
  case round =>
    obtain ⟨j, hj, rfl, ho, hbx⟩ := hrel
    have HOX := hide ho
    have HBX := hide hbx
    clear ho hbx
    by_cases hlt : j < L
    · have hjl : j < l.length := by rw [HLL.out]; exact hlt
      rcases HRD.out with h0 | ⟨b, off, rfl, hb0, hc0⟩
      · rw [h0] at hjl; simp at hjl
      have hcj : wr.cell? ⟨b, off + j, none⟩ = some (encStr (l.getD j [])) := (HBX.out.cell (p := ⟨b, off + j, none⟩) hb0).trans (hc0 j hjl)
      have hck := HC2.out wr (HB1.out.trans (HBX.out.mono HB1.out.size))
      have HST := hide (filter_step (k := k) hjl)
      have HFL : Hid (((l.take j).filter fun x => Lib.hasPrefix x k).length ≤ 1000000) := hide (Nat.le_trans (List.length_filter_le _ _) (by rw [List.length_take]; omega))
      clear hc0 hjl
      generalize l.getD j [] = x at *
      generalize (l.take j).filter (fun x => Lib.hasPrefix x k) = l0 at *
      cases hp : Lib.hasPrefix x k
      · have HE : Hid ((l.take (j + 1)).filter (fun x => Lib.hasPrefix x k) = l0) := hide (by rw [HST.out, hp]; simp)
        have HPX : Hid (∀ W, Calls Tryd.prog 52 #[encStr x, encStr k] W fun e w' => e = .returned (.bool false) ∧ w' = W) := hide (fun W => hp ▸ HHP.out x W)
        clear hp
        unfold encStr at hcj hck
        go_wp2_with (first
          | (go_at_call 52; refine (HPX.out _).mono ?_; rintro e w2 ⟨rfl, rfl⟩)
          | fail)
        go_roundw
        case rel => exact ⟨j + 1, by omega, by go_num, by rw [HE.out]; exact HOX.out, HBX.out⟩
        case measure => simp [intOf]; omega
      · have HE : Hid ((l.take (j + 1)).filter (fun x => Lib.hasPrefix x k) = l0 ++ [x]) := hide (by rw [HST.out, hp]; simp)
        have HPX : Hid (∀ W, Calls Tryd.prog 52 #[encStr x, encStr k] W fun e w' => e = .returned (.bool true) ∧ w' = W) := hide (fun W => hp ▸ HHP.out x W)
        clear hp
        unfold encStr at hcj hck
        go_wp2_with (first
          | (go_at_call 52; refine (HPX.out _).mono ?_; rintro e w2 ⟨rfl, rfl⟩)
          | (at_builtin; refine wpList_appT rfl (.tmp 17) (.tmp 19) rfl w1.heap.size _ l0 [x] rfl (HOX.out.alloc _) (some ⟨w2.heap.size, 0, none⟩) 1 1 rfl rfl (.inr ⟨w2.heap.size, 0, rfl, by simp, fun i hi => by
              obtain rfl : i = 0 := by simp at hi; omega
              rw [World.cell?_alloc_mark]; rfl⟩) (by have := HFL.out; omega) (by have := HBX.out.size; simp; omega) ?_; intro v5 w5 hown5 hg5 hv5; have HOW := hide hown5; have HBN := hide ((balloc HBX.out _).grown hg5 (by have := HBX.out.size; simp; omega) (fun g hg => (HOX.out.lt g hg).1)); clear hown5 hg5 hv5)
          | fail)
        go_roundw
        case rel => exact ⟨j + 1, by omega, by go_num, by rw [HE.out]; exact HOW.out, HBN.out⟩
        case measure => simp [intOf]; omega
    · obtain rfl : j = L := by omega
      have HE : Hid ((l.take j).filter (fun x => Lib.hasPrefix x k) = l.filter fun x => Lib.hasPrefix x k) := hide (by rw [← HLL.out, List.take_length])
      rw [HE.out] at HOX
      obtain ⟨A2, x2, rfl, -⟩ := HOX.out.reads
      go_wp2_with fail
      go_returns
      exact ⟨A2, _, x2, _, rfl, St.under_lists HL.out, HOX.out.mono HB1.out.size, HB1.out.trans (HBX.out.mono HB1.out.size)⟩

/-- What List tells: the store's names under a prefix, rising. -/
def LsV (B : Nat) (k : St.Nm) (r : Option St.S) (v : Value) (w : World) : Prop := match r with
  | none => v = .slice none 0 0
  | some t => ∃ l, St.ListsS (t.under k) l ∧ OwnT w B v l
theorem LsV.below {B : Nat} {k : St.Nm} (r : Option St.S) (v : Value) (w w' : World) (h : LsV B k r v w) (hb : Below w.heap.size w w') : LsV B k r v w' := by
  cases r with
  | none => exact h
  | some t => obtain ⟨l, h1, h2⟩ := h; exact ⟨l, h1, h2.below hb (Nat.le_refl _)⟩
def St.S.listF (t : St.S) : (Option St.S × Option Nat) × St.S := ((some t, none), t)
def St.S.list (s : St.S) : (Option St.S × Option Nat) × St.S := s.ask none St.S.listF
theorem St.list_quiet : St.Quiet St.S.listF := fun _ => ⟨rfl, rfl⟩
set_option maxRecDepth 100000 in
set_option maxHeartbeats 1000000 in
theorem StS.list {w0 w : World} {S D : Nat → Prop} {sb n : Nat} {s : St.S} (h : StS w0 S D sb s n w) (p : Nat → Addr) (hs : Sents w0 p) (hn : n ≤ 1000000) (k : List UInt8) (hlen : ∀ l, St.ListsS s.objs l → l.length ≤ 1000000) :
    Calls Tryd.prog 26 #[.pointer (some ⟨sb, 0, none⟩), encStr k] w fun e w' => ∃ v, e = .returned (.tuple #[v, errR p s.list.1.2]) ∧ LsV w.heap.size k s.list.1.1 v w' ∧ StS w0 S D sb s.list.2 (n + 1) w' ∧ Chg S w w' := by
  obtain ⟨W, hW⟩ : ∃ W, W = ((w.alloc (.cells #[.pointer (some ⟨sb, 0, none⟩)] 26)).alloc (.cells #[encStr k] 9)) := ⟨_, rfl⟩
  have hb : Below w.heap.size w W := hW ▸ balloc (balloc (Below.refl _ _) _) _
  have q0 : W.cell? ⟨w.heap.size, 0, none⟩ = some (.pointer (some ⟨sb, 0, none⟩)) := by
    rw [hW, World.cell?_alloc_lt _ _ _ (by simp <;> omega), World.cell?_alloc_mark]; rfl
  have q1 : W.cell? ⟨w.heap.size + 1, 0, none⟩ = some (encStr k) := by
    have e : (w.alloc (.cells #[.pointer (some ⟨sb, 0, none⟩)] 26)).heap.size = w.heap.size + 1 := by simp
    rw [hW, ← e, World.cell?_alloc_mark]; rfl
  have hbW := h.below.trans (hb.mono h.below.size)
  have hsb : sb < w.heap.size := by obtain ⟨_, _, _, _, _, _, hl⟩ := h.st; exact hl.lt _ (.inl hl.msb)
  have hSg : ∀ j, j < 19 → ¬ S (gs.getD j 0) := fun j hj hS => by have := h.lo _ (.inl hS); have := hs.size j hj; omega
  have hsbg : ∀ j, j < 19 → gs.getD j 0 ≠ sb := fun j hj e => by obtain ⟨_, _, _, _, _, _, hl⟩ := h.st; exact hSg j hj (e ▸ hl.msb)
  have hmsb : S sb := by obtain ⟨_, _, _, _, _, _, hl⟩ := h.st; exact hl.msb
  have HB := hide (ansCallT (h.st.below hb) ⟨h.calls.1, by have := h.calls.2; omega⟩ ⟨h.failed.1, by have := h.failed.2; omega⟩ p (errCell hs hbW 10 (by omega)) (hSg 10 (by omega)) 51 #[.pointer (some ⟨w.heap.size, 0, none⟩), .pointer (some ⟨w.heap.size + 1, 0, none⟩)] (enters_of Tryd.func51 (by kernel_rfl) rfl) (none : Option St.S) (St.S.listF) (LsV w.heap.size k) LsV.below (fun W => rfl) (fun t W' => IsStore W' sb t n S D ∧ Chg S W W') (fun w1 hc hi => ⟨hi, hc.mono fun k e => e ▸ hmsb⟩) (fun t W W' hh hb => ⟨hh.1.below hb, hh.2.then (Chg.of_below hb)⟩) (fun t W hh => hh.2)
    fun w1 hc1 h1 => by
      obtain ⟨ob, ub, sv, ov, pb, pv, h1⟩ := h1
      refine (stList1_any h1 (by omega) _ _ k (hc1.cell q0 (by show ¬ (w.heap.size = sb); omega)) (hc1.cell q1 (by show ¬ (w.heap.size + 1 = sb); omega)) hlen).mono ?_
      rintro e w2 ⟨A, x, c, l, he, hl, ho, hb2⟩
      have hz1 := hc1.size
      refine ⟨A, x, c, he, ⟨l, hl, ho.mono (Nat.le_trans hb.size hz1)⟩, ?_⟩
      exact ⟨IsStore.below ⟨_, _, _, _, _, _, h1⟩ hb2, (hc1.mono fun k e => e ▸ hmsb).then (Chg.of_below hb2)⟩)
  have HP : Hid (∀ w', IsStore w' sb (s.ask (none : Option St.S) (St.S.listF)).2 n S D ∧ Chg S W w' → StS w0 S D sb (s.ask (none : Option St.S) (St.S.listF)).2 (n + 1) w' ∧ Chg S w w') := hide (fun w' hp => by
    have hq := St.ask_num (St.list_quiet) s (none : Option St.S)
    have := h.calls; have := h.failed
    have hch := (Chg.of_below hb).then hp.2
    exact ⟨h.read hp.1 hch ⟨by omega, by omega⟩ ⟨by omega, by omega⟩, hch⟩)
  have HW := hide hW
  clear h hs hW hb q0 q1 hbW hSg hsbg hsb hmsb
  go_enter Tryd.func26, Tryd.ntmps26
  go_wp2_with (first
    | (go_at_call 50; rw [← HW.out]; refine HB.out.mono ?_; rintro e w1 ⟨A, x, c, rfl, ho, hp⟩; have H := hide (HP.out _ hp); have HO := hide ho; clear hp ho)
    | fail)
  go_returns
  exact ⟨_, rfl, HO.out, H.out⟩
end Go.Proofs.YtipmmmmobopbmaaDoor

namespace Go.Proofs.YtipmmmmobopbmaaDoor.Nm

theorem lt_apart (a b : Tx) (k : Nat) (ha : k < a.length) (hb : k < b.length) (h : a.take k = b.take k) (hne : a.getD k 0 ≠ b.getD k 0) : a < b ↔ a.getD k 0 < b.getD k 0 := by
  induction k generalizing a b with
  | zero =>
    match a, b, ha, hb with
    | x :: a, y :: b, _, _ =>
      simp only [List.getD_cons_zero] at hne ⊢
      rw [List.cons_lt_cons_iff]
      constructor
      · rintro (e | ⟨e, _⟩)
        · exact e
        · exact absurd e hne
      · exact fun e => .inl e
  | succ k ih =>
    match a, b, ha, hb with
    | x :: a, y :: b, ha, hb =>
      simp only [List.take_succ_cons, List.cons.injEq] at h
      obtain ⟨rfl, h⟩ := h
      simp only [List.getD_cons_succ] at hne ⊢
      rw [← ih a b (by simpa using ha) (by simpa using hb) h hne, List.cons_lt_cons_iff]
      constructor
      · rintro (e | ⟨_, e⟩)
        · exact absurd e (by simp)
        · exact e
      · exact fun e => .inr ⟨rfl, e⟩
theorem lt_ended (a b : Tx) (k : Nat) (ha : k ≤ a.length) (hb : k ≤ b.length) (hk : k = a.length ∨ k = b.length) (h : a.take k = b.take k) : a < b ↔ a.length < b.length := by
  induction k generalizing a b with
  | zero =>
    match a, b, hk with
    | [], [], _ => simp
    | [], y :: b, _ => simp
    | x :: a, [], _ => simp
    | x :: a, y :: b, hk => simp at hk
  | succ k ih =>
    match a, b, ha, hb with
    | x :: a, y :: b, ha, hb =>
      simp only [List.take_succ_cons, List.cons.injEq] at h
      obtain ⟨rfl, h⟩ := h
      rw [List.cons_lt_cons_iff, List.length_cons, List.length_cons, Nat.add_lt_add_iff_right, ← ih a b (by simpa using ha) (by simpa using hb) (by simpa using hk) h]
      constructor
      · rintro (e | ⟨_, e⟩)
        · exact absurd e (by simp)
        · exact e
      · exact fun e => .inr ⟨rfl, e⟩
/-- Where a text is put in place. -/
theorem ins_at (x : Tx) : ∀ (k : Nat) (l : List Tx), k ≤ l.length → (∀ j, j < k → l.getD j [] < x) → (k < l.length → ¬ l.getD k [] < x ∧ l.getD k [] ≠ x) → ins x l = l.take k ++ [x] ++ l.drop k
  | 0, [], _, _, _ => rfl
  | 0, y :: l, _, _, h => by
    obtain ⟨h1, h2⟩ := h (by simp)
    simp only [List.getD_cons_zero] at h1 h2
    unfold ins
    rw [if_neg h1, if_neg h2]
    rfl
  | k + 1, [], hk, _, _ => by simp at hk
  | k + 1, y :: l, hk, hl, h => by
    have h0 := hl 0 (by omega)
    simp only [List.getD_cons_zero] at h0
    unfold ins
    rw [if_pos h0, ins_at x k l (by simpa using hk) (fun j hj => by simpa using hl (j + 1) (by omega)) (fun hk => by simpa using h (by simpa using hk))]
    rfl
theorem ins_there (x : Tx) : ∀ (k : Nat) (l : List Tx), k < l.length → (∀ j, j < k → l.getD j [] < x) → l.getD k [] = x → ins x l = l
  | _, [], hk, _, _ => by simp at hk
  | 0, y :: l, _, _, h => by
    simp only [List.getD_cons_zero] at h
    subst h
    unfold ins
    rw [if_neg (List.lt_irrefl _), if_pos rfl]
  | k + 1, y :: l, hk, hl, h => by
    have h0 := hl 0 (by omega)
    simp only [List.getD_cons_zero] at h0
    unfold ins
    rw [if_pos h0, ins_there x k l (by simpa using hk) (fun j hj => by simpa using hl (j + 1) (by omega)) (by simpa using h)]
theorem ins_len (x : Tx) : ∀ l, (ins x l).length ≤ l.length + 1
  | [] => by simp [ins]
  | y :: l => by
    unfold ins
    have := ins_len x l
    split
    · simp; omega
    · split <;> simp
theorem rising_snoc (l : List Tx) (x : Tx) : rising (l ++ [x]) = ins x (rising l) := by simp [rising]
theorem rising_len (l : List Tx) : (rising l).length ≤ l.length := by
  have key : ∀ (l o : List Tx), (l.foldl (fun o x => ins x o) o).length ≤ o.length + l.length := by
    intro l
    induction l with
    | nil => intro o; simp
    | cons x l ih =>
      intro o
      have h1 := ih (ins x o)
      have h2 := ins_len x o
      simp only [List.foldl_cons, List.length_cons]
      omega
  have := key l []
  simpa [rising] using this
end Go.Proofs.YtipmmmmobopbmaaDoor.Nm
namespace Go.Proofs.YtipmmmmobopbmaaDoor
open Go.RowKit Go.Sort Go.ChangeShapes Go.WideShapes Go.ChangeAt Go.ChangeMaps
theorem text_cells : Tryd.prog.cellsOf 9 = 1 := by kernel_rfl
theorem enc_data (s : ByteArray) : Value.string s = encStr s.data.toList := by cases s; simp [encStr]
theorem txrow_of {H : Type} {enc : TypeId × Value → H} {W : World} {base : Nat} {held : Bool} {a : Option Addr} {len cap : Nat} {d : DataW H} {p : List MemPlace}
    (h : DataW.Trod enc Tryd.prog W base (fun _ => true) held 49 (.slice a len cap) d p) : ∃ xs : List (List UInt8), xs.length = len ∧ (len ≤ cap ∧ cap ≤ 9223372036854775807 ∧ (a = none → cap = 0) ∧ ReadsT W a xs) := by
  obtain ⟨fuel, hf⟩ := h
  rcases open_strings Tryd.underlying49 Tryd.underlying9 text_cells hf with ⟨hcs, _⟩ | ⟨x, l, c, ss, hcs, _, hl, hm, hlen, _, hcell, _⟩
  · simp [Value.cells] at hcs
    obtain ⟨rfl, rfl, rfl⟩ := hcs
    exact ⟨[], rfl, Nat.le_refl _, by omega, fun _ => rfl, .inl rfl⟩
  · simp [Value.cells] at hcs
    obtain ⟨rfl, rfl, rfl⟩ := hcs
    simp only [if_true] at hlen
    refine ⟨(ss.take len).map fun s => s.data.toList, by simp; omega, hl, by simpa [maxLen] using hm, fun e => (by cases e), ?_⟩
    by_cases h0 : len = 0
    · subst h0; exact .inl (by simp)
    · obtain ⟨b, off, spot⟩ := x
      have hc := hcell 0 (by omega)
      have hspot : spot = none := by simpa [Addr.add] using World.cell?_spot hc
      subst hspot
      refine .inr ⟨b, off, rfl, ?_, fun k hk => ?_⟩
      · rcases Nat.lt_or_ge b W.heap.size with h | h
        · exact h
        · exfalso
          simp [World.cell?, Addr.add, Array.getElem?_eq_none h] at hc
      · have hk' : k < len := by simp at hk; omega
        have hck := hcell k (by omega)
        rw [Addr.add_lit] at hck
        rw [hck, enc_data]
        congr 2
        simp [List.getD, hk', show k < ss.length by omega]
structure TxRow (w : World) (A : Option Addr) (c : Nat) (xs : List (List UInt8)) : Prop where
  le : xs.length ≤ c
  max : c ≤ 9223372036854775807
  nil : A = none → c = 0
  get : ∀ j, j < xs.length → ∃ b off, A = some ⟨b, off, none⟩ ∧ w.cell? ⟨b, off + j, none⟩ = some (encStr (xs.getD j []))
theorem TxRow.below {w w' : World} {A : Option Addr} {c : Nat} {xs : List (List UInt8)} (h : TxRow w A c xs) (hb : Below w.heap.size w w') : TxRow w' A c xs :=
  ⟨h.le, h.max, h.nil, fun j hj => by
    obtain ⟨b, off, e, hc⟩ := h.get j hj
    exact ⟨b, off, e, (hb.cell (p := ⟨b, off + j, none⟩) (World.block_lt_of_cell? w _ hc)).trans hc⟩⟩
theorem take_succ_get (xs : List (List UInt8)) (k : Nat) (h : k < xs.length) : xs.take (k + 1) = xs.take k ++ [xs.getD k []] := by
  rw [List.take_succ_eq_append_getElem h]
  simp [List.getD, h]
set_option maxRecDepth 100000 in
theorem in_any (A : Option Addr) (c n : Nat) (xs : List (List UInt8)) (s : List UInt8) (w : World) (h : TxRow w A c xs) (hn : xs.length = n) (hb : n ≤ 1000000) :
    Calls Tryd.prog 31 #[.slice A n c, encStr s] w fun e w' => e = .returned (.bool (decide (s ∈ xs))) ∧ w' = w := by
  have HG := Lib.hid h
  have HN := Lib.hid hn
  obtain ⟨r, hr⟩ : ∃ r, r = decide (s ∈ xs) := ⟨_, rfl⟩
  have HR := Lib.hid hr
  rw [← hr]
  have hA := h.nil
  have hle := h.le
  have hmx := h.max
  clear h hr
  subst hn
  generalize hL : xs.length = L at *
  have HL := Lib.hid hL
  clear hL HN
  go_enter Tryd.func31, Tryd.ntmps31
  go_wp2
  go_loop [5] (fun i => ∃ k : Nat, k ≤ L ∧ i = .int .i64 k ∧ s ∉ xs.take k) (fun i => L - (intOf i).toNat)
  case atStart => exact ⟨0, Nat.zero_le _, rfl, by simp⟩
  case round =>
    obtain ⟨k, hk, rfl, hs⟩ := hrel
    by_cases hlt : k < L
    · obtain ⟨b, off, rfl, hc⟩ := HG.out.get k (by rw [HL.out]; exact hlt)
      have hts := take_succ_get xs k (by rw [HL.out]; exact hlt)
      have hm : xs.getD k [] ∈ xs := by
        rw [show xs.getD k [] = xs[k]'(by rw [HL.out]; exact hlt) from by simp [List.getD, show k < xs.length by rw [HL.out]; exact hlt]]
        exact List.getElem_mem _
      generalize xs.getD k [] = x at *
      by_cases he : x = s
      · have hb1 : (x == s) = true := beq_iff_eq.2 he
        have HT : Hid (r = true) := Lib.hid (by rw [HR.out, decide_eq_true_eq, ← he]; exact hm)
        subst he
        clear hm hts hs
        go_wp2
        go_ret
        exact ⟨by rw [HT.out]; rfl, rfl⟩
      · have hb1 : (x == s) = false := beq_eq_false_iff_ne.2 he
        have HS : Hid (s ∉ xs.take (k + 1)) := Lib.hid (by
          rw [hts, List.mem_append]
          rintro (e | e)
          · exact hs e
          · exact he (List.mem_singleton.1 e).symm)
        clear hm hts hs he
        go_wp2
        go_round
        case rel => exact ⟨k + 1, by omega, by go_num, HS.out⟩
        case measure => simp [intOf]; omega
    · obtain rfl : k = L := by omega
      have HF : Hid (r = false) := Lib.hid (by
        rw [HR.out, decide_eq_false_iff_not]
        rwa [List.take_of_length_le (by rw [HL.out]; exact Nat.le_refl _)] at hs)
      clear hs
      go_wp2
      go_ret
      exact ⟨by rw [HF.out]; rfl, rfl⟩
theorem take_snocT (xs : List (List UInt8)) (k : Nat) (h : k < xs.length) : xs.take (k + 1) = xs.take k ++ [xs.getD k []] := by
  rw [List.take_succ_eq_append_getElem h]
  simp [List.getD, h]

theorem take_snoc8 (s : List UInt8) (k : Nat) (h : k < s.length) : s.take (k + 1) = s.take k ++ [s.getD k 0] := by
  rw [List.take_succ_eq_append_getElem h]
  simp [List.getD, h]
theorem str_index (l : List UInt8) (i : Nat) (h : i < l.length) (W : World) : (Instr.index 9 (encStr l) (.int .i64 (i : Int))).run Tryd.prog W = .ok (.int .u8 (B (l.getD i 0))) W := by
  have hg : (⟨l.toArray⟩ : ByteArray)[i]? = some l[i] := by
    rw [getElem?_pos (⟨l.toArray⟩ : ByteArray) i (by simpa [ByteArray.size] using h)]
    rfl
  simp [Instr.index, run_underlying Tryd.underlying9, asIntOf, hg, B, List.getD, h]
instance (c : UInt8) : Decidable (Nm.digit c) := inferInstanceAs (Decidable (_ ∧ _))
def numB (s : List UInt8) : Int × Bool := if ∀ c ∈ s, Nm.digit c then ((Nm.val 0 s : Int), true) else (0, false)
set_option maxRecDepth 100000 in
theorem before_any (a b : List UInt8) (w : World) (ha : a.length ≤ 1000000) (hb : b.length ≤ 1000000) :
    Calls Tryd.prog 53 #[encStr a, encStr b] w fun e w' => e = .returned (.bool (decide (a < b))) ∧ ∃ q, w' = w.drewN q := by
  obtain ⟨r, hr⟩ : ∃ r, r = decide (a < b) := ⟨_, rfl⟩
  rw [← hr]
  have HR := Lib.hid hr
  clear hr
  obtain ⟨L, hL⟩ : ∃ L, L = a.length := ⟨_, rfl⟩
  obtain ⟨M, hM⟩ : ∃ M, M = b.length := ⟨_, rfl⟩
  have hsa : (⟨a.toArray⟩ : ByteArray).size = L := by rw [hL]; show a.toArray.size = _; simp
  have hsb : (⟨b.toArray⟩ : ByteArray).size = M := by rw [hM]; show b.toArray.size = _; simp
  have HL := Lib.hid hL
  have HM := Lib.hid hM
  have hl : L ≤ 1000000 := by omega
  have hm : M ≤ 1000000 := by omega
  clear hL hM ha hb
  go_enter Tryd.func53, Tryd.ntmps53
  go_wp2_with fail
  go_loopw [5] (fun i wr => ∃ k : Nat, k ≤ L ∧ k ≤ M ∧ i = .int .i64 k ∧ a.take k = b.take k ∧ ∃ q, wr = w.drewN q) (fun i _ => L - (intOf i).toNat)
  case atStart => exact ⟨0, Nat.zero_le _, Nat.zero_le _, rfl, by simp, 0, rfl⟩
  case round =>
    obtain ⟨k, hk, hk2, rfl, htk, q, rfl⟩ := hrel
    have HTK := Lib.hid htk
    clear htk
    by_cases h1 : k < L
    · by_cases h2 : k < M
      · have h1' : k < a.length := by rw [← HL.out]; exact h1
        have h2' : k < b.length := by rw [← HM.out]; exact h2
        have hca := fun W => str_index a k h1' W
        have hcb := fun W => str_index b k h2' W
        have HA := Lib.hid (take_snoc8 a k h1')
        have HB := Lib.hid (take_snoc8 b k h2')
        have HAP := Lib.hid (Nm.lt_apart a b k h1' h2' HTK.out)
        generalize a.getD k 0 = x at *
        generalize b.getD k 0 = y at *
        clear h1' h2'
        by_cases hxy : x = y
        · subst hxy
          go_wp2_with fail
          go_quiet (fail)
          go_wp2_with fail
          go_roundw
          case rel => exact ⟨k + 1, by omega, by omega, by go_num, by rw [HA.out, HB.out, HTK.out], _, rfl⟩
          case measure => simp [intOf]; omega
        · have hne : (B x == B y) = false := by
            rw [beq_eq_false_iff_ne]; intro e; exact hxy (B_inj e)
          have HD : Hid (decide (B x < B y) = r) := Lib.hid (by
            rw [HR.out]
            have := HAP.out hxy
            by_cases hlt : x < y
            · rw [decide_eq_true (this.2 hlt), decide_eq_true_eq]
              have := UInt8.lt_iff_toNat_lt.1 hlt
              unfold B; omega
            · rw [decide_eq_false (fun h => hlt (this.1 h)), decide_eq_false_iff_not]
              intro h
              apply hlt
              rw [UInt8.lt_iff_toNat_lt]
              unfold B at h; omega)
          clear hxy
          generalize B x = bx at *
          generalize B y = by' at *
          go_wp2_with fail
          go_quiet (fail)
          go_wp2_with fail
          go_quiet (fail)
          go_wp2_with fail
          go_ret
          exact ⟨by rw [HD.out]; rfl, _, by first | rfl | (simp only [World.drewN_drewN]; rfl) | exact World.drewN_drewN _ _ _⟩
      · have HD : Hid (decide (L < M) = r) := Lib.hid (by
          rw [HR.out]
          have := Nm.lt_ended a b k (by rw [← HL.out]; exact hk) (by rw [← HM.out]; exact hk2) (.inr (by rw [← HM.out]; omega)) HTK.out
          rw [← HL.out, ← HM.out] at this
          simp only [this])
        go_wp2_with fail
        go_ret
        exact ⟨by rw [HD.out]; rfl, q, rfl⟩
    · have HD : Hid (decide (L < M) = r) := Lib.hid (by
        rw [HR.out]
        have := Nm.lt_ended a b k (by rw [← HL.out]; exact hk) (by rw [← HM.out]; exact hk2) (.inl (by rw [← HL.out]; omega)) HTK.out
        rw [← HL.out, ← HM.out] at this
        simp only [this])
      go_wp2_with fail
      go_ret
      exact ⟨by rw [HD.out]; rfl, q, rfl⟩

open Go.RowKit Go.Sort

theorem text_elem : Tryd.prog.underlying 49 = some (.slice (Tryd.prog.elem 49)) := by kernel_rfl
theorem text_sizeOf (W : World) : (sizeOf (Tryd.prog.elem 49)).run Tryd.prog W = .ok 1 W := by
  have h : Tryd.prog.elem 49 = 9 := by kernel_rfl
  obtain ⟨i, hi, hz, hs1, hby⟩ := info_parts text_info
  rw [h]; simp [sizeOf, typeInfo, hi, hs1]
theorem run_cutT_l (W : World) (A : Option Addr) (n cap q : Nat) (h : q ≤ n) :
    (Instr.sliceAt 49 (.slice A n cap) (some (.int .i64 (q : Int))) none none).run Tryd.prog W = .ok (.slice (cutA A cap q) (n - q) (cap - q)) W := by
  rw [run_sliceAt_slice W _ _ _ _ _ text_elem, run_slice_l W _ A n cap text_elem .i64 (q : Int) (by omega) (by omega), text_sizeOf]
  simp [Result.andThen, sliced, cutA]
theorem run_cutT_h (W : World) (A : Option Addr) (n cap q : Nat) (h : q ≤ cap) :
    (Instr.sliceAt 49 (.slice A n cap) none (some (.int .i64 (q : Int))) none).run Tryd.prog W = .ok (.slice A q cap) W := by
  rw [run_sliceAt_slice W _ _ _ _ _ text_elem, run_slice_h W _ A n cap text_elem .i64 (q : Int) (by omega) (by omega), text_sizeOf]
  simp [Result.andThen, sliced]
  intro h0
  cases A <;> simp [Addr.add]
theorem ReadsT.cut {w : World} {A : Option Addr} {l : List (List UInt8)} (h : ReadsT w A l) (cap q : Nat) (hl : l.length ≤ cap) (hA : A = none → cap = 0) (hq : q ≤ l.length) : ReadsT w (cutA A cap q) (l.drop q) := by
  unfold cutA
  split
  · exact .inl (List.drop_eq_nil_of_le (by omega))
  · rcases A with _ | ⟨b, off, sp⟩
    · have := hA rfl; omega
    · rcases h with rfl | ⟨b', off', e, hb, hc⟩
      · exact .inl (by simp)
      · obtain ⟨rfl, rfl, rfl⟩ := by simpa using e
        have h2 := ReadsT.drop (w := w) (b := b) (off := off) (k := q) (l := l) (.inr ⟨_, _, rfl, hb, hc⟩)
        simpa [Addr.add_lit] using h2

section
variable {w : World} {o : Oper} {a : Act} {Q : Exit → Act → World → Prop}
/-- append(s, x...), s the call's own texts, x whatever reads as texts. -/
theorem step_appT {K : Act → World → Prop} (s x : Operand) (ho : o.op = .call { callee := .builtin .append, args := #[s, x], argTypes := #[49, 49] })
    (base : Nat) (v : Value) (l m : List (List UInt8)) (hs : a.eval s = v) (hown : OwnT w base v l) (A : Option Addr) (n c : Nat) (hx : a.eval x = .slice A n c) (hn : m.length = n) (hr : ReadsT w A m)
    (hlen : l.length + n ≤ 1073741824) (hbase : base ≤ w.heap.size)
    (h : ∀ v' w', OwnT w' base v' (l ++ m) → w.grownBy w' v.ownBlock → (v'.ownBlock = v.ownBlock ∨ v'.ownBlock = some w.heap.size) → K (a.put o.dst v') w') : o.wp Tryd.prog a w K Q := by
  subst hn
  obtain ⟨i, hi, hz, hs1, hby⟩ := info_parts text_info
  have key : ∃ v' w', (Builtin.append_ #[49, 49] o.type #[v, .slice A m.length c]).run Tryd.prog w = .ok v' w' ∧ OwnT w' base v' (l ++ m) ∧ w.grownBy w' v.ownBlock ∧ (v'.ownBlock = v.ownBlock ∨ v'.ownBlock = some w.heap.size) := by
    cases A with
    | none =>
      have h0 : m = [] := by
        rcases hr with h | ⟨_, _, h, _⟩
        · exact h
        · cases h
      subst h0
      refine ⟨v, w, ?_, by simpa using hown, World.grownBy.refl w _, .inl rfl⟩
      have u := Tryd.underlying49
      rcases hown.2 with ⟨rfl, _⟩ | ⟨g, cap, cur, rfl, _, _, hnc, _⟩
      · simp [Builtin.append_, run_underlying u, sizeOf, typeInfo, hi, Builtin.lenOf, Builtin.firstCells]
      · simp [Builtin.append_, run_underlying u, sizeOf, typeInfo, hi, Builtin.lenOf, Builtin.firstCells, hnc, storeCells]
    | some ad =>
      obtain ⟨v', w', hrun, h2, h3, _, h5⟩ := run_append_own_at (P := Tryd.prog) w base 49 o.type 9 i _ 1 16 Tryd.underlying49 hi hz hs1 hby rfl (by omega) v l.length (txs l) hown ad m.length c (txs m) (by rw [txs_len]; omega) hr.news (txs_one m)
        (by simp only [maxLen]; omega) (by omega) hbase
      refine ⟨v', w', hrun, ?_, h3, h5⟩
      unfold OwnT
      rw [List.length_append, show txs (l ++ m) = txs l ++ txs m from by simp [txs]]
      exact h2
  obtain ⟨v', w', hrun, h2, h3, h4⟩ := key
  unfold Oper.wp execOp
  simp only [ho, resolve, invoke, builtin, Sem.run_bind, Sem.run_pure, Result.andThen_ok, List.map_toArray, List.map_cons, List.map_nil, hs, hx, hrun]
  exact h v' w' h2 h3 h4
end
/-- make([]string, 0, c), in whatever world. -/
theorem run_makeT (c : Nat) (hc : c ≤ 1073741824) : ∃ cs : Array Value, (∀ W : World, (Instr.makeSlice 49 (.int .i64 0) (.int .i64 (c : Int))).run Tryd.prog W = .ok (.slice (some ⟨W.heap.size, 0, none⟩) 0 c) (W.alloc (.cells cs 9))) ∧
    ∀ W : World, OwnT (W.alloc (.cells cs 9)) W.heap.size (.slice (some ⟨W.heap.size, 0, none⟩) 0 c) [] := by
  obtain ⟨i, hi, hz, hs1, hby⟩ := info_parts text_info
  refine ⟨madeCells (Value.string ⟨#[]⟩).cells (c * i.size), fun W => by
    rw [run_make (P := Tryd.prog) W 49 9 i _ Tryd.underlying49 hi hz .i64 .i64 0 c (by omega) (by omega) (by rw [hby]; omega) (by omega)]
    simp only [Int.toNat_zero, Int.toNat_natCast], fun W => ?_⟩
  exact ⟨by simp [txs], .inr ⟨W.heap.size, c, _, by simp, Nat.le_refl _, heap_alloc_new _ _, by simp, by simp only [maxLen]; omega, by simp [size_madeCells, hs1], by simp [txs]⟩⟩

set_option maxRecDepth 100000 in
set_option maxHeartbeats 2000000 in
theorem rising_any (A : Option Addr) (c n : Nat) (l : List (List UInt8)) (w : World) (hn : l.length = n) (hl : n ≤ 100000) (hx : ∀ x ∈ l, x.length ≤ 1000000) (hr : ReadsT w A l) :
    Calls Tryd.prog 28 #[.slice A n c] w fun e w' => ∃ v, e = .returned v ∧ OwnT w' w.heap.size v (Nm.rising l) ∧ Below w.heap.size w w' := by
  have HR := Lib.hid hr
  have HN := Lib.hid hn
  have HX := Lib.hid hx
  clear hr hn hx
  go_enter Tryd.func28, Tryd.ntmps28
  go_wp2_with fail
  go_loopw [3, 4] (fun v i wr => ∃ k : Nat, k ≤ n ∧ i = .int .i64 k ∧ OwnT wr w.heap.size v (Nm.rising (l.take k)) ∧ Below w.heap.size w wr) (fun _ i _ => n - (intOf i).toNat)
  case atStart => exact ⟨0, Nat.zero_le _, rfl, by simpa [Nm.rising] using OwnT.nil w _, Below.refl _ _⟩
  case round =>
    obtain ⟨k, hk, rfl, ho, hb⟩ := hrel
    have HO := Lib.hid ho
    have HB := Lib.hid hb
    clear ho hb
    by_cases hlt : k < n
    · obtain ⟨b, off, rfl, hcell⟩ := (HR.out.below HB.out (Nat.le_refl _)).get k (by rw [HN.out]; exact hlt)
      have HT := Lib.hid (take_snocT l k (by rw [HN.out]; exact hlt))
      have HXL : Hid ((l.getD k []).length ≤ 1000000) := Lib.hid (HX.out _ (by
        rw [show l.getD k [] = l[k]'(by rw [HN.out]; exact hlt) from by simp [List.getD, show k < l.length by rw [HN.out]; exact hlt]]
        exact List.getElem_mem _))
      have HOL : Hid (∀ y ∈ Nm.rising (l.take k), y.length ≤ 1000000) := Lib.hid (fun y hy => HX.out y (List.mem_of_mem_take ((Nm.mem_rising _ y).1 hy)))
      have hlen : (Nm.rising (l.take k)).length ≤ k := Nat.le_trans (Nm.rising_len _) (by rw [List.length_take]; omega)
      have HRS := Lib.hid (Nm.rising_snoc (l.take k) (l.getD k []))
      generalize l.getD k [] = x at *
      obtain ⟨out, hout⟩ : ∃ out, out = Nm.rising (l.take k) := ⟨_, rfl⟩
      rw [← hout] at HO HOL HRS hlen
      rw [← HT.out] at HRS
      clear hout HT
      obtain ⟨A', c', rfl, hro, hnil, hoc, hoc2⟩ := HO.out.reads
      have HRO := Lib.hid hro
      generalize hm : out.length = m at *
      have HM := Lib.hid hm
      clear hm hro
      rename World => w1
      have HBF := Lib.hid (fun (y : List UInt8) (W : World) (hy : y.length ≤ 1000000) => before_any y x W hy HXL.out)
      go_wp2_with fail
      go_loopw [5] (fun kv wq => ∃ j : Nat, j ≤ m ∧ kv = .int .i64 j ∧ (∀ t, t < j → out.getD t [] < x) ∧ ∃ q, wq = w1.drewN q) (fun kv _ => m - (intOf kv).toNat)
      case atStart => exact ⟨0, Nat.zero_le _, rfl, fun t h => absurd h (Nat.not_lt_zero _), 0, rfl⟩
      case round =>
        obtain ⟨j, hj, rfl, hbf, q, hq⟩ := hrel
        have HJ := Lib.hid hbf
        have HQ := Lib.hid hq
        have hcellk : wr.cell? ⟨b, off + k, none⟩ = some (encStr x) := by rw [hq]; exact hcell
        have HRQ : Hid (ReadsT wr A' out) := Lib.hid (by rw [hq]; exact HRO.out)
        have HOQ : Hid (OwnT wr w.heap.size (.slice A' m c') out) := Lib.hid (by rw [hq]; exact HO.out)
        have HBQ : Hid (Below w.heap.size w wr) := Lib.hid (by rw [hq]; exact below_drewN HB.out q)
        clear hbf hq hcell
        by_cases hjm : j < m
        · obtain ⟨g, off2, rfl, hcell2⟩ := HRQ.out.get j (by rw [HM.out]; exact hjm)
          have HYL : Hid ((out.getD j []).length ≤ 1000000) := Lib.hid (HOL.out _ (by
            rw [show out.getD j [] = out[j]'(by rw [HM.out]; exact hjm) from by simp [List.getD, show j < out.length by rw [HM.out]; exact hjm]]
            exact List.getElem_mem _))
          obtain ⟨y, hy⟩ : ∃ y, y = out.getD j [] := ⟨_, rfl⟩
          rw [← hy] at hcell2 HYL
          have HY := Lib.hid hy
          clear hy
          by_cases hyx : y < x
          · have HBT : Hid (∀ W, Calls Tryd.prog 53 #[encStr y, encStr x] W fun e w' => e = .returned (.bool true) ∧ ∃ q, w' = W.drewN q) := Lib.hid (fun W => by have h := HBF.out y W HYL.out; rw [decide_eq_true hyx] at h; exact h)
            go_wp2_with fail
            go_quiet (first | (go_at_call 53; exact Calls.quiet_of (HBT.out _)))
            go_wp2_with fail
            go_roundw
            case rel => exact ⟨j + 1, by omega, by go_num, fun t ht => by
              by_cases e : t = j
              · subst e; rw [← HY.out]; exact hyx
              · exact HJ.out t (by omega), by rw [HQ.out, World.drewN_drewN]; exact ⟨_, rfl⟩⟩
            case measure => simp [intOf]; omega
          · have HBT : Hid (∀ W, Calls Tryd.prog 53 #[encStr y, encStr x] W fun e w' => e = .returned (.bool false) ∧ ∃ q, w' = W.drewN q) := Lib.hid (fun W => by have h := HBF.out y W HYL.out; rw [decide_eq_false hyx] at h; exact h)
            go_wp2_with fail
            go_quiet (first | (go_at_call 53; exact Calls.quiet_of (HBT.out _)))
            rename Nat => q1
            go_wp2_with fail
            by_cases hey : y = x
            · have hb1 : (y == x) = true := beq_iff_eq.2 hey
              have HIN : Hid (Nm.rising (l.take (k + 1)) = out) := Lib.hid (by rw [HRS.out]; exact Nm.ins_there x j out (by rw [HM.out]; exact hjm) HJ.out (by rw [← HY.out]; exact hey))
              go_quiet (fail)
              rename Nat => q2
              go_wp2_with fail
              go_roundw
              case rel => exact ⟨k + 1, by omega, by go_num, by rw [HIN.out]; exact HOQ.out, below_drewN HBQ.out _⟩
              case measure => simp [intOf]; omega
            · have hb1 : (y == x) = false := beq_eq_false_iff_ne.2 hey
              go_quiet (fail)
              rename Nat => q2
              go_wp2_with fail
              have HIN : Hid (Nm.rising (l.take (k + 1)) = out.take j ++ [x] ++ out.drop j) := Lib.hid (by rw [HRS.out]; exact Nm.ins_at x j out (by rw [HM.out]; omega) HJ.out (fun _ => by rw [← HY.out]; exact ⟨hyx, hey⟩))
              obtain ⟨W0, hW0⟩ : ∃ W0, W0 = (wr.drewN q1).drewN q2 := ⟨_, rfl⟩
              rw [← hW0]
              have HRW : Hid (ReadsT W0 (some ⟨g, off2, none⟩) out) := Lib.hid (by rw [hW0]; exact HRQ.out)
              have HBW : Hid (Below w.heap.size w W0) := Lib.hid (by rw [hW0]; exact below_drewN (below_drewN HBQ.out _) _)
              have HCK : Hid (W0.cell? ⟨b, off + k, none⟩ = some (encStr x)) := Lib.hid (by rw [hW0]; exact hcellk)
              clear hW0 hcellk HRQ HBQ HOQ
              obtain ⟨cs, hmk, hmo⟩ := run_makeT (m + 1) (by omega)
              have hmk' : ∀ W : World, (Instr.makeSlice 49 (.int .i64 0) (.int .i64 ((m : Int) + 1))).run Tryd.prog W = .ok (.slice (some ⟨W.heap.size, 0, none⟩) 0 (m + 1)) (W.alloc (.cells cs 9)) := fun W => by have h := hmk W; simpa using h
              have hwrap : IntKind.i64.wrap ((m : Int) + 1) = (m : Int) + 1 := by rw [IntKind.wrap_i64]; omega
              have HMO := Lib.hid hmo
              have hcut := fun W => run_cutT_h W (some ⟨g, off2, none⟩) m c' j (by omega)
              have hcut2 := fun W => run_cutT_l W (some ⟨g, off2, none⟩) m c' j (by omega)
              clear hmk hmo
              have HZ : Hid (Below W0.heap.size W0 (W0.drew.alloc (.cells cs 9))) := Lib.hid (balloc (Below.refl W0.heap.size W0).drew _)
              go_region_law (refine step_appT (.tmp 48) (.tmp 51) (by rfl) W0.heap.size _ [] (out.take j) (by rfl) (HMO.out W0.drew) (some ⟨g, off2, none⟩) j c' (by rfl) (by rw [List.length_take, HM.out]; omega) ((HRW.out.below HZ.out (Nat.le_refl _)).take j) (by simp; omega) (by simp) ?_; intro v6 w6 hown6 hg6 hv6; have H06 := Lib.hid (HZ.out.grown hg6 (by simp) (fun g hg => by cases hg; exact Nat.le_refl _)); have HO6 := Lib.hid hown6; clear hown6 hg6 hv6)
              simp only [List.nil_append] at HO6
              have hc6 := (H06.out.cell (p := ⟨b, off + k, none⟩) (World.block_lt_of_cell? W0 _ HCK.out)).trans HCK.out
              have hbs6 := H06.out.size
              go_wp2_with (first
                | (have _t := H06; at_builtin; refine wpList_appT (w := w6.alloc _) rfl (.tmp 53) (.tmp 58) rfl W0.heap.size _ _ [x] rfl (HO6.out.alloc _) _ 1 1 rfl rfl (ReadsT.made _ _ _ _ _ _ (by simp) rfl) (by rw [List.length_take]; omega) (by simp; omega) ?_; intro v7 w7 hown7 hg7 hv7; have H07 := Lib.hid ((balloc H06.out _).grown hg7 (by simp; omega) (fun g hg => (HO6.out.lt g hg).1)); have HO7 := Lib.hid hown7; clear hown7 hg7 hv7 H06)
                | (have _t := H07; at_builtin; refine wpList_appT (w := w7) rfl (.tmp 60) (.tmp 63) rfl W0.heap.size _ _ (out.drop j) rfl HO7.out (cutA (some ⟨g, off2, none⟩) c' j) (m - j) (c' - j) rfl (by rw [List.length_drop, HM.out]) ((HRW.out.below H07.out (Nat.le_refl _)).cut c' j (by rw [HM.out]; exact hoc) (fun e => (hnil e).2) (by rw [HM.out]; omega)) (by simp; omega) H07.out.size ?_; intro v8 w8 hown8 hg8 hv8; have H08 := Lib.hid (H07.out.grown hg8 H07.out.size (fun g hg => (HO7.out.lt g hg).1)); have HO8 := Lib.hid hown8; clear hown8 hg8 hv8 H07)
                | fail)
              go_roundw
              case rel => exact ⟨k + 1, by omega, by go_num, by rw [HIN.out]; exact HO8.out.mono HBW.out.size, HBW.out.trans (H08.out.mono HBW.out.size)⟩
              case measure => simp [intOf]; omega
        · go_wp2_with fail
          go_quiet (fail)
          rename Nat => q1
          go_wp2_with fail
          go_quiet (fail)
          rename Nat => q2
          go_wp2_with fail
          have HIN : Hid (Nm.rising (l.take (k + 1)) = out.take j ++ [x] ++ out.drop j) := Lib.hid (by rw [HRS.out]; exact Nm.ins_at x j out (by rw [HM.out]; omega) HJ.out (fun h => absurd h (by rw [HM.out]; exact hjm)))
          obtain ⟨W0, hW0⟩ : ∃ W0, W0 = (wr.drewN q1).drewN q2 := ⟨_, rfl⟩
          rw [← hW0]
          have HRW : Hid (ReadsT W0 A' out) := Lib.hid (by rw [hW0]; exact HRQ.out)
          have HBW : Hid (Below w.heap.size w W0) := Lib.hid (by rw [hW0]; exact below_drewN (below_drewN HBQ.out _) _)
          have HCK : Hid (W0.cell? ⟨b, off + k, none⟩ = some (encStr x)) := Lib.hid (by rw [hW0]; exact hcellk)
          clear hW0 hcellk HRQ HBQ HOQ
          obtain ⟨cs, hmk, hmo⟩ := run_makeT (m + 1) (by omega)
          have hmk' : ∀ W : World, (Instr.makeSlice 49 (.int .i64 0) (.int .i64 ((m : Int) + 1))).run Tryd.prog W = .ok (.slice (some ⟨W.heap.size, 0, none⟩) 0 (m + 1)) (W.alloc (.cells cs 9)) := fun W => by have h := hmk W; simpa using h
          have hwrap : IntKind.i64.wrap ((m : Int) + 1) = (m : Int) + 1 := by rw [IntKind.wrap_i64]; omega
          have HMO := Lib.hid hmo
          have hcut := fun W => run_cutT_h W A' m c' j (by omega)
          have hcut2 := fun W => run_cutT_l W A' m c' j (by omega)
          clear hmk hmo
          have HZ : Hid (Below W0.heap.size W0 (W0.drew.alloc (.cells cs 9))) := Lib.hid (balloc (Below.refl W0.heap.size W0).drew _)
          go_region_law (refine step_appT (.tmp 48) (.tmp 51) (by rfl) W0.heap.size _ [] (out.take j) (by rfl) (HMO.out W0.drew) A' j c' (by rfl) (by rw [List.length_take, HM.out]; omega) ((HRW.out.below HZ.out (Nat.le_refl _)).take j) (by simp; omega) (by simp) ?_; intro v6 w6 hown6 hg6 hv6; have H06 := Lib.hid (HZ.out.grown hg6 (by simp) (fun g hg => by cases hg; exact Nat.le_refl _)); have HO6 := Lib.hid hown6; clear hown6 hg6 hv6)
          simp only [List.nil_append] at HO6
          have hc6 := (H06.out.cell (p := ⟨b, off + k, none⟩) (World.block_lt_of_cell? W0 _ HCK.out)).trans HCK.out
          have hbs6 := H06.out.size
          go_wp2_with (first
            | (have _t := H06; at_builtin; refine wpList_appT (w := w6.alloc _) rfl (.tmp 53) (.tmp 58) rfl W0.heap.size _ _ [x] rfl (HO6.out.alloc _) _ 1 1 rfl rfl (ReadsT.made _ _ _ _ _ _ (by simp) rfl) (by rw [List.length_take]; omega) (by simp; omega) ?_; intro v7 w7 hown7 hg7 hv7; have H07 := Lib.hid ((balloc H06.out _).grown hg7 (by simp; omega) (fun g hg => (HO6.out.lt g hg).1)); have HO7 := Lib.hid hown7; clear hown7 hg7 hv7 H06)
            | (have _t := H07; at_builtin; refine wpList_appT (w := w7) rfl (.tmp 60) (.tmp 63) rfl W0.heap.size _ _ (out.drop j) rfl HO7.out (cutA A' c' j) (m - j) (c' - j) rfl (by rw [List.length_drop, HM.out]) ((HRW.out.below H07.out (Nat.le_refl _)).cut c' j (by rw [HM.out]; exact hoc) (fun e => (hnil e).2) (by rw [HM.out]; omega)) (by simp; omega) H07.out.size ?_; intro v8 w8 hown8 hg8 hv8; have H08 := Lib.hid (H07.out.grown hg8 H07.out.size (fun g hg => (HO7.out.lt g hg).1)); have HO8 := Lib.hid hown8; clear hown8 hg8 hv8 H07)
            | fail)
          go_roundw
          case rel => exact ⟨k + 1, by omega, by go_num, by rw [HIN.out]; exact HO8.out.mono HBW.out.size, HBW.out.trans (H08.out.mono HBW.out.size)⟩
          case measure => simp [intOf]; omega
    · obtain rfl : k = n := by omega
      have HE : Hid (l.take k = l) := Lib.hid (by rw [← HN.out, List.take_length])
      rw [HE.out] at HO
      go_wp2_with fail
      go_ret
      exact ⟨_, rfl, HO.out, HB.out⟩
end Go.Proofs.YtipmmmmobopbmaaDoor

namespace Go.Proofs.YtipmmmmobopbmaaDoor
open Go.RowKit Go.Maps

/-- A row of texts of the call's own, apart from a store. -/
structure Tr (S D : Nat → Prop) (B : Nat) (v : Value) (l : List (List UInt8)) (w : World) : Prop where
  own : OwnT w B v l
  ns : ∀ g, v.ownBlock = some g → ¬ S g ∧ ¬ D g
section
variable {S D S' D' : Nat → Prop} {B : Nat} {v v' : Value} {l : List (List UInt8)} {w w' : World}
theorem Tr.below (h : Tr S D B v l w) (hw : Below w.heap.size w w') : Tr S D B v l w' := ⟨h.own.below hw (Nat.le_refl _), h.ns⟩
theorem Tr.chg (h : Tr S D B v l w) (hg : Chg S w w') : Tr S D B v l w' := ⟨ownsRow_same h.own fun g e => hg.block g (h.own.lt g e).2 (h.ns g e).1, h.ns⟩
theorem Tr.go (h : Tr S D B v l w) (hg : StGo S D S' D' w w') : Tr S' D' B v l w' :=
  ⟨(h.chg hg.chg).own, fun g e => ⟨fun hk => by
    rcases hg.s _ hk with h1 | h1
    · exact (h.ns g e).1 h1
    · have := (h.own.lt g e).2; omega, fun hk => by
    rcases hg.d _ hk with h1 | h1
    · exact (h.ns g e).2 h1
    · have := (h.own.lt g e).2; omega⟩⟩
theorem Tr.put (h : Tr S D B v l w) (l' : List (List UInt8)) (ho : OwnT w' B v' l') (hS : ∀ k, S k ∨ D k → k < w.heap.size) (hv : v'.ownBlock = v.ownBlock ∨ v'.ownBlock = some w.heap.size) : Tr S D B v' l' w' :=
  ⟨ho, fun g hg => by
    rcases hv with e | e
    · exact h.ns g (e ▸ hg)
    · rw [e] at hg; cases hg
      exact ⟨fun hk => by have := hS _ (.inl hk); omega, fun hk => by have := hS _ (.inr hk); omega⟩⟩
end
theorem StS.grownT {w0 w w' : World} {S D : Nat → Prop} {sb n : Nat} {s : St.S} {row : Option Nat} (h : StS w0 S D sb s n w) (hg : w.grownBy w' row) (hr : ∀ g, row = some g → (¬ S g ∧ ¬ D g) ∧ w0.heap.size ≤ g) : StS w0 S D sb s n w' :=
  ⟨h.st.kept hg.size (fun k hk hlt => hg.block k hlt (fun e => by
    have := hr k e.symm
    rcases hk with hk | hk
    · exact this.1.1 hk
    · exact this.1.2 hk)), h.lo, h.below.grown hg h.below.size (fun k e => (hr k e).2), h.calls, h.failed⟩
theorem below_drew_t {w w' : World} (h : ∃ k, w' = w.drewN k) : Below w.heap.size w w' := by
  obtain ⟨q, rfl⟩ := h; exact below_drewN (Below.refl _ _) q
theorem byte_cellsT (j : Nat) (hj : j < 256) : (cells [UInt8.ofNat j]).toArray = #[.int .u8 (j : Int)] := by
  have h1 : ((UInt8.ofNat j).toNat : Int) = (j : Int) := by rw [UInt8.toNat_ofNat']; omega
  simp only [cells, List.map_cons, List.map_nil, byteV, B, h1]
theorem own_t {w : World} {base n : Nat} {v : Value} {l : List (List UInt8)} (h : OwnT w base v l) (hn : l.length = n) : ∃ A c, v = .slice A n c ∧ ReadsT w A l := by
  obtain ⟨A, c, e, hr, -⟩ := h.reads
  exact ⟨A, c, by rw [e, hn], hr⟩
namespace St
theorem ask_freeT {α : Type} (s : S) (h : s.script = []) (z : α) (f : S → (α × Option Nat) × S) : s.ask z f = f s.took := by
  have ho : s.out = 0 := by simp [S.out, h]
  unfold S.ask
  rw [ho, if_neg (by omega), if_neg (by omega)]
structure AtL (hv : List Nm) (s : S) : Prop where
  script : s.script = []
  objs : ∀ x, s.objs x ≠ none ↔ x ∈ hv
variable {hv : List Nm} {s : S}
theorem AtL.took (h : AtL hv s) : AtL hv s.took := ⟨by simp [S.took, h.script], h.objs⟩
theorem AtL.put (h : AtL hv s) (k : Nm) (b : List UInt8) (hk : Dk.valid k = true) : (s.put k b).1.2 = none ∧ AtL (hv ++ [k]) (s.put k b).2 := by
  have e : s.put k b = S.putF k b s.took := ask_freeT _ h.script _ _
  rw [e]
  unfold S.putF
  rw [if_pos hk]
  refine ⟨rfl, h.took.script, fun x => ?_⟩
  rw [List.mem_append, List.mem_singleton]
  by_cases ex : x = k
  · simp [upd, ex]
  · simp only [upd, if_neg ex]
    rw [h.took.objs x]
    simp [ex]
theorem AtL.putBad (h : AtL hv s) (k : Nm) (b : List UInt8) (hk : ¬ Dk.valid k = true) : (s.put k b).1.2 = some 5 ∧ AtL hv (s.put k b).2 := by
  have e : s.put k b = S.putF k b s.took := ask_freeT _ h.script _ _
  rw [e]
  unfold S.putF
  rw [if_neg hk]
  exact ⟨rfl, h.took⟩
theorem AtL.list (h : AtL hv s) : s.list = ((some s.took, none), s.took) := ask_freeT _ h.script _ _
theorem AtL.del (h : AtL hv s) (k : Nm) (hk : k ∈ hv) : (s.del k).1.2 = none ∧ (s.del k).2.script = [] ∧ ∀ x, (s.del k).2.objs x ≠ none ↔ x ∈ hv ∧ x ≠ k := by
  have e : s.del k = S.delF k s.took := ask_freeT _ h.script _ _
  rw [e]
  unfold S.delF
  cases hu : s.took.objs k with
  | none => exact absurd hu ((h.took.objs k).2 hk)
  | some u =>
    refine ⟨rfl, h.took.script, fun x => ?_⟩
    by_cases ex : x = k
    · simp [upd, ex]
    · simp only [upd, if_neg ex]
      rw [h.took.objs x]
      simp [ex]
theorem AtL.delNone (h : AtL hv s) (k : Nm) (hk : k ∉ hv) : (s.del k).1.2 = some 6 ∧ AtL hv (s.del k).2 := by
  have e : s.del k = S.delF k s.took := ask_freeT _ h.script _ _
  rw [e]
  unfold S.delF
  have hu : s.took.objs k = none := Classical.byContradiction fun hn => hk ((h.took.objs k).1 hn)
  rw [hu]
  exact ⟨rfl, h.took⟩
theorem AtL.lists (h : AtL hv s) {l : List Nm} (hl : ListsS s.objs l) : l = Go.Proofs.YtipmmmmobopbmaaDoor.Nm.rising hv :=
  Go.Proofs.YtipmmmmobopbmaaDoor.Nm.strict_ext _ _ hl.1 (Go.Proofs.YtipmmmmobopbmaaDoor.Nm.rising_rises _) fun x => (hl.2 x).trans ((h.objs x).trans (Go.Proofs.YtipmmmmobopbmaaDoor.Nm.mem_rising _ x).symm)
theorem AtL.fewer (h : AtL hv s) {l : List Nm} (hl : ListsS s.objs l) : l.length ≤ hv.length := by
  rw [h.lists hl]; exact Go.Proofs.YtipmmmmobopbmaaDoor.Nm.rising_len _
theorem under_all (s : S) : s.under [] = s.objs := by
  funext x; unfold S.under; simp [Lib.hasPrefix]
theorem erase_lists {R : List Nm} (hR : R.Pairwise (· < ·)) (hnd : R.Nodup) (k : Nm) : (R.erase k).Pairwise (· < ·) ∧ ∀ x, x ∈ R.erase k ↔ x ∈ R ∧ x ≠ k :=
  ⟨hR.sublist List.erase_sublist, fun x => by rw [List.Nodup.mem_erase_iff hnd]; exact And.comm⟩
theorem rising_nodup (l : List Nm) : (Go.Proofs.YtipmmmmobopbmaaDoor.Nm.rising l).Nodup := (Go.Proofs.YtipmmmmobopbmaaDoor.Nm.rising_rises l).imp fun {a b} (h : a < b) (e : a = b) => by subst e; exact absurd h (List.lt_irrefl a)
/-- What a list of names is, one of them gone. -/
theorem AtL.gone {R : List Nm} {k : Nm} (h : AtL (R.erase k) s) (hR : R.Pairwise (· < ·)) (hnd : R.Nodup) (hk : k ∈ R) {l : List Nm} (hl : ListsS s.objs l) : l.length + 1 = R.length := by
  obtain ⟨h1, -⟩ := erase_lists hR hnd k
  have e : l = R.erase k := Go.Proofs.YtipmmmmobopbmaaDoor.Nm.strict_ext _ _ hl.1 h1 fun x => (hl.2 x).trans (h.objs x)
  rw [e, List.length_erase_of_mem hk]
  have := List.length_pos_of_mem hk
  omega
end St
end Go.Proofs.YtipmmmmobopbmaaDoor

namespace Go.Proofs.YtipmmmmobopbmaaDoor
open Go.RowKit Go.Maps
attribute [local go_sem] BtoNat x8 and8_15

theorem OwnT.row {w : World} {base n c : Nat} {A : Option Addr} {l : List (List UInt8)} (h : OwnT w base (.slice A n c) l) : ReadsT w A l ∧ TxRow w A c l := by
  obtain ⟨A', c', e, hr, hn, hc, hm⟩ := h.reads
  injection e with e1 e2 e3
  subst e1 e3
  exact ⟨hr, hc, hm, fun e => (hn e).2, fun j hj => hr.get j hj⟩
namespace St
theorem AtL.under {hv : List Nm} {s : S} (h : AtL hv s) (hp : hv.Pairwise (· < ·)) (k : Nm) {l : List Nm} (hl : ListsS (s.under k) l) : l = hv.filter fun x => Lib.hasPrefix x k :=
  Go.Proofs.YtipmmmmobopbmaaDoor.Nm.strict_ext _ _ hl.1 (hp.filter _) fun x => by
    rw [hl.2 x, List.mem_filter, ← h.objs x]
    unfold S.under
    cases hx : Lib.hasPrefix x k <;> simp
theorem AtL.fewer' {hv : List Nm} {s : S} (h : AtL hv s) (hp : hv.Pairwise (· < ·)) {l : List Nm} (hl : ListsS s.objs l) : l.length ≤ hv.length := by
  rw [Go.Proofs.YtipmmmmobopbmaaDoor.Nm.strict_ext _ _ hl.1 hp fun x => (hl.2 x).trans (h.objs x)]; exact Nat.le_refl _
theorem AtL.dels {hv : List Nm} {s : S} (h : AtL hv s) (k : Nm) (hk : k ∈ Go.Proofs.YtipmmmmobopbmaaDoor.Nm.rising hv) : (s.del k).1.2 = none ∧ AtL ((Go.Proofs.YtipmmmmobopbmaaDoor.Nm.rising hv).erase k) (s.del k).2 := by
  obtain ⟨h1, h2, h3⟩ := h.del k ((Go.Proofs.YtipmmmmobopbmaaDoor.Nm.mem_rising _ _).1 hk)
  refine ⟨h1, h2, fun x => ?_⟩
  rw [h3 x, (erase_lists (Go.Proofs.YtipmmmmobopbmaaDoor.Nm.rising_rises hv) (rising_nodup hv) k).2 x, Go.Proofs.YtipmmmmobopbmaaDoor.Nm.mem_rising]
end St

set_option maxRecDepth 100000 in
set_option maxHeartbeats 3000000 in
theorem lists_walk (w : World) (p : Nat → Addr) (hs : Sents w p) (A : Option Addr) (cap n : Nat) (xs : List (List UInt8)) (hn : xs.length = n) (hm : n ≤ 9223372036854775807) (hr : ReadsT w A xs) (n0 : Int) (hn0 : -9223372036854775808 ≤ n0 ∧ n0 ≤ 9223372036854775807) :
    Calls Tryd.prog 5 #[.slice A n cap, .int .i64 n0] w fun e w' => e = .returned (.bool true) ∧ Below w.heap.size w w' := by
  have HS := hide hs
  have HRT := hide hr
  have HN := hide hn
  have HF := hide (stFirst_any w p hs)
  have HN0 := hide hn0
  clear hs hr hn hn0
  by_cases hfar : 20 < n
  · go_enter Tryd.func5, Tryd.ntmps5
    go_wp2_with (first
      | (go_at_call 9; refine HF.out.mono ?_; rintro e w1 ⟨rfl, hb⟩; have HB1 := hide hb; clear hb)
      | fail)
    go_ret
    exact ⟨rfl, HB1.out⟩
  · have hf1 : ¬ (20 : Int) < (n : Int) := by omega
    go_enter Tryd.func5, Tryd.ntmps5
    go_wp2_with (first
      | (go_at_call 9; refine HF.out.mono ?_; rintro e w1 ⟨rfl, hb⟩; have HB1 := hide hb; clear hb)
      | (go_at_call 11; refine (stNew_any w w1 HB1.out).mono ?_; rintro e w2 ⟨sb, S, rfl, h, -, -⟩; have H2 := hide h; clear h)
      | fail)
    go_loopw [7, 8] (fun v i wr => ∃ (j : Nat) (S D : Nat → Prop) (s : St.S) (hv : List (List UInt8)), j ≤ n ∧ i = .int .i64 j ∧ StS w S D sb s j wr ∧ St.AtL hv s ∧ Tr S D w.heap.size v hv wr ∧ hv.length ≤ j ∧ ∀ x ∈ hv, x.length ≤ 100) (fun _ i _ => n - (intOf i).toNat)
    case atStart => exact ⟨0, _, _, _, [], Nat.zero_le _, rfl, H2.out, ⟨rfl, fun x => by simp [St.S.new]⟩, ⟨World.ownsRow_nil _ _ _ 1, fun g e => by cases e⟩, Nat.le_refl _, fun x hx => by cases hx⟩
    case round =>
      obtain ⟨j, S4, D4, s4, hv, hj, rfl, h4, ha4, ht4, hvl, hvx⟩ := hrel
      have H4 := hide h4
      have HAT := hide ha4
      have HT4 := hide ht4
      have HVX := hide hvx
      clear h4 ha4 ht4 hvx H2
      by_cases hlt : j < n
      · have hjl : j < xs.length := by rw [HN.out]; exact hlt
        obtain ⟨b0, o0, hA, hcw⟩ := HRT.out.get j hjl
        subst hA
        have HCELL : Hid (∀ W, Below w.heap.size w W → W.cell? ⟨b0, o0 + j, none⟩ = some (encStr (xs.getD j []))) := hide (fun W hb => (hb.cell (p := ⟨b0, o0 + j, none⟩) (World.block_lt_of_cell? _ _ hcw)).trans hcw)
        have hcell := HCELL.out wr H4.out.below
        clear hcw hjl
        generalize xs.getD j [] = x at *
        obtain ⟨X, hX⟩ : ∃ X, X = x.length := ⟨_, rfl⟩
        have hsx : (⟨x.toArray⟩ : ByteArray).size = X := by rw [hX]; simp [ByteArray.size]
        have HX := hide hX
        unfold encStr at hcell HCELL
        clear hX
        by_cases hx : 100 < X
        · go_wp2_with fail
          go_ret
          exact ⟨rfl, H4.out.below⟩
        · have HJC := hide (byte_cellsT j (by omega))
          by_cases hvd : Dk.valid x = true
          · have HP := hide (HAT.out.put x [UInt8.ofNat j] hvd)
            clear hvd
            go_wp2_with (first
              | (go_at_call 23; refine (StS.put (H4.out.grow (balloc (Below.refl _ _) _)) p HS.out (by omega) x (by have := HX.out; omega) (some ⟨wr.heap.size, 0, none⟩) 1 1 [UInt8.ofNat j] (Arg.madeAt _ _ _ _ _ 1 _ rfl HJC.out rfl (by omega)) rfl (by omega) (fun y o e _ hx => by injection e with e; injection e with e _ _; subst e; have := H4.out.lt _ (.inl hx); omega)).mono ?_; rintro e w5 ⟨rfl, S5, D5, h, hgo⟩; have H5 := hide h; have HA5 := hide HP.out.2; have HT5 := hide ((HT4.out.below (balloc (Below.refl _ _) _)).go hgo); have hc5 := HCELL.out _ H5.out.below; rw [HP.out.1]; clear h hgo H4 HT4; unfold errR)
              | (at_builtin; refine wpList_appT rfl (.tmp 51) (.tmp 56) rfl w.heap.size _ hv [x] rfl (HT5.out.own.alloc _) (some ⟨w5.heap.size, 0, none⟩) 1 1 rfl rfl (ReadsT.made _ _ _ _ _ _ rfl rfl) (by omega) (by have := H5.out.below.size; simp; omega) ?_; intro v6 w6 hown6 hg6 hv6; have HT6 := hide (Tr.put (HT5.out.below (balloc (Below.refl _ _) _)) _ hown6 (StS.lt (H5.out.grow (balloc (Below.refl _ _) _))) hv6); have H6 := hide (StS.grownT (H5.out.grow (balloc (Below.refl _ _) _)) hg6 (fun g e => ⟨HT5.out.ns g e, (HT5.out.own.lt g e).1⟩)); clear hown6 hg6 hv6 H5 HT5)
              | fail)
            go_roundw
            case rel => exact ⟨j + 1, S5, D5, _, hv ++ [x], by omega, by go_num, H6.out, HA5.out, HT6.out, by simp; omega, fun y hy => by
              rcases List.mem_append.1 hy with h | h
              · exact HVX.out y h
              · rw [List.mem_singleton.1 h, ← HX.out]; omega⟩
            case measure => simp [intOf]; omega
          · have HP := hide (HAT.out.putBad x [UInt8.ofNat j] hvd)
            clear hvd
            go_wp2_with (first
              | (go_at_call 23; refine (StS.put (H4.out.grow (balloc (Below.refl _ _) _)) p HS.out (by omega) x (by have := HX.out; omega) (some ⟨wr.heap.size, 0, none⟩) 1 1 [UInt8.ofNat j] (Arg.madeAt _ _ _ _ _ 1 _ rfl HJC.out rfl (by omega)) rfl (by omega) (fun y o e _ hx => by injection e with e; injection e with e _ _; subst e; have := H4.out.lt _ (.inl hx); omega)).mono ?_; rintro e w5 ⟨rfl, S5, D5, h, hgo⟩; have H5 := hide h; have HA5 := hide HP.out.2; have HT5 := hide ((HT4.out.below (balloc (Below.refl _ _) _)).go hgo); rw [HP.out.1]; clear h hgo H4 HT4; unfold errR errV)
              | fail)
            go_roundw
            case rel => exact ⟨j + 1, S5, D5, _, hv, by omega, by go_num, H5.out, HA5.out, HT5.out, by omega, HVX.out⟩
            case measure => simp [intOf]; omega
      · obtain rfl : n = j := by omega
        obtain ⟨Q, hQ⟩ : ∃ Q, Q = hv.length := ⟨_, rfl⟩
        have HQ := hide hQ.symm
        rw [← hQ] at hvl
        clear hQ hlt
        obtain ⟨Ah, ch, rfl, -⟩ := own_t (n := Q) HT4.out.own HQ.out
        have HRB := hide (Go.Proofs.YtipmmmmobopbmaaDoor.Nm.rising_len hv)
        by_cases hm0 : (Go.Proofs.YtipmmmmobopbmaaDoor.Nm.rising hv).length = 0
        · have HRL := hide hm0
          clear hm0
          go_wp2_with (first
            | (go_at_call 27; refine (sameTexts_any A8 A5 c8 c5 0 0 _ _ w8 HRL.out HRL.out (by omega) (by omega) HR8.out HR58.out).mono ?_; rintro e w9 ⟨rfl, hq⟩; have H9 := hide (H8.out.grow (below_drew_t hq)); have HR59 := hide (HR58.out.below (below_drew_t hq) (Nat.le_refl _)); rw [decide_eq_true rfl]; clear hq H8)
            | (go_at_call 27; refine (sameTexts_any A5 A6 c5 c6 0 0 _ _ w6 HRL.out HRL.out (by omega) (by omega) HR56.out HR6.out).mono ?_; rintro e w7 ⟨rfl, hq⟩; have H7 := hide (H6.out.grow (below_drew_t hq)); have HR57 := hide (HR56.out.below (below_drew_t hq) (Nat.le_refl _)); rw [decide_eq_true rfl]; clear hq H6)
            | (go_at_call 26; refine (StS.list H4.out p HS.out (by omega) [] (fun l hl => by have := HAT.out.fewer hl; have := HQ.out; omega)).mono ?_; rintro e w5 ⟨v5, rfl, hls, h, hch⟩; rw [HAT.out.list] at hls h ⊢; obtain ⟨l5, hl5, ho5⟩ := hls; rw [St.under_all] at hl5; obtain rfl := HAT.out.took.lists hl5; have H5 := hide h; have HT5 := hide (HT4.out.chg hch); obtain ⟨A5, c5, rfl, hr5⟩ := own_t (n := 0) ho5 HRL.out; have HR5 := hide hr5; clear hl5 ho5 h hch hr5 H4 HT4; unfold errR)
            | (go_at_call 28; refine (rising_any Ah ch Q hv w5 HQ.out (by omega) (fun x hx => by have := HVX.out x hx; omega) HT5.out.own.row.1).mono ?_; rintro e w6 ⟨v6, rfl, ho6, hb⟩; obtain ⟨A6, c6, rfl, hr6⟩ := own_t (n := 0) ho6 HRL.out; have HR6 := hide hr6; have H6 := hide (H5.out.grow hb); have HR56 := hide (HR5.out.below hb (Nat.le_refl _)); clear ho6 hb hr6 H5)
            | (go_at_call 29; refine (StS.names H7.out (by omega)).mono ?_; rintro e w8 ⟨v8, l8, rfl, hl8, ho8, hb⟩; obtain rfl := HAT.out.took.lists hl8; obtain ⟨A8, c8, rfl, hr8⟩ := own_t (n := 0) ho8 HRL.out; have HR8 := hide hr8; have H8 := hide (H7.out.grow hb); have HR58 := hide (HR57.out.below hb (Nat.le_refl _)); clear hl8 ho8 hb hr8 H7)
            | fail)
          go_ret
          exact ⟨rfl, H9.out.below⟩
        · obtain ⟨m1, hm1⟩ : ∃ m1, (Go.Proofs.YtipmmmmobopbmaaDoor.Nm.rising hv).length = m1 + 1 := ⟨(Go.Proofs.YtipmmmmobopbmaaDoor.Nm.rising hv).length - 1, by omega⟩
          have HRL := hide hm1
          have hm2 : m1 + 1 ≤ 20 := by have := HRB.out; have := HQ.out; omega
          have hsub : IntKind.i64.wrap ((m1 : Int) + 1 - 1) = (m1 : Int) := by rw [IntWalk.i64_in _ (by omega)]; omega
          have hz0 : ((m1 : Int) + 1 == 0) = false := by rw [beq_eq_false_iff_ne]; omega
          have HNK := hide (fun W => num_at n0 ((m1 + 1 : Nat) : Int) (m1 + 1) W rfl (by omega) (by omega) HN0.out.1 HN0.out.2)
          have hkk := num_lt n0 (m1 + 1) (by omega)
          clear hm0
          generalize num n0 (m1 + 1) = kk at *
          have hkl : kk < (Go.Proofs.YtipmmmmobopbmaaDoor.Nm.rising hv).length := by rw [hm1]; exact hkk
          have hin : (Go.Proofs.YtipmmmmobopbmaaDoor.Nm.rising hv).getD kk [] ∈ Go.Proofs.YtipmmmmobopbmaaDoor.Nm.rising hv := by
            have e : (Go.Proofs.YtipmmmmobopbmaaDoor.Nm.rising hv).getD kk [] = (Go.Proofs.YtipmmmmobopbmaaDoor.Nm.rising hv)[kk] := by simp [List.getD, hkl]
            rw [e]; exact List.getElem_mem _
          have HKL := hide hkl
          obtain ⟨gx, hgx⟩ : ∃ gx, gx = (Go.Proofs.YtipmmmmobopbmaaDoor.Nm.rising hv).getD kk [] := ⟨_, rfl⟩
          rw [← hgx] at hin
          have HGX := hide hgx.symm
          have HIN := hide hin
          have HGL : Hid (gx.length ≤ 100) := hide (HVX.out _ ((Go.Proofs.YtipmmmmobopbmaaDoor.Nm.mem_rising _ _).1 hin))
          have HRR := hide (Go.Proofs.YtipmmmmobopbmaaDoor.Nm.rising_rises hv)
          have HND := hide (St.rising_nodup hv)
          have HER := hide (St.erase_lists HRR.out HND.out gx)
          have HEL : Hid (((Go.Proofs.YtipmmmmobopbmaaDoor.Nm.rising hv).erase gx).length ≤ 20) := hide (by rw [List.length_erase_of_mem hin]; omega)
          have HNI : Hid (gx ∉ (Go.Proofs.YtipmmmmobopbmaaDoor.Nm.rising hv).erase gx) := hide (fun h => ((HER.out.2 gx).1 h).2 rfl)
          have HD1 := hide (HAT.out.took.dels gx hin)
          have HD2 := hide (HD1.out.2.delNone gx HNI.out)
          clear hm1 hkl hin hgx
          go_wp2_with (first
            | (go_at_call 13; refine (HNK.out w9).mono ?_; rintro e w9' ⟨rfl, rfl⟩)
            | (go_at_call 30; refine (StS.del H10.out p HS.out (by omega) gx (by have := HGL.out; omega)).mono ?_; rintro e w11 ⟨rfl, S11, D11, h, -⟩; have H11 := hide h; rw [HD2.out.1]; clear h H10; unfold errR)
            | (go_at_call 30; refine (StS.del H9.out p HS.out (by omega) gx (by have := HGL.out; omega)).mono ?_; rintro e w10 ⟨rfl, S10, D10, h, -⟩; have H10 := hide h; rw [HD1.out.1]; clear h H9; unfold errR)
            | (go_at_call 17; refine (is_sent w11 p (HS.out.below H11.out.below) 6 (by omega) 107).mono ?_; rintro e w12 ⟨rfl, hb⟩; have H12 := hide (H11.out.grow hb); clear hb H11)
            | (go_at_call 26; refine (StS.list H12.out p HS.out (by omega) gx (fun l hl => by have := HD2.out.2.fewer' HER.out.1 hl; have := HEL.out; omega)).mono ?_; rintro e w13 ⟨v13, rfl, hls, h, -⟩; rw [HD2.out.2.list] at hls h ⊢; obtain ⟨l13, hl13, ho13⟩ := hls; obtain rfl := HD2.out.2.took.under HER.out.1 gx hl13; have H13 := hide h; obtain ⟨A13, c13, rfl, -⟩ := own_t ho13 rfl; have HR13 := hide ho13.row.2; clear hl13 ho13 h H12; unfold errR)
            | (go_at_call 31; refine (in_any A13 c13 _ _ gx w13 HR13.out rfl (Nat.le_trans (List.length_filter_le _ _) (by have := HEL.out; omega))).mono ?_; rintro e w13' ⟨rfl, rfl⟩; rw [decide_eq_false (fun h => HNI.out (List.mem_filter.1 h).1)])
            | (go_at_call 29; refine (StS.names H13.out (by omega)).mono ?_; rintro e w14 ⟨v14, l14, rfl, hl14, ho14, hb⟩; obtain ⟨A14, c14, rfl, -⟩ := own_t (n := m1) ho14 (by have := HD2.out.2.took.gone HRR.out HND.out HIN.out hl14; have := HRL.out; omega); have H14 := hide (H13.out.grow hb); clear hl14 ho14 hb H13)
            | (go_at_call 27; refine (sameTexts_any A8 A5 c8 c5 (m1 + 1) (m1 + 1) _ _ w8 HRL.out HRL.out (by omega) (by omega) HR8.out HR58.out).mono ?_; rintro e w9 ⟨rfl, hq⟩; have H9 := hide (H8.out.grow (below_drew_t hq)); have HR59 := hide (HR58.out.below (below_drew_t hq) (Nat.le_refl _)); obtain ⟨g9, o9, e9, hc9⟩ := HR59.out.get kk HKL.out; subst e9; rw [HGX.out] at hc9; unfold encStr at hc9; rw [decide_eq_true rfl]; clear hq H8)
            | (go_at_call 27; refine (sameTexts_any A5 A6 c5 c6 (m1 + 1) (m1 + 1) _ _ w6 HRL.out HRL.out (by omega) (by omega) HR56.out HR6.out).mono ?_; rintro e w7 ⟨rfl, hq⟩; have H7 := hide (H6.out.grow (below_drew_t hq)); have HR57 := hide (HR56.out.below (below_drew_t hq) (Nat.le_refl _)); rw [decide_eq_true rfl]; clear hq H6)
            | (go_at_call 26; refine (StS.list H4.out p HS.out (by omega) [] (fun l hl => by have := HAT.out.fewer hl; have := HQ.out; omega)).mono ?_; rintro e w5 ⟨v5, rfl, hls, h, hch⟩; rw [HAT.out.list] at hls h ⊢; obtain ⟨l5, hl5, ho5⟩ := hls; rw [St.under_all] at hl5; obtain rfl := HAT.out.took.lists hl5; have H5 := hide h; have HT5 := hide (HT4.out.chg hch); obtain ⟨A5, c5, rfl, hr5⟩ := own_t (n := (m1 + 1)) ho5 HRL.out; have HR5 := hide hr5; clear hl5 ho5 h hch hr5 H4 HT4; unfold errR)
            | (go_at_call 28; refine (rising_any Ah ch Q hv w5 HQ.out (by omega) (fun x hx => by have := HVX.out x hx; omega) HT5.out.own.row.1).mono ?_; rintro e w6 ⟨v6, rfl, ho6, hb⟩; obtain ⟨A6, c6, rfl, hr6⟩ := own_t (n := (m1 + 1)) ho6 HRL.out; have HR6 := hide hr6; have H6 := hide (H5.out.grow hb); have HR56 := hide (HR5.out.below hb (Nat.le_refl _)); clear ho6 hb hr6 H5)
            | (go_at_call 29; refine (StS.names H7.out (by omega)).mono ?_; rintro e w8 ⟨v8, l8, rfl, hl8, ho8, hb⟩; obtain rfl := HAT.out.took.lists hl8; obtain ⟨A8, c8, rfl, hr8⟩ := own_t (n := (m1 + 1)) ho8 HRL.out; have HR8 := hide hr8; have H8 := hide (H7.out.grow hb); have HR58 := hide (HR57.out.below hb (Nat.le_refl _)); clear hl8 ho8 hb hr8 H7)
            | fail)
          go_ret
          exact ⟨rfl, H14.out.below⟩
end Go.Proofs.YtipmmmmobopbmaaDoor

namespace Go.Proofs.YtipmmmmobopbmaaDoor.ListsLaw
open Go.Proofs.YtipmmmmobopbmaaDoor
open Go.RowKit Go.ChangeShapes Go.WideShapes Go.ChangeAt

set_option maxRecDepth 100000 in
theorem lifted (os : Os) (started : os.Started) (H : Type) (enc : TypeId × Value → H) :
    ReturnsInHanded {} Tryd.checked os 5 .any (fun w args => (Rows.storeListsSpec.pre enc Tryd.prog Tryd.f5 [] false w args ∧ laidMetH Tryd.prog laidErr w) ∧ sizedMet enc Tryd.prog Tryd.f5 (OpenSpec.ofChange Rows.storeListsSpec) false w args)
      (Rows.storeListsSpec.post enc Tryd.prog Tryd.f5 false true false false) := by
  refine returnsInHanded_of_change_and (C := Tryd.checked) (X := fun w _ => laidMetH Tryd.prog laidErr w) (fun _ _ _ hh h => h.of_heap hh) own started (by kernel_rfl) Tryd.func5
    (ChangeSpec.witness_shaped (enc := enc) (C := Tryd.checked) (os := os) (X := fun w _ => laidMetH Tryd.prog laidErr w) false (World.doorLaid Tryd.prog 400 os) #[.slice none 0 0, .int .i64 0] 8 rfl (World.shaped_of_RefB (by kernel_rfl) (by kernel_rfl)) (by kernel_rfl) (by kernel_rfl) (by kernel_rfl) (door_met_err os _)) ?_
  intro W base args ds gs before hval0 hW _ _ hL _
  have hval : ∀ (j : Nat) t v, Tryd.f5.params[j]? = some t → args[j]? = some v → Value.okWide Tryd.prog W .any base t v := hval0
  have hW' := hW
  obtain ⟨p, q, hA0, hV, rfl, hfz, hnd⟩ := hW
  have hA : DataW.TrodAll enc Tryd.prog W 0 (fun _ => true) true Tryd.f5.params.toList args.toList ds p := hA0
  rw [Tryd.params5] at hA hval
  obtain ⟨v0, vs0, d0, ds0, p0, q0, hargs, rfl, rfl, h0, r0⟩ := trodAll_cons hA
  obtain ⟨v1, vs1, d1, ds1, p1, q1, rfl, rfl, rfl, h1, r1⟩ := trodAll_cons r0
  obtain ⟨rfl, rfl, rfl⟩ := trodAll_nil r1
  obtain rfl : args = #[v0, v1] := by cases args; simp_all
  obtain ⟨rfl, rfl⟩ := trodVars_none hV
  obtain ⟨a0, len0, cap0, rfl⟩ := okWide_slice Tryd.underlying49 (hval 0 49 v0 rfl rfl)
  have k0 := h0
  have lt0 : ∀ x ∈ p0, x.block < W.heap.size := by obtain ⟨m, hm⟩ := k0; exact DataW.trod_lt m _ _ _ hm
  obtain ⟨xs0, rfl, le0, mx0, -, w0⟩ := txrow_of h0
  obtain ⟨a1, rfl, rfl, rfl, w1⟩ := open_int Tryd.underlying3 (hval 1 3 v1 rfl rfl) h1
  have hb1 := bounds_i64 w1
  clear hA0 hval0
  obtain ⟨ps, hsent⟩ := sents_of_err hL
  refine (lists_walk W ps hsent a0 cap0 _ xs0 rfl (by omega) w0 a1 hb1).mono fun e W' ⟨he, bel⟩ => ?_
  subst he
  exact ⟨_, rfl, _, _, _, [], _, [], hW', trodAll_mk1 (shut_bool Tryd.underlying4 _), (trodAll_cons_mk (Below.trod laidOut (by kernel_rfl) (of_decide_eq_true (by kernel_rfl)) k0 bel lt0) (trodAll_cons_mk (shut_int Tryd.underlying3 w1) trodAll_mk0)), rfl, bel.frame _, fun h => by cases h⟩

theorem row : Rows.StoreListsSaid :=
  OpenClaim.holds_of_wide 5 Tryd.f5 rfl rfl rfl rfl rfl rfl rfl ⟨rfl, rfl, rfl, rfl, rfl⟩ rfl rfl rfl rfl rfl (by kernel_rfl) Tryd.func5 (by kernel_rfl)
    (of_decide_eq_true (by kernel_rfl)) (by unfold Func.isWrapper; first | (rw [if_pos (by decide +kernel)]; kernel_rfl) | (rw [if_neg (by decide +kernel)]; exact ⟨rfl, rfl⟩))
    (fun os started H enc _ => lifted os started H enc)

theorem proved : Rows.StoreListsCardSaid :=
  Claim7.holds_tied_plain_at .later [] _ true _ true
    row (fun _ h => by cases h) (by kernel_rfl) (fun _ h => by cases h) storeLists_row_tie rfl ⟨rfl, rfl⟩ (by kernel_rfl) rfl
    (fun f fn hf hfn => by
      obtain rfl : f = 5 := Option.some.inj ((show Tryd.prog.funcNamed "cordwood/cordwoodlaw11.StoreLists" = some 5 by kernel_rfl).symm.trans hf) |>.symm
      obtain rfl : fn = Tryd.f5 := (Option.some.inj (Tryd.func5.symm.trans hfn)).symm
      exact ⟨by kernel_rfl, fun j t ht => by
        rw [Tryd.params5] at ht
        have hm : t ∈ [49, 3] := by simpa using Array.mem_of_getElem? ht
        have hall : ([49, 3].all fun u => !Tryd.prog.wantsStandIn u) = true := by kernel_rfl
        exact (show Tryd.prog.wantsStandIn t = false by simpa using List.all_eq_true.1 hall t hm)⟩)
    (by kernel_rfl)
end Go.Proofs.YtipmmmmobopbmaaDoor.ListsLaw
