/-
  A store's names and uploads: Names, Open.
  What StoreParts asks beside the store: its bounds, its rows of numbers, and the parts that it laid, plainly.
  StoreApart: uploads of one name stand apart, plainly; a row of their numbers under a walk.
  StoreOutcomes, walked.
  Maps of a store copied: maps.Clone.
  A store's Clone.
-/
import Derived.Test.YthlclknbehfloaaDoorT8
import Derived.Test.YthlclknbehfloaaDoorT4
import Derived.Test.YthlclknbehfloaaDoorT9
import Derived.Test.YthlclknbehfloaaDoorT1
import Derived.LoopTactic
import Derived.Deep.LoopGhost
import Derived.Laws.Externs
import Derived.MapKept
import Derived.Test.YthlclknbehfloaaDoorT7
import Derived.Maps.RangeWalk
namespace Go.Proofs.YthlclknbehfloaaDoor
open Go.RowKit Go.Maps Go.Sort

/-- These are the numbers, or the names, at which there is anything, rising. -/
def St.ListsI {α : Type} (f : Int → Option α) (l : List Int) : Prop := l.Pairwise (· < ·) ∧ ∀ x, x ∈ l ↔ f x ≠ none
def St.ListsS {α : Type} (f : List UInt8 → Option α) (l : List (List UInt8)) : Prop := l.Pairwise (· < ·) ∧ ∀ x, x ∈ l ↔ f x ≠ none
def OwnZ (w : World) (base : Nat) (v : Value) (l : List Int) : Prop := w.ownsRow base 3 1 v l.length (l.map (.int .i64 ·))

theorem keysI_lists {w : World} {b nn : Nat} {D0 : DataW Value} {f : Int → Option Value} (hown : w.ownsMap Tryd.prog 3 heldE b nn D0) (hat0 : ∀ k zd, D0.atKey (.int .i64 k) zd = heldV (f k) zd) {ss : List Int} (h : ss.Perm (intKeys D0)) :
    St.ListsI f (ss.mergeSort fun x y => decide (x ≤ y)) := by
  obtain ⟨es, hD, hpw, _⟩ := hown.entries intK
  obtain ⟨es', hD', hko⟩ := hown.keysOf
  obtain rfl : es = es' := by rw [hD] at hD'; simpa using hD'
  subst hD
  have hk : ∀ p ∈ es, ∃ x, p.1 = .int .i64 x := fun p hp => by
    obtain ⟨v, hv⟩ := hko p hp
    obtain ⟨x, _, hx, _⟩ := Maps.keyOf_int_inv Tryd.underlying3 hv
    exact ⟨x, hx⟩
  have hnd : (intKeys (.map es)).Nodup := by
    show (es.map fun p => Go.intOf p.1).Nodup
    refine List.pairwise_map.2 (hpw.imp_of_mem fun {p q} hp hq hne e => hne ?_)
    obtain ⟨x, hx⟩ := hk p hp
    obtain ⟨y, hy⟩ := hk q hq
    rw [hx, hy] at e ⊢
    exact congrArg _ e
  have hmem : ∀ x, x ∈ intKeys (.map es) ↔ f x ≠ none := fun x => by
    have h1 := hasV (mk := fun k : Int => Lit.int .i64 k) hat0 x
    have h2 : f x ≠ none ↔ Maps.has (.map es) (Lit.int .i64 x) = true := by rw [h1]; cases f x <;> simp
    rw [h2, has_eq, List.any_eq_true]
    show x ∈ es.map (fun p => Go.intOf p.1) ↔ _
    rw [List.mem_map]
    constructor
    · rintro ⟨p, hp, rfl⟩
      obtain ⟨y, hy⟩ := hk p hp
      exact ⟨p, hp, by rw [hy]; simp [Lit.sameKey, Go.intOf]⟩
    · rintro ⟨p, hp, hs⟩
      obtain ⟨y, hy⟩ := hk p hp
      rw [hy] at hs
      exact ⟨p, hp, by rw [hy]; simpa [Lit.sameKey, Go.intOf] using hs⟩
  have hp2 : (ss.mergeSort fun x y => decide (x ≤ y)).Perm (intKeys (.map es)) := (List.mergeSort_perm ss _).trans h
  refine ⟨?_, fun x => (hp2.mem_iff).trans (hmem x)⟩
  have hle : (ss.mergeSort fun x y => decide (x ≤ y)).Pairwise (fun a b => decide (a ≤ b) = true) :=
    List.pairwise_mergeSort (fun a b c h1 h2 => by simp only [decide_eq_true_eq] at *; omega) (fun a b => by simp only [Bool.or_eq_true, decide_eq_true_eq]; omega) ss
  have hne : (ss.mergeSort fun x y => decide (x ≤ y)).Nodup := hp2.nodup_iff.2 hnd
  refine (hle.and hne).imp fun {a b} hab => ?_
  have h1 : a ≤ b := of_decide_eq_true hab.1
  have h2 := hab.2
  omega
theorem keysS_lists {w : World} {b nn : Nat} {D0 : DataW Value} {f : List UInt8 → Option Value} (hown : w.ownsMap Tryd.prog 9 heldE b nn D0) (hat0 : ∀ k zd, D0.atKey (.string k) zd = heldV (f k) zd) {ss : List (List UInt8)} (h : ss.Perm (strKeys D0)) :
    St.ListsS f (ss.mergeSort fun x y => decide (x ≤ y)) := by
  obtain ⟨es, hD, hpw, _⟩ := hown.entries strK
  obtain ⟨es', hD', hko⟩ := hown.keysOf
  obtain rfl : es = es' := by rw [hD] at hD'; simpa using hD'
  subst hD
  have hk : ∀ p ∈ es, ∃ x, p.1 = .string x := fun p hp => by
    obtain ⟨v, hv⟩ := hko p hp
    obtain ⟨x, _, hx, _⟩ := Maps.keyOf_str Tryd.underlying9 hv
    exact ⟨x, hx⟩
  have hnd : (strKeys (.map es)).Nodup := by
    show (es.map fun p => strOf p.1).Nodup
    refine List.pairwise_map.2 (hpw.imp_of_mem fun {p q} hp hq hne e => hne ?_)
    obtain ⟨x, hx⟩ := hk p hp
    obtain ⟨y, hy⟩ := hk q hq
    rw [hx, hy] at e ⊢
    exact congrArg _ e
  have hmem : ∀ x, x ∈ strKeys (.map es) ↔ f x ≠ none := fun x => by
    have h1 := hasV (mk := fun k : List UInt8 => Lit.string k) hat0 x
    have h2 : f x ≠ none ↔ Maps.has (.map es) (Lit.string x) = true := by rw [h1]; cases f x <;> simp
    rw [h2, has_eq, List.any_eq_true]
    show x ∈ es.map (fun p => strOf p.1) ↔ _
    rw [List.mem_map]
    constructor
    · rintro ⟨p, hp, rfl⟩
      obtain ⟨y, hy⟩ := hk p hp
      exact ⟨p, hp, by rw [hy]; simp [Lit.sameKey, strOf]⟩
    · rintro ⟨p, hp, hs⟩
      obtain ⟨y, hy⟩ := hk p hp
      rw [hy] at hs
      exact ⟨p, hp, by rw [hy]; simpa [Lit.sameKey, strOf] using hs⟩
  have hp2 : (ss.mergeSort fun x y => decide (x ≤ y)).Perm (strKeys (.map es)) := (List.mergeSort_perm ss _).trans h
  refine ⟨?_, fun x => (hp2.mem_iff).trans (hmem x)⟩
  have hle : (ss.mergeSort fun x y => decide (x ≤ y)).Pairwise (fun a b => decide (a ≤ b) = true) :=
    List.pairwise_mergeSort (fun a b c h1 h2 => by simp only [decide_eq_true_eq] at *; exact List.le_trans h1 h2) (fun a b => by simp only [Bool.or_eq_true, decide_eq_true_eq]; exact List.le_total a b) ss
  have hne : (ss.mergeSort fun x y => decide (x ≤ y)).Nodup := hp2.nodup_iff.2 hnd
  refine (hle.and hne).imp fun {a b} hab => ?_
  have h1 : a ≤ b := of_decide_eq_true hab.1
  rcases Nm.tx_tri a b with e | e | e
  · exact e
  · exact absurd e hab.2
  · exact absurd e (List.not_lt.2 h1)

theorem OwnZ.mono {w : World} {base base' : Nat} {v : Value} {l : List Int} (h : OwnZ w base v l) (hb : base' ≤ base) : OwnZ w base' v l := by
  obtain ⟨h1, h2⟩ := h
  refine ⟨h1, ?_⟩
  rcases h2 with h2 | ⟨g, cap, cur, hv, hg, r⟩
  · exact .inl h2
  · exact .inr ⟨g, cap, cur, hv, by omega, r⟩
set_option maxRecDepth 100000 in
theorem StS.openOf {w0 w : World} {S D : Nat → Prop} {sb n : Nat} {s : St.S} (h : StS w0 S D sb s n w) (hn : n ≤ 1000000) :
    Calls Tryd.prog 20 #[.pointer (some ⟨sb, 0, none⟩)] w fun e w' => ∃ v l, e = .returned v ∧ St.ListsI s.ups l ∧ OwnZ w' w.heap.size v l ∧ Below w.heap.size w w' := by
  obtain ⟨ob, ub, sv, ov, pb, pv, hL⟩ := h.st
  obtain ⟨D0, hown, hat0⟩ := hL.ups.ex
  have hsz := hown.size_le
  have c : w.cell? ⟨sb, 1, none⟩ = some (.map (some ub)) := box_cell hL.box 1
  have hS := callsIn_wide.1 (lay_slices_Sorted_keysI ub n D0 heldE w hown (by simp only [maxLen]; omega) (by omega))
  have hK := fun (mb : Option Nat) (W : World) => callsIn_wide.1 (lay_maps_KeysI mb W)
  have hov : ∀ x, upV pb s x ≠ none ↔ s.ups x ≠ none := fun x => by simp [upV]
  have HL := hide (fun (ss : List Int) (hp : ss.Perm (intKeys D0)) => (show St.ListsI s.ups (ss.mergeSort fun x y => decide (x ≤ y)) from ⟨(keysI_lists hown hat0 hp).1, fun x => ((keysI_lists hown hat0 hp).2 x).trans (hov x)⟩))
  have HS := hide hS
  have HK := hide hK
  clear h hL hS hK hown hat0 hsz hov
  go_enter Tryd.func20, Tryd.ntmps20
  go_wp2_with (first
    | (go_at_call 49; refine (HK.out _ _).mono ?_; rintro e w1 ⟨rfl, rfl⟩)
    | (go_at_call 48; refine HS.out.mono ?_; rintro e w2 ⟨v, ss, rfl, hp, hrow, -, hb2⟩; have HRO := hide hrow; have HB := hide hb2; have HP := hide hp; clear hrow hb2 hp)
    | fail)
  go_ret
  have hlen : (ss.mergeSort fun x y => decide (x ≤ y)).length = ss.length := by simp
  refine ⟨_, _, rfl, HL.out ss HP.out, ?_, (balloc (Below.refl _ _) _).trans (HB.out.mono (by simp))⟩
  refine OwnZ.mono (base := (w.alloc (.cells #[.map (some ub)] 57)).heap.size) ?_ (by simp)
  unfold OwnZ
  rw [hlen]
  exact HRO.out
end Go.Proofs.YthlclknbehfloaaDoor

namespace Go.Proofs.YthlclknbehfloaaDoor
open Go.RowKit Go.Maps Go.ChangeShapes Go.WideShapes Go.ChangeAt

theorem ReadsAll.at_ {w : World} {A : Option Addr} {ps : List Part} (h : ReadsAll w A ps) (k : Nat) (hk : k < ps.length) : ∃ b off, A = some ⟨b, off, none⟩ ∧ b < w.heap.size ∧ w.cell? ⟨b, off + k, none⟩ = some ps[k].val ∧ Reads w ps[k].a ps[k].l := by
  rcases h with h | ⟨b, off, e, hlt, hc⟩
  · rw [h] at hk; simp at hk
  · exact ⟨b, off, e, hlt, (hc k hk).1, (hc k hk).2.2⟩
theorem textArgs_of {H : Type} {enc : TypeId × Value → H} {W : World} {base : Nat} {held : Bool} {a : Option Addr} {len cap : Nat} {d : DataW H} {p : List MemPlace}
    (h : DataW.Trod enc Tryd.prog W base (fun _ => true) held 96 (.slice a len cap) d p) : ∃ ps : List Part, ps.length = len ∧ len ≤ cap ∧ cap ≤ 9223372036854775807 ∧ ReadsAll W a ps ∧ ∀ k (h : k < ps.length), ps[k].l.length ≤ ps[k].cap ∧ ps[k].cap ≤ 9223372036854775807 ∧ (ps[k].a = none → ps[k].cap = 0) := by
  obtain ⟨fuel, hf⟩ := h
  rcases Go.Deep.open_int_rows Tryd.underlying96 Tryd.underlying22 Tryd.underlying5 cells_bytes cells_u8 hf with ⟨hcs, _⟩ | ⟨x, l, c, A, L, C, Z, hcs, _, hl, hm, _, hrow⟩
  · simp [Value.cells] at hcs
    obtain ⟨rfl, rfl, rfl⟩ := hcs
    exact ⟨[], rfl, Nat.le_refl _, by omega, .inl rfl, fun k h => by simp at h⟩
  · simp [Value.cells] at hcs
    obtain ⟨rfl, rfl, rfl⟩ := hcs
    refine ⟨(List.range len).map fun r => ⟨A r, C r, ((Z r).take (L r)).map fun z => UInt8.ofNat z.toNat⟩, by simp, hl, by simpa [maxLen] using hm, ?_, fun k hk => ?_⟩
    rotate_left
    · have hk' : k < len := by simpa using hk
      obtain ⟨r1, r2, r3, r4, r5, r6, r7⟩ := hrow k (by omega)
      have hlen : (((Z k).take (L k)).map fun z => UInt8.ofNat z.toNat).length = L k := by simp; omega
      simp only [List.getElem_map, List.getElem_range]
      refine ⟨by omega, by simpa [maxLen] using r3, fun e => ?_⟩
      have := r6 e; omega
    by_cases h0 : len = 0
    · subst h0; exact .inl (by simp)
    · obtain ⟨b, off, spot⟩ := x
      have hc := (hrow 0 (by omega)).1
      have hspot : spot = none := by simpa [Addr.add] using World.cell?_spot hc
      subst hspot
      refine .inr ⟨b, off, rfl, ?_, fun k hk => ?_⟩
      · rcases Nat.lt_or_ge b W.heap.size with h | h
        · exact h
        · exfalso
          simp [World.cell?, Addr.add, Array.getElem?_eq_none h] at hc
      · have hk' : k < len := by simpa using hk
        obtain ⟨r1, r2, r3, r4, r5, r6, r7⟩ := hrow k (by omega)
        have hlen : (((Z k).take (L k)).map fun z => UInt8.ofNat z.toNat).length = L k := by simp; omega
        rw [Addr.add_lit] at r1
        simp only [List.getElem_map, List.getElem_range]
        refine ⟨?_, ?_, ?_⟩
        · rw [r1]; unfold Part.val; simp only; rw [hlen]
        · rw [hlen]; have : C k ≤ maxLen := r3; unfold maxLen at this; omega
        · cases hA : A k with
          | none =>
            refine .inl (List.eq_nil_of_length_eq_zero ?_)
            rw [hlen]; have := r6 hA; omega
          | some a' => exact reads_of_ints r2 r4 r5 (r7 a' hA).2
set_option maxHeartbeats 400000 in
theorem sameInts_any (A A' : Option Addr) (cap cap' n n' : Nat) (l m : List Int) (w : World) (hn : l.length = n) (hn' : m.length = n') (hl : n ≤ 1000000) (hl' : n' ≤ 1000000) (hr : IntsArg w A cap l) (hr' : IntsArg w A' cap' m) :
    Calls Tryd.prog 19 #[.slice A n cap, .slice A' n' cap'] w fun e w' => e = .returned (.bool (decide (l = m))) ∧ ∃ k, w' = w.drewN k := by
  by_cases hlen : n = n'
  · subst hlen
    have HR := hide hr
    have HR' := hide hr'
    have HN := hide hn
    have HN' := hide hn'
    clear hr hr' hn hn'
    go_enter Tryd.func19, Tryd.ntmps19
    go_wp2
    go_loopw [5] (fun i wr => ∃ k : Nat, k ≤ n ∧ i = .int .i64 k ∧ l.take k = m.take k ∧ ∃ q, wr = w.drewN q) (fun i _ => n - (intOf i).toNat)
    case atStart => exact ⟨0, Nat.zero_le _, rfl, by simp, 0, rfl⟩
    case round =>
      obtain ⟨k, hk, rfl, htk, q, rfl⟩ := hrel
      have HTK := hide htk
      clear htk
      by_cases hlt : k < n
      · have hkl : k < l.length := by rw [HN.out]; exact hlt
        have hkm : k < m.length := by rw [HN'.out]; exact hlt
        obtain ⟨b, off, rfl, hcell⟩ := HR.out.get k hkl
        obtain ⟨b', off', rfl, hcell'⟩ := HR'.out.get k hkm
        have HL : Hid (l.take (k + 1) = l.take k ++ [l.getD k 0]) := by
          show _ = _; rw [List.take_succ_eq_append_getElem hkl]; simp [List.getD, hkl]
        have HM : Hid (m.take (k + 1) = m.take k ++ [m.getD k 0]) := by
          show _ = _; rw [List.take_succ_eq_append_getElem hkm]; simp [List.getD, hkm]
        clear hkl hkm
        generalize l.getD k 0 = x at *
        generalize m.getD k 0 = y at *
        by_cases hxy : x = y
        · subst hxy
          go_wp2
          go_quiet (fail)
          go_wp2
          go_roundw
          case rel => exact ⟨k + 1, by omega, by go_num, by rw [HL.out, HM.out, HTK.out], _, rfl⟩
          case measure => simp [intOf]; omega
        · have hne : (x == y) = false := beq_eq_false_iff_ne.2 hxy
          have HD : Hid (decide (l = m) = false) := by
            show _ = _
            rw [decide_eq_false_iff_not]
            intro e
            have h2 := HM.out
            rw [← e, HL.out, e] at h2
            have h3 := List.append_cancel_left h2
            simp at h3
            exact hxy h3
          clear hxy
          go_wp2
          go_quiet (fail)
          go_wp2
          go_ret
          exact ⟨by rw [HD.out]; rfl, _, rfl⟩
      · have HE : Hid (decide (l = m) = true) := by
          show _ = _
          rw [decide_eq_true_iff]
          have hkn : k = n := by omega
          have := HTK.out
          rw [hkn] at this
          rwa [show l.take n = l from by rw [← HN.out, List.take_length], show m.take n = m from by rw [← HN'.out, List.take_length]] at this
        go_wp2
        go_ret
        exact ⟨by rw [HE.out]; rfl, _, rfl⟩
  · have hd : decide (l = m) = false := by
      rw [decide_eq_false_iff_not]
      intro e; rw [e] at hn; omega
    rw [hd]
    clear hd hn hn' hr hr'
    go_enter Tryd.func19, Tryd.ntmps19
    go_wp2
    go_ret
    exact ⟨rfl, 0, rfl⟩
theorem OwnZ.ints {w : World} {base : Nat} {v : Value} {l : List Int} (h : OwnZ w base v l) (hz : ∀ z ∈ l, -9223372036854775808 ≤ z ∧ z ≤ 9223372036854775807) : ∃ A c, v = .slice A l.length c ∧ IntsArg w A c l := by
  rcases h.2 with ⟨e, h0⟩ | ⟨g, cap, cur, e, hg, hh, hc, hm, hs, ht⟩
  · exact ⟨none, 0, by rw [e, h0], ⟨by omega, by omega, fun _ => rfl, fun j hj => by omega, hz⟩⟩
  · refine ⟨_, cap, e, ⟨hc, by simpa [maxLen] using hm, fun e => (by cases e), fun j hj => ⟨g, 0, rfl, ?_⟩, hz⟩⟩
    have hc := World.ownsRow.cells (g := g) h (by rw [e]; rfl) j (.int .i64 (l.getD j 0)) (by simp [List.getD, hj])
    rwa [Addr.add_lit, Nat.zero_add] at *
theorem own_z {w : World} {base n : Nat} {v : Value} {l : List Int} (h : OwnZ w base v l) (hn : l.length = n) (hz : ∀ z ∈ l, -9223372036854775808 ≤ z ∧ z ≤ 9223372036854775807) : ∃ A c, v = .slice A n c ∧ IntsArg w A c l := by
  subst hn; exact h.ints hz
theorem St.lists_nil {α : Type} {f : Int → Option α} {l : List Int} (h : St.ListsI f l) (hf : ∀ x, f x = none) : l = [] :=
  List.eq_nil_iff_forall_not_mem.2 fun x hx => (h.2 x).1 hx (hf x)
theorem St.lists_one {α : Type} {f : Int → Option α} {l : List Int} (h : St.ListsI f l) (z : Int) (h1 : f z ≠ none) (hf : ∀ x, x ≠ z → f x = none) : l = [z] := by
  obtain ⟨hp, hm⟩ := h
  match l, hp, hm with
  | [], _, hm => exact absurd ((hm z).2 h1) (by simp)
  | [a], _, hm =>
    have : a = z := by
      by_cases e : a = z
      · exact e
      · exact absurd (hf a e) ((hm a).1 (by simp))
    rw [this]
  | a :: b :: t, hp, hm =>
    have e1 : a = z := Classical.byContradiction fun e => (hm a).1 (by simp) (hf a e)
    have e2 : b = z := Classical.byContradiction fun e => (hm b).1 (by simp) (hf b e)
    have := (List.pairwise_cons.1 hp).1 b (by simp)
    omega
theorem St.ask_free {α : Type} (s : St.S) (h : s.script = []) (z : α) (f : St.S → (α × Option Nat) × St.S) : s.ask z f = f s.took := by
  have ho : s.out = 0 := by simp [St.S.out, h]
  unfold St.S.ask
  rw [ho, if_neg (by omega), if_neg (by omega)]
theorem below_drew_q {w w' : World} (h : ∃ k, w' = w.drewN k) : Below w.heap.size w w' := by
  obtain ⟨q, rfl⟩ := h; exact below_drewN (Below.refl _ _) q
theorem StS.setB {w0 w : World} {S D : Nat → Prop} {sb n : Nat} {s : St.S} (h : StS w0 S D sb s n w) (b i : Nat) (v : Value) (hS : ¬ S b) (hD : ¬ D b) (h0 : w0.heap.size ≤ b) : StS w0 S D sb s n (w.setCell ⟨b, i, none⟩ v) :=
  ⟨h.st.kept (by simp) fun k hk _ => Below.heap_setCell _ _ _ _ (by show k ≠ b; rintro rfl; rcases hk with hk | hk; exact hS hk; exact hD hk), h.lo, h.below.setCell (p := ⟨b, i, none⟩) h0 v, h.calls, h.failed⟩
/-- One upload, open, with these parts of it. -/
structure St.AtP (k : St.Nm) (f : Int → Option (List UInt8)) (s : St.S) : Prop where
  script : s.script = []
  up : s.ups 1 = some ⟨k, f⟩
  ups : ∀ x, x ≠ 1 → s.ups x = none
  obj : s.objs k = none
structure St.AtQ (k : St.Nm) (b : Option (List UInt8)) (s : St.S) : Prop where
  script : s.script = []
  ups : ∀ x, s.ups x = none
  obj : s.objs k = b
theorem St.start_p (k : St.Nm) (hv : Dk.valid k = true) : (St.S.new.start k).1 = (1, none) ∧ St.AtP k (fun _ => none) (St.S.new.start k).2 := by
  unfold St.S.start
  rw [St.ask_free _ rfl]
  unfold St.S.startF
  rw [if_pos hv]
  exact ⟨rfl, rfl, by simp [St.upd, St.S.took, St.S.new], fun x hx => by simp [St.upd, St.S.took, St.S.new, hx], rfl⟩
theorem St.took_plain {s : St.S} (h : s.script = []) : s.took.script = [] ∧ s.took.ups = s.ups ∧ s.took.objs = s.objs := ⟨by simp [St.S.took, h], rfl, rfl⟩
theorem St.AtP.part {k : St.Nm} {f : Int → Option (List UInt8)} {s : St.S} (h : St.AtP k f s) (n : Int) (hn : 0 ≤ n ∧ n < 256) (b : List UInt8) : (s.part 1 n b).1.2 = none ∧ St.AtP k (St.upd f n (some b)) (s.part 1 n b).2 := by
  obtain ⟨h1, h2, h3⟩ := St.took_plain h.script
  unfold St.S.part
  rw [St.ask_free _ h.script]
  unfold St.S.partF
  rw [h2, h.up]
  simp only
  rw [if_neg (by omega)]
  exact ⟨rfl, h1, by simp [St.upd], fun x hx => by simp [St.upd, hx]; exact h.ups x hx, by rw [← h.obj, ← h3]⟩
theorem St.AtP.comp_bad {k : St.Nm} {f : Int → Option (List UInt8)} {s : St.S} (h : St.AtP k f s) (n : Nat) (hn : n ≤ 256) (hj : St.joinN f n = none) : (s.comp 1 n).1.2 = some 4 ∧ St.AtP k f (s.comp 1 n).2 := by
  obtain ⟨h1, h2, h3⟩ := St.took_plain h.script
  unfold St.S.comp
  rw [St.ask_free _ h.script]
  unfold St.S.compF
  rw [h2, h.up]
  simp only
  rw [if_neg (by omega), Int.toNat_natCast, hj]
  exact ⟨rfl, h1, h2 ▸ h.up, h2 ▸ h.ups, h3 ▸ h.obj⟩
theorem St.AtP.comp {k : St.Nm} {f : Int → Option (List UInt8)} {s : St.S} (h : St.AtP k f s) (n : Nat) (hn : n ≤ 256) (b : List UInt8) (hj : St.joinN f n = some b) : (s.comp 1 n).1.2 = none ∧ St.AtQ k (some b) (s.comp 1 n).2 := by
  obtain ⟨h1, h2, h3⟩ := St.took_plain h.script
  unfold St.S.comp
  rw [St.ask_free _ h.script]
  unfold St.S.compF
  rw [h2, h.up]
  simp only
  rw [if_neg (by omega), Int.toNat_natCast, hj]
  refine ⟨rfl, h1, fun x => ?_, by simp [St.upd]⟩
  by_cases e : x = 1
  · simp [St.upd, e]
  · simp [St.upd, e]; exact h.ups x e
theorem St.AtP.abort {k : St.Nm} {f : Int → Option (List UInt8)} {s : St.S} (h : St.AtP k f s) : (s.abort 1).1.2 = none ∧ St.AtQ k none (s.abort 1).2 := by
  obtain ⟨h1, h2, h3⟩ := St.took_plain h.script
  unfold St.S.abort
  rw [St.ask_free _ h.script]
  unfold St.S.abortF
  rw [h2, h.up]
  refine ⟨rfl, h1, fun x => ?_, h3 ▸ h.obj⟩
  by_cases e : x = 1
  · simp [St.upd, e]
  · simp [St.upd, e]; exact h.ups x e
theorem St.AtQ.part {k : St.Nm} {o : Option (List UInt8)} {s : St.S} (h : St.AtQ k o s) (z n : Int) (b : List UInt8) : (s.part z n b).1.2 = some 6 ∧ St.AtQ k o (s.part z n b).2 := by
  obtain ⟨h1, h2, h3⟩ := St.took_plain h.script
  unfold St.S.part
  rw [St.ask_free _ h.script]
  unfold St.S.partF
  rw [h2, h.ups z]
  exact ⟨rfl, h1, h2 ▸ h.ups, h3 ▸ h.obj⟩
theorem St.AtQ.comp {k : St.Nm} {o : Option (List UInt8)} {s : St.S} (h : St.AtQ k o s) (z n : Int) : (s.comp z n).1.2 = some 6 ∧ St.AtQ k o (s.comp z n).2 := by
  obtain ⟨h1, h2, h3⟩ := St.took_plain h.script
  unfold St.S.comp
  rw [St.ask_free _ h.script]
  unfold St.S.compF
  rw [h2, h.ups z]
  exact ⟨rfl, h1, h2 ▸ h.ups, h3 ▸ h.obj⟩
theorem St.joinN_len {f : Int → Option (List UInt8)} (B : Nat) (hf : ∀ x b, f x = some b → b.length ≤ B) : ∀ (n : Nat) (b : List UInt8), St.joinN f n = some b → b.length ≤ B * n
  | 0, b, h => by cases h; simp
  | n + 1, b, h => by
    unfold St.joinN at h
    cases h1 : St.joinN f n with
    | none => simp [h1] at h
    | some a =>
      cases h2 : f n with
      | none => simp [h1, h2] at h
      | some c =>
        simp [h1, h2] at h
        subst h
        have := St.joinN_len B hf n a h1
        have := hf _ _ h2
        rw [List.length_append, Nat.mul_succ]; omega
/-- The parts that so many rounds laid. -/
def partsP (ls : List (List UInt8)) (ks : Nat → Nat) : Nat → Int → Option (List UInt8)
  | 0 => fun _ => none
  | j + 1 => St.upd (partsP ls ks j) (ks j : Nat) (some (ls.getD (ks j) []))
theorem partsP_some (ls : List (List UInt8)) (ks : Nat → Nat) : ∀ (j : Nat) (x : Nat) (b : List UInt8), partsP ls ks j x = some b → b = ls.getD x []
  | 0, x, b, h => by cases h
  | j + 1, x, b, h => by
    unfold partsP St.upd at h
    split at h
    · next e => have : x = ks j := by omega
                subst this; exact (Option.some.inj h).symm
    · exact partsP_some ls ks j x b h
theorem partsP_len (ls : List (List UInt8)) (ks : Nat → Nat) (B : Nat) (hB : ∀ l ∈ ls, l.length ≤ B) : ∀ (j : Nat) (x : Int) (b : List UInt8), partsP ls ks j x = some b → b.length ≤ B
  | 0, x, b, h => by cases h
  | j + 1, x, b, h => by
    unfold partsP St.upd at h
    split at h
    · have := Option.some.inj h
      subst this
      by_cases hk : ks j < ls.length
      · have := hB _ (List.getElem_mem hk); simpa [List.getD, hk] using this
      · simp [List.getD, hk]
    · exact partsP_len ls ks B hB j x b h
theorem upd_upd {κ α : Type} [DecidableEq κ] (f : κ → Option α) (k : κ) (u v : Option α) : St.upd (St.upd f k u) k v = St.upd f k v := by
  funext x; unfold St.upd; split <;> rfl
/-- Whether one of the first is missing. -/
def missP (f : Int → Option (List UInt8)) : Nat → Bool
  | 0 => false
  | i + 1 => missP f i || (f (i : Nat)).isNone
theorem missP_true {f : Int → Option (List UInt8)} : ∀ {n : Nat}, missP f n = true → St.joinN f n = none
  | 0, h => by cases h
  | n + 1, h => by
    unfold missP at h
    unfold St.joinN
    rcases Bool.or_eq_true_iff.1 h with h | h
    · rw [missP_true h]
    · have : f (n : Nat) = none := by simpa using h
      rw [this]; split <;> simp_all
theorem missP_false {f : Int → Option (List UInt8)} {ps : List Part} : ∀ {n : Nat}, n ≤ ps.length → (∀ (x : Nat) b, f x = some b → b = (ps.map Part.l).getD x []) → missP f n = false → St.joinN f n = some (flat (ps.take n))
  | 0, _, _, _ => by simp [St.joinN, flat]
  | n + 1, hn, hf, h => by
    unfold missP at h
    obtain ⟨h1, h2⟩ := Bool.or_eq_false_iff.1 h
    have ih := missP_false (n := n) (by omega) hf h1
    cases h3 : f (n : Nat) with
    | none => simp [h3] at h2
    | some b =>
      have hb := hf n b h3
      unfold St.joinN
      rw [ih, h3]
      simp only
      have e : ps.take (n + 1) = ps.take n ++ [ps[n]] := List.take_succ_eq_append_getElem (by omega)
      have e2 : flat (ps.take n ++ [ps[n]]) = flat (ps.take n) ++ ps[n].l := by unfold flat; rw [List.flatMap_append]; simp
      rw [e, e2, hb]
      simp [List.getD, show n < ps.length by omega]
end Go.Proofs.YthlclknbehfloaaDoor

namespace Go.Proofs.YthlclknbehfloaaDoor
open Go.RowKit Go.Maps

theorem int_infoZ : (Tryd.prog.info? 3).map (fun i => (i.zero, i.size, i.bytes)) = some (some (.int .i64 0), 1, 8) := by kernel_rfl
section
variable {w : World} {ops : Array Oper} {rest : List Oper} {o : Oper} {a : Act} {Q : Exit → Act → World → Prop}
/-- append(s, z), s the call's own numbers. -/
theorem wpList_appZ (hgd : o.guard = none) (s x : Operand) (ho : o.op = .call { callee := .builtin .append, args := #[s, x], argTypes := #[23, 23] })
    (base : Nat) (v : Value) (l : List Int) (z : Int) (hs : a.eval s = v) (hown : OwnZ w base v l) (ad : Addr) (hx : a.eval x = .slice (some ad) 1 1) (hr : w.cell? (ad.add 0) = some (.int .i64 z))
    (hlen : l.length ≤ 1000000) (hbase : base ≤ w.heap.size)
    (h : ∀ v' w', OwnZ w' base v' (l ++ [z]) → w.grownBy w' v.ownBlock → (v'.ownBlock = v.ownBlock ∨ v'.ownBlock = some w.heap.size) → wpList Tryd.prog ops Q rest (a.put o.dst v') w') : wpList Tryd.prog ops Q (o :: rest) a w := by
  obtain ⟨i, hi, hz, hs1, hby⟩ := info_parts int_infoZ
  refine wpList_plain hgd fun K hK => ?_
  obtain ⟨v', w', hrun, h2, h3, _, h5⟩ := run_append_own_at (P := Tryd.prog) w base 23 o.type 3 i _ 1 8 Tryd.underlying23 hi hz hs1 hby rfl (by omega) v l.length (l.map (.int .i64 ·)) hown ad 1 1 [.int .i64 z] (by simp) (fun j u hu => by
      match j, hu with
      | 0, hu => simp only [List.getElem?_cons_zero, Option.some.injEq] at hu; subst hu; exact hr
      | j + 1, hu => simp at hu) (fun u hu => by simp only [List.mem_singleton] at hu; subst hu; rfl)
    (by simp only [maxLen]; omega) (by omega) hbase
  unfold Oper.wp execOp
  simp only [ho, resolve, invoke, builtin, Sem.run_bind, Sem.run_pure, Result.andThen_ok, List.map_toArray, List.map_cons, List.map_nil, hs, hx, hrun]
  refine hK _ _ (h v' w' ?_ h3 h5)
  unfold OwnZ
  rw [List.length_append, List.map_append]
  exact h2
end
/-- A row of numbers of the call's own, apart from a store. -/
structure Zr (S D : Nat → Prop) (B : Nat) (v : Value) (l : List Int) (w : World) : Prop where
  own : OwnZ w B v l
  ns : ∀ g, v.ownBlock = some g → ¬ S g ∧ ¬ D g
section
variable {S D S' D' : Nat → Prop} {B : Nat} {v : Value} {l : List Int} {w w' : World}
theorem Zr.lt (h : Zr S D B v l w) : ∀ g, v.ownBlock = some g → B ≤ g ∧ g < w.heap.size := World.ownsRow.lt h.own
theorem Zr.below (h : Zr S D B v l w) (hw : Below w.heap.size w w') : Zr S D B v l w' := ⟨ownsRow_same h.own fun g hg => hw.block g (h.lt g hg).2, h.ns⟩
theorem Zr.go (h : Zr S D B v l w) (hg : StGo S D S' D' w w') : Zr S' D' B v l w' :=
  ⟨ownsRow_same h.own fun g e => hg.chg.block g (h.lt g e).2 (h.ns g e).1, fun g e => ⟨fun hk => by
    rcases hg.s _ hk with h1 | h1
    · exact (h.ns g e).1 h1
    · have := (h.lt g e).2; omega, fun hk => by
    rcases hg.d _ hk with h1 | h1
    · exact (h.ns g e).2 h1
    · have := (h.lt g e).2; omega⟩⟩
theorem Zr.at_ (h : Zr S D B v l w) (n : Nat) (hn : l.length = n) : ∃ A c, v = .slice A n c ∧ ∀ k, k < n → ∃ g, A = some ⟨g, 0, none⟩ ∧ n ≤ c ∧ w.cell? ⟨g, k, none⟩ = some (.int .i64 (l.getD k 0)) := by
  subst hn
  rcases h.own.2 with ⟨e, e2⟩ | ⟨g, cap, cur, e, _, hh, hcap, _⟩
  · exact ⟨none, 0, by rw [e, e2], fun k hk => by omega⟩
  · refine ⟨_, cap, e, fun k hk => ⟨g, rfl, by omega, ?_⟩⟩
    have hc := World.ownsRow.cells (g := g) h.own (by rw [e]; rfl) k (.int .i64 (l.getD k 0)) (by simp [List.getD, hk])
    rwa [Addr.add_lit, Nat.zero_add] at hc
end
namespace St
structure AtU (k : Nm) (last : Int) (U : Int → Option Up) (O : Option (List UInt8)) (s : S) : Prop where
  script : s.script = []
  last : s.last = last
  ups : s.ups = U
  obj : s.objs k = O
variable {k : Nm} {last : Int} {U : Int → Option Up} {O : Option (List UInt8)} {s : S}
theorem AtU.start (h : AtU k last U O s) (hv : Dk.valid k = true) : (s.start k).1 = (last + 1, none) ∧ AtU k (last + 1) (upd U (last + 1) (some ⟨k, fun _ => none⟩)) O (s.start k).2 := by
  obtain ⟨h1, h2, h3⟩ := took_plain h.script
  have h4 : s.took.last = s.last := rfl
  unfold S.start
  rw [ask_free _ h.script]
  unfold S.startF
  rw [if_pos hv]
  exact ⟨by rw [h4, h.last], h1, by rw [h4, h.last], by rw [h4, h.last, h2, h.ups], by rw [← h.obj, ← h3]⟩
theorem AtU.part (h : AtU k last U O s) (id n : Int) (hn : 0 ≤ n ∧ n < 256) (b : List UInt8) (u : Up) (hu : U id = some u) : (s.part id n b).1.2 = none ∧ AtU k last (upd U id (some { u with parts := upd u.parts n (some b) })) O (s.part id n b).2 := by
  obtain ⟨h1, h2, h3⟩ := took_plain h.script
  have h4 : s.took.last = s.last := rfl
  unfold S.part
  rw [ask_free _ h.script]
  unfold S.partF
  rw [h2, h.ups, hu]
  simp only
  rw [if_neg (by omega)]
  exact ⟨rfl, h1, by rw [← h.last, ← h4], rfl, by rw [← h.obj, ← h3]⟩
theorem AtU.comp (h : AtU k last U O s) (id : Int) (n : Nat) (hn : n ≤ 256) (b : List UInt8) (u : Up) (hu : U id = some u) (hk : u.name = k) (hj : joinN u.parts n = some b) : (s.comp id n).1.2 = none ∧ AtU k last (upd U id none) (some b) (s.comp id n).2 := by
  obtain ⟨h1, h2, h3⟩ := took_plain h.script
  have h4 : s.took.last = s.last := rfl
  unfold S.comp
  rw [ask_free _ h.script]
  unfold S.compF
  rw [h2, h.ups, hu]
  simp only
  rw [if_neg (by omega), Int.toNat_natCast, hj]
  exact ⟨rfl, h1, by rw [← h.last, ← h4], rfl, by rw [hk]; simp [upd]⟩
/-- The one part of each. -/
def pA (a : List UInt8) (j : Nat) : Int → Option (List UInt8) := upd (fun _ => none) 0 (some (a ++ [UInt8.ofNat j]))
def UA (k : Nm) (a : List UInt8) : Nat → Int → Option Up
  | 0 => fun _ => none
  | j + 1 => upd (upd (UA k a j) ((j : Int) + 1) (some ⟨k, fun _ => none⟩)) ((j : Int) + 1) (some ⟨k, pA a j⟩)
theorem UA_at (k : Nm) (a : List UInt8) : ∀ (n i : Nat), i < n → UA k a n ((i : Int) + 1) = some ⟨k, pA a i⟩
  | 0, i, h => by omega
  | n + 1, i, h => by
    unfold UA
    by_cases e : i = n
    · subst e; simp [upd]
    · have e2 : ¬ (i : Int) + 1 = (n : Int) + 1 := by omega
      simp only [upd, if_neg e2]
      exact UA_at k a n i (by omega)
theorem UA_none (k : Nm) (a : List UInt8) : ∀ (n : Nat) (x : Int), ¬ (1 ≤ x ∧ x ≤ n) → UA k a n x = none
  | 0, x, _ => rfl
  | n + 1, x, h => by
    unfold UA
    have e2 : ¬ x = (n : Int) + 1 := by omega
    simp only [upd, if_neg e2]
    exact UA_none k a n x (by omega)
def idsL : Nat → List Int
  | 0 => []
  | j + 1 => idsL j ++ [(j : Int) + 1]
theorem idsL_len : ∀ n, (idsL n).length = n
  | 0 => rfl
  | n + 1 => by simp [idsL, idsL_len n]
theorem idsL_get : ∀ n i, i < n → (idsL n).getD i 0 = (i : Int) + 1
  | 0, i, h => by omega
  | n + 1, i, h => by
    unfold idsL
    by_cases e : i = n
    · subst e; simp [List.getD, idsL_len]
    · have := idsL_get n i (by omega)
      rw [← this]
      simp [List.getD, List.getElem?_append, idsL_len, show i < n by omega]
def leftZ (k j : Nat) : Nat → List Int
  | 0 => []
  | i + 1 => leftZ k j i ++ (if i ≠ k ∧ i ≠ j then [(i : Int) + 1] else [])
theorem leftZ_mem (k j : Nat) : ∀ (n : Nat) (x : Int), x ∈ leftZ k j n ↔ (1 ≤ x ∧ x ≤ n ∧ x ≠ (k : Int) + 1 ∧ x ≠ (j : Int) + 1)
  | 0, x => by simp [leftZ]; omega
  | n + 1, x => by
    unfold leftZ
    rw [List.mem_append, leftZ_mem k j n x]
    split
    · simp only [List.mem_singleton]; omega
    · simp only [List.not_mem_nil, or_false]; omega
theorem leftZ_rise (k j : Nat) : ∀ n : Nat, (leftZ k j n).Pairwise (· < ·)
  | 0 => List.Pairwise.nil
  | n + 1 => by
    unfold leftZ
    rw [List.pairwise_append]
    refine ⟨leftZ_rise k j n, by split <;> simp, fun x hx y hy => ?_⟩
    have := (leftZ_mem k j n x).1 hx
    split at hy
    · simp at hy; omega
    · simp at hy
theorem leftZ_len (k j : Nat) : ∀ n : Nat, (leftZ k j n).length ≤ n
  | 0 => Nat.le_refl _
  | n + 1 => by
    have := leftZ_len k j n
    unfold leftZ
    rw [List.length_append]; split <;> simp <;> omega
theorem rise_eq : ∀ (l m : List Int), l.Pairwise (· < ·) → m.Pairwise (· < ·) → (∀ x, x ∈ l ↔ x ∈ m) → l = m
  | [], [], _, _, _ => rfl
  | [], b :: m, _, _, h => absurd ((h b).2 (by simp)) (by simp)
  | a :: l, [], _, _, h => absurd ((h a).1 (by simp)) (by simp)
  | a :: l, b :: m, hl, hm, h => by
    obtain ⟨l1, l2⟩ := List.pairwise_cons.1 hl
    obtain ⟨m1, m2⟩ := List.pairwise_cons.1 hm
    have e : a = b := by
      rcases List.mem_cons.1 ((h a).1 (by simp)) with h1 | h1
      · exact h1
      · rcases List.mem_cons.1 ((h b).2 (by simp)) with h2 | h2
        · exact h2.symm
        · have := m1 a h1; have := l1 b h2; omega
    subst e
    rw [rise_eq l m l2 m2 fun x => ⟨fun hx => ?_, fun hx => ?_⟩]
    · rcases List.mem_cons.1 ((h x).1 (List.mem_cons_of_mem _ hx)) with h1 | h1
      · have := l1 x hx; omega
      · exact h1
    · rcases List.mem_cons.1 ((h x).2 (List.mem_cons_of_mem _ hx)) with h1 | h1
      · have := m1 x hx; omega
      · exact h1
theorem pA_join1 (a : List UInt8) (j : Nat) : joinN (pA a j) 1 = some (a ++ [UInt8.ofNat j]) := by simp [joinN, pA, upd]
theorem pA_join2 (a b : List UInt8) (j : Nat) : joinN (upd (pA a j) 1 (some b)) 2 = some (a ++ [UInt8.ofNat j] ++ b) := by simp [joinN, pA, upd]
end St
end Go.Proofs.YthlclknbehfloaaDoor

namespace Go.Proofs.YthlclknbehfloaaDoor.St

def nmO (i : Nat) : Nm := [UInt8.ofNat (97 + i % 26), UInt8.ofNat (97 + i / 26)]
def runO (outs : List Int) : Nat → S
  | 0 => S.new.scripted outs
  | i + 1 => ((runO outs i).put (nmO i) [UInt8.ofNat i]).2
def badO (outs : List Int) : Nat → Nat
  | 0 => 0
  | i + 1 => badO outs i + (if outs.getD i 0 = 1 ∨ outs.getD i 0 = 2 then 1 else 0)
theorem nmO_valid : ∀ i, i < 30 → Dk.valid (nmO i) = true := by decide
theorem nmO_inj : ∀ i, i < 30 → ∀ j, j < 30 → nmO i = nmO j → i = j := by decide
theorem nmO_z : ∀ i, i < 30 → nmO i ≠ [122] := by decide
theorem badO_le (outs : List Int) : ∀ i, badO outs i ≤ i
  | 0 => Nat.le_refl _
  | i + 1 => by have := badO_le outs i; simp only [badO]; split <;> omega
structure AtO (outs : List Int) (i : Nat) (s : S) : Prop where
  script : s.script = outs.drop i
  calls : s.calls = i
  failed : s.failed = badO outs i
  none : ∀ j, i ≤ j → j < 30 → s.objs (nmO j) = none
theorem put_at (outs : List Int) (i : Nat) (s : S) (hi : i < outs.length) (h : AtO outs i s) (hl : outs.length ≤ 30) (b : List UInt8) :
    AtO outs (i + 1) (s.put (nmO i) b).2 ∧ (s.put (nmO i) b).1.2 = (if outs.getD i 0 = 1 ∨ outs.getD i 0 = 2 then some 10 else none) ∧ ((s.put (nmO i) b).2.objs (nmO i)).isSome = decide (outs.getD i 0 ≠ 1) := by
  have ho : s.out = outs.getD i 0 := by
    unfold S.out
    rw [h.script]
    simp [List.getD, List.head?_drop]
  have hv := nmO_valid i (by omega)
  have hn := h.none i (Nat.le_refl _) (by omega)
  have hsc : s.took.script = outs.drop (i + 1) := by simp [S.took, h.script]
  have hcl : s.took.calls = ((i + 1 : Nat) : Int) := by simp [S.took, h.calls]
  have hfl : s.took.failed = badO outs (i + 1) := by
    simp only [S.took, h.failed, badO, ho]
    split <;> simp
  have hno : ∀ j, i + 1 ≤ j → j < 30 → nmO j ≠ nmO i := fun j h1 h2 e => by have := nmO_inj j h2 i (by omega) e; omega
  have htn : ∀ j, i ≤ j → j < 30 → s.took.objs (nmO j) = .none := fun j h1 h2 => h.none j h1 h2
  unfold S.put S.ask
  rw [ho]
  generalize outs.getD i 0 = o at *
  by_cases h1 : o = 1
  · rw [if_pos h1]
    refine ⟨⟨hsc, hcl, hfl, fun j h1 h2 => htn j (by omega) h2⟩, by simp [h1], ?_⟩
    simp only
    rw [htn i (Nat.le_refl _) (by omega)]
    simp [h1]
  · rw [if_neg h1]
    have e : S.putF (nmO i) b s.took = (((), .none), { s.took with objs := upd s.took.objs (nmO i) (some b) }) := by unfold S.putF; rw [if_pos hv]
    have hat : AtO outs (i + 1) { s.took with objs := upd s.took.objs (nmO i) (some b) } := ⟨hsc, hcl, hfl, fun j h1 h2 => by
      show upd _ _ _ _ = _
      rw [upd_other _ _ _ _ (hno j h1 h2)]
      exact htn j (by omega) h2⟩
    by_cases h2 : o = 2
    · rw [if_pos h2, e]
      exact ⟨hat, by simp [h2], by simp [upd, h2]⟩
    · rw [if_neg h2, e]
      exact ⟨hat, by simp [h1, h2], by simp [upd, h1]⟩
theorem runO_at (outs : List Int) (hl : outs.length ≤ 30) : ∀ i, i ≤ outs.length → AtO outs i (runO outs i)
  | 0, _ => ⟨by simp [runO, S.scripted, S.new], rfl, rfl, fun _ _ _ => rfl⟩
  | i + 1, h => (put_at outs i _ (by omega) (runO_at outs hl i (by omega)) hl _).1
/-- The script is at its end: a call is done. -/
theorem last_at (outs : List Int) (s : S) (h : AtO outs outs.length s) : (s.put [122] []).1.2 = .none ∧ (s.put [122] []).2.failed = badO outs outs.length := by
  have hv : Dk.valid [122] = true := by decide
  have hs : s.script = [] := by rw [h.script]; simp
  have ho : s.out = 0 := by simp [S.out, hs]
  unfold S.put S.ask
  rw [ho]
  simp only [show ¬ (0 : Int) = 1 by omega, show ¬ (0 : Int) = 2 by omega, if_false, S.putF, hv, if_true]
  exact ⟨trivial, by simp [S.took, ho, h.failed]⟩
end Go.Proofs.YthlclknbehfloaaDoor.St
namespace Go.Proofs.YthlclknbehfloaaDoor
open Go.RowKit Go.Maps

theorem nmO_cells (j : Nat) (hj : j < 30) : (cells (St.nmO j)).toArray = #[.int .u8 (97 + (j : Int) % 26), .int .u8 (97 + (j : Int) / 26)] := by
  have h1 : ((UInt8.ofNat (97 + j % 26)).toNat : Int) = 97 + (j : Int) % 26 := by rw [UInt8.toNat_ofNat']; omega
  have h2 : ((UInt8.ofNat (97 + j / 26)).toNat : Int) = 97 + (j : Int) / 26 := by rw [UInt8.toNat_ofNat']; omega
  simp only [cells, St.nmO, List.map_cons, List.map_nil, byteV, B, h1, h2]
theorem byte_cells (j : Nat) (hj : j < 256) : (cells [UInt8.ofNat j]).toArray = #[.int .u8 (j : Int)] := by
  have h1 : ((UInt8.ofNat j).toNat : Int) = (j : Int) := by rw [UInt8.toNat_ofNat']; omega
  simp only [cells, List.map_cons, List.map_nil, byteV, B, h1]

end Go.Proofs.YthlclknbehfloaaDoor

namespace Go.Proofs.YthlclknbehfloaaDoor
open Go.RowKit Go.Maps

theorem map_typeS : Tryd.prog.underlying 56 = some (.map 9 22) := by kernel_rfl
set_option maxRecDepth 100000 in
/-- No map that is there equals nil. -/
theorem map_not_nilS (b : Nat) (w : World) : (binOp .eql 56 (.map (some b)) (.map none)).run Tryd.prog w = .ok (.bool false) w := by
  have h : ∀ d : Nat, (Op.equalIn (d + 1) 56 (.map (some b)) (.map none)).run Tryd.prog w = .ok false w := fun d => by simp [Op.equalIn, run_underlying map_typeS]
  simp only [binOp]
  simp [Op.equal, Op.maxDepth, h 9999]
set_option maxRecDepth 100000 in
/-- The map within an interface. -/
theorem map_withinS (b : Nat) (xT : TypeId) (w : World) : (Instr.typeAssert (.iface 56 (.map (some b))) xT 56 false).run Tryd.prog w = .ok (.map (some b)) w := by
  simp [Instr.typeAssert, run_underlying map_typeS, go_sem, Result.andThen]
set_option maxRecDepth 100000 in
/-- What the model's own clone does at a map. -/
theorem map_twinS (b : Nat) (es : Array MapEntry) (clock : Nat) (w : World) (h : w.heap[b]? = some (.map es clock)) :
    (callFunc 65 #[.iface 56 (.map (some b))]).run Tryd.prog w = .ok (.value (.iface 56 (.map (some w.heap.size)))) (w.alloc (.map es clock)) := by
  rw [run_callFunc_extern Tryd.func65 (by kernel_rfl) (by kernel_rfl) (by kernel_rfl) (e := Extern.MapsClone.clone) (by kernel_rfl)]
  have e : (Extern.MapsClone.clone #[.iface 56 (.map (some b))]).run Tryd.prog w = .ok (.iface 56 (.map (some w.heap.size))) (w.alloc (.map es clock)) := by
    show ((getObj b >>= _ : Sem Value)).run Tryd.prog w = _
    rw [Sem.run_bind, MapKept.run_getObj_map h]
    rfl
  rw [e]
  rfl

set_option maxRecDepth 100000 in
theorem mapClone_anyS (b n : Nat) (f : List UInt8 → Option Value) (w : World) (h : MapS w b n f) :
    Calls Tryd.prog 39 #[.map (some b)] w fun e w' => e = .returned (.map (some w.heap.size)) ∧ MapS w' w.heap.size n f ∧ Below w.heap.size w w' ∧ w'.heap.size = w.heap.size + 1 := by
  obtain ⟨D, ⟨es, clock, hb, hF, hs, hD⟩, hat⟩ := h.ex
  have hlt := h.lt
  have hq := fun W => map_not_nilS b W
  have hw := fun (i : Nat) (xT : TypeId) (W : World) => map_withinS i xT W
  have HN : Hid (MapS (w.alloc (.map es clock)) w.heap.size n f) := hide ⟨D, ⟨es, clock, heap_alloc_new _ _, hF, hs, hD⟩, hat⟩
  have hc := map_twinS b es clock w hb
  clear h hF hs hD hat hb
  go_enter Tryd.func39, Tryd.ntmps39
  go_wp2_with fail
  go_ret
  exact ⟨rfl, HN.out, balloc (Below.refl _ _) _, by simp⟩
theorem map_typeN : Tryd.prog.underlying 65 = some (.map 3 22) := by kernel_rfl
set_option maxRecDepth 100000 in
/-- No map that is there equals nil. -/
theorem map_not_nilN (b : Nat) (w : World) : (binOp .eql 65 (.map (some b)) (.map none)).run Tryd.prog w = .ok (.bool false) w := by
  have h : ∀ d : Nat, (Op.equalIn (d + 1) 65 (.map (some b)) (.map none)).run Tryd.prog w = .ok false w := fun d => by simp [Op.equalIn, run_underlying map_typeN]
  simp only [binOp]
  simp [Op.equal, Op.maxDepth, h 9999]
set_option maxRecDepth 100000 in
/-- The map within an interface. -/
theorem map_withinN (b : Nat) (xT : TypeId) (w : World) : (Instr.typeAssert (.iface 65 (.map (some b))) xT 65 false).run Tryd.prog w = .ok (.map (some b)) w := by
  simp [Instr.typeAssert, run_underlying map_typeN, go_sem, Result.andThen]
set_option maxRecDepth 100000 in
/-- What the model's own clone does at a map. -/
theorem map_twinN (b : Nat) (es : Array MapEntry) (clock : Nat) (w : World) (h : w.heap[b]? = some (.map es clock)) :
    (callFunc 65 #[.iface 65 (.map (some b))]).run Tryd.prog w = .ok (.value (.iface 65 (.map (some w.heap.size)))) (w.alloc (.map es clock)) := by
  rw [run_callFunc_extern Tryd.func65 (by kernel_rfl) (by kernel_rfl) (by kernel_rfl) (e := Extern.MapsClone.clone) (by kernel_rfl)]
  have e : (Extern.MapsClone.clone #[.iface 65 (.map (some b))]).run Tryd.prog w = .ok (.iface 65 (.map (some w.heap.size))) (w.alloc (.map es clock)) := by
    show ((getObj b >>= _ : Sem Value)).run Tryd.prog w = _
    rw [Sem.run_bind, MapKept.run_getObj_map h]
    rfl
  rw [e]
  rfl

set_option maxRecDepth 100000 in
theorem mapClone_anyN (b n : Nat) (f : Int → Option Value) (w : World) (h : MapN w b n f) :
    Calls Tryd.prog 41 #[.map (some b)] w fun e w' => e = .returned (.map (some w.heap.size)) ∧ MapN w' w.heap.size n f ∧ Below w.heap.size w w' ∧ w'.heap.size = w.heap.size + 1 := by
  obtain ⟨D, ⟨es, clock, hb, hF, hs, hD⟩, hat⟩ := h.ex
  have hlt := h.lt
  have hq := fun W => map_not_nilN b W
  have hw := fun (i : Nat) (xT : TypeId) (W : World) => map_withinN i xT W
  have HN : Hid (MapN (w.alloc (.map es clock)) w.heap.size n f) := hide ⟨D, ⟨es, clock, heap_alloc_new _ _, hF, hs, hD⟩, hat⟩
  have hc := map_twinN b es clock w hb
  clear h hF hs hD hat hb
  go_enter Tryd.func41, Tryd.ntmps41
  go_wp2_with fail
  go_ret
  exact ⟨rfl, HN.out, balloc (Below.refl _ _) _, by simp⟩

theorem run_eql_ints_nil (A : Option Addr) (n c : Nat) (w : World) : (binOp .eql 23 (.slice A n c) (.slice none 0 0)).run Tryd.prog w = .ok (.bool A.isNone) w := by
  have ht : Tryd.prog.underlying 23 = some (.slice 3) := by kernel_rfl
  have h : ∀ d : Nat, (Op.equalIn (d + 1) 23 (.slice A n c) (.slice none 0 0)).run Tryd.prog w = .ok A.isNone w := fun d => by cases A <;> simp [Op.equalIn, run_underlying ht]
  simp only [binOp]
  simp [Op.equal, Op.maxDepth, h 9999]
theorem ScrAt.ints {w : World} {S : Nat → Prop} {v : Value} {l : List Int} (h : ScrAt w S v l) : ∃ A c, v = .slice A l.length c ∧ IntsArg w A c l := by
  rcases h with ⟨rfl, rfl⟩ | ⟨g, off, c, cs, rfl, _, hh, h1, h2, h3, h4, h5⟩
  · exact ⟨none, 0, rfl, by simp, by omega, fun _ => rfl, fun j hj => by simp at hj, by simp⟩
  · refine ⟨_, c, rfl, h2, h3, fun e => (by cases e), fun j hj => ⟨g, off, rfl, ?_⟩, h5⟩
    simp only [World.cell?, hh]
    exact h4 j hj
set_option maxRecDepth 100000 in
/-- A copy of the outcomes to come. -/
theorem intsClone_any {w : World} {S : Nat → Prop} {v : Value} {l : List Int} (h : ScrAt w S v l) (hl : l.length ≤ 1000000) :
    Calls Tryd.prog 40 #[v] w fun e w' => ∃ v', e = .returned v' ∧ ScrAt w' (fun k => w.heap.size ≤ k ∧ k < w'.heap.size) v' l ∧ Below w.heap.size w w' := by
  obtain ⟨A, c, rfl, hz⟩ := h.ints
  have ks := fun W => run_eql_ints_nil A l.length c W
  cases A with
  | none =>
    obtain rfl : l = [] := by
      have := hz.nil rfl
      have := hz.le
      exact List.eq_nil_of_length_eq_zero (by omega)
    have hc := hz.nil rfl
    subst hc
    clear h hz hl
    simp only [List.length_nil] at ks ⊢
    go_enter Tryd.func40, Tryd.ntmps40
    go_wp2_with fail
    go_ret
    exact ⟨_, rfl, .inl ⟨rfl, rfl⟩, Below.refl _ _⟩
  | some a =>
    have h0 : ScrAt (w.alloc (.cells #[] 3)) (fun k => k = w.heap.size) (.slice (some ⟨w.heap.size, 0, none⟩) 0 0) [] :=
      .inr ⟨w.heap.size, 0, 0, #[], rfl, rfl, heap_alloc_new _ _, by simp, by simp, by omega, fun j hj => by simp at hj, by simp⟩
    have hz2 : IntsArg (w.alloc (.cells #[] 3)) (some a) c l := hz.below (balloc (Below.refl _ _) _) (Nat.le_refl _)
    obtain ⟨v', w', hrun, hs, hg, -⟩ := scr_append h0 (some a) l.length c l hz2 rfl (by simpa using hl) 23
    have hb : Below w.heap.size w w' := (balloc (Below.refl _ _) _).grown hg (by simp) (fun k e => by cases e; exact Nat.le_refl _)
    have hsz := hg.size
    have hs2 : ScrAt w' (fun k => w.heap.size ≤ k ∧ k < w'.heap.size) v' l := by
      rw [List.nil_append] at hs
      exact hs.mono fun k hk => by
        simp at hsz
        rcases hk with hk | hk
        · omega
        · simp at hk; omega
    have HR := hide hrun
    have HS2 := hide hs2
    have HB := hide hb
    clear h hz hl h0 hz2 hrun hs hg hb hsz hs2
    generalize l.length = n at *
    go_enter Tryd.func40, Tryd.ntmps40
    go_wp2_with (at_builtin; refine wpList_scr rfl (.tmp 5) (.tmp 6) rfl _ _ _ _ rfl rfl HR.out ?_)
    go_ret
    exact ⟨v', rfl, HS2.out, HB.out⟩
end Go.Proofs.YthlclknbehfloaaDoor

namespace Go.Proofs.YthlclknbehfloaaDoor
open Go.RowKit Go.Maps

/-- What a value in a map of uploads is of. -/
theorem upV_of {pb : Int → Nat} {s : St.S} {D0 : DataW Value} (hat0 : ∀ (k : Int) (zd : DataW Value), D0.atKey (.int .i64 k) zd = heldV (upV pb s k) zd) {x : Int} {c : Value} {y : DataW Value × List MemPlace} (hv : heldE c = some y) (hat : ∀ zd, D0.atKey (.int .i64 x) zd = y.1) : ∃ u, s.ups x = some u ∧ c = .agg #[encStr u.name, .map (some (pb x))] := by
  simp only [heldE, Option.some.injEq] at hv
  subst hv
  cases hu : s.ups x with
  | none =>
    have h1 := hat (.lit (.bool true))
    rw [hat0] at h1
    simp [upV, hu, heldV] at h1
  | some u =>
    have h1 := hat (.lit (.bool true))
    rw [hat0] at h1
    simp [upV, hu, heldV] at h1
    exact ⟨u, rfl, h1.symm⟩
/-- A copy of a store: its own blocks, all of them new; what lies in them is as it was. -/
theorem StoreL.cloned {w wr : World} {sb ob ub : Nat} {sv : Value} {ov : St.Nm → Option Value} {pb : Int → Nat} {pv : Int → Int → Option Value} {s : St.S} {m : Nat} {S D : Nat → Prop} (h : StoreL w sb ob ub sv ov pb pv s m S D) (hb : Below w.heap.size w wr) {cb ob' U : Nat} {sv' : Value} {q : Int → Nat} {T : Nat → Prop}
    (hbx : wr.heap[cb]? = some (.cells (stCells s ob' U sv') 59 (0, 0))) (ho : MapS wr ob' m ov) (hu : MapN wr U m (upV q s)) (hp : ∀ i, s.ups i ≠ none → MapN wr (q i) m (pv i) ∧ U < q i ∧ q i < wr.heap.size) (hi : ∀ i j, s.ups i ≠ none → s.ups j ≠ none → q i = q j → i = j) (hs : ScrAt wr T sv' s.script) (hT : ∀ k, T k → w.heap.size ≤ k ∧ k < wr.heap.size)
    (h1 : w.heap.size ≤ cb) (h2 : w.heap.size ≤ ob') (h3 : ob' < U) : StoreL wr cb ob' U sv' ov q pv s m (fun k => w.heap.size ≤ k ∧ k < wr.heap.size) D := by
  have hk := h.kept (w' := wr) hb.size fun k _ hl => hb.block k hl
  have hcl := (Array.getElem?_eq_some_iff.1 hbx).1
  refine ⟨hbx, ho, hk.oat, hu, fun i u hx => ?_, hi, by omega, hs.mono hT, ⟨h1, hcl⟩, ⟨h2, ho.lt⟩, ⟨by omega, hu.lt⟩, fun k hk hd => by have := h.lt k (.inr hd); omega, fun k hx => ?_, h.keys, h.last⟩
  · obtain ⟨p1, p2, p3, p4, p5, p6, p7, p8⟩ := hk.parts i u hx
    obtain ⟨r1, r2, r3⟩ := hp i (by rw [hx]; simp)
    exact ⟨r1, p2, ⟨by omega, r3⟩, by omega, by omega, p6, p7, p8⟩
  · rcases hx with hx | hx
    · exact hx.2
    · have := h.lt k (.inr hx); have := hb.size; omega
theorem grown_of_below {w w' : World} (h : Below w.heap.size w w') (row : Option Nat) : w.grownBy w' row := ⟨h.os, h.tape, h.output, h.size, fun k hk _ => h.block k hk⟩
/-- A map copied, in a slot, or within what the slot holds. -/
def heldCopy (base m : Nat) (g : Int → Option Value) (f : Value → Value) : Held Gro := ⟨fun v W => ∃ x, v = f (.map (some x)) ∧ base ≤ x ∧ x < W.heap.size ∧ MapN W x m g, fun _ _ _ ⟨x, h1, h2, h3, h4⟩ hb => ⟨x, h1, h2, Nat.lt_of_lt_of_le h3 hb.size, h4.same (hb.block x h3)⟩⟩

set_option maxRecDepth 100000 in
set_option maxHeartbeats 1000000 in
theorem stClone_any {w : World} {sb ob ub : Nat} {sv : Value} {ov : St.Nm → Option Value} {pb : Int → Nat} {pv : Int → Int → Option Value} {s : St.S} {m : Nat} {S D : Nat → Prop} (h : StoreL w sb ob ub sv ov pb pv s m S D) (hm : m ≤ 1000000) (hsl : s.script.length ≤ 1000000) :
    Calls Tryd.prog 13 #[.pointer (some ⟨sb, 0, none⟩)] w fun e w' => ∃ sb' S', e = .returned (.pointer (some ⟨sb', 0, none⟩)) ∧ IsStore w' sb' s m S' D ∧ (∀ k, S' k → w.heap.size ≤ k) ∧ Below w.heap.size w w' := by
  obtain ⟨A0, c0, hsv⟩ := h.scr.val
  subst hsv
  have HSC := hide h.scr
  generalize hls : s.script.length = ls at *
  have HLS := hide hls
  clear hls
  have HH := hide h
  have HCO := hide (fun W (hb : Below w.heap.size w W) => mapClone_anyS ob m ov W (h.objs.same (hb.block _ h.objs.lt)))
  have hsb : sb < w.heap.size := h.lt _ (.inl h.msb)
  have HBX := hide (fun W (hb : Below w.heap.size w W) => (hb.block sb hsb).trans h.box)
  have b0 : w.cell? ⟨sb, 0, none⟩ = some (.map (some ob)) := box_cell h.box 0
  have b1 : w.cell? ⟨sb, 1, none⟩ = some (.map (some ub)) := box_cell h.box 1
  have b2 : w.cell? ⟨sb, 2, none⟩ = some (.int .i64 s.last) := box_cell h.box 2
  have b3 : w.cell? ⟨sb, 3, none⟩ = some (.slice A0 ls c0) := box_cell h.box 3
  have b4 : w.cell? ⟨sb, 4, none⟩ = some (.int .i64 s.calls) := box_cell h.box 4
  have b5 : w.cell? ⟨sb, 5, none⟩ = some (.int .i64 s.failed) := box_cell h.box 5
  have mk := fun (t : TypeId) (W : World) => run_makeMap (P := Tryd.prog) t W
  have HSCk : Hid (∀ W, Below w.heap.size w W → ScrAt W S (.slice A0 ls c0) s.script) := hide (fun W hb => HSC.out.kept fun k _ hl _ => hb.block k hl)
  clear h
  go_enter Tryd.func13, Tryd.ntmps13
  go_wp2_with (first
    | (go_at_call 39; refine (HCO.out _ (balloc (Below.refl _ _) _)).mono ?_; rintro e w2 ⟨rfl, hm2, hb2, hz2⟩; have hB2 := (balloc (Below.refl w.heap.size w) _).trans (hb2.mono (by simp)); have hbx2 := (hb2.block w.heap.size (by simp)).trans (heap_alloc_new w _); have n0 := box_free hbx2 0; have e0 : w2.cell? ⟨w.heap.size, 0, none⟩ = some (.map (some ob)) := box_cell hbx2 0; have HM2 := hide hm2; have HB2 := hide hB2; have HX2 := hide hbx2; have HZ2 := hide hz2; have q3 : ∀ v, (w2.setCell ⟨w.heap.size, 0, none⟩ v).cell? ⟨sb, 3, none⟩ = some (.slice A0 ls c0) := fun v => (World.cell?_setCell_other _ _ _ _ (by intro e; injection e with e _; omega)).trans (box_cell (HBX.out w2 hB2) 3); clear hm2 hb2 hB2 hbx2 hz2)
    | (go_at_call 40; refine (intsClone_any (HSCk.out _ (HB2.out.setCell (p := ⟨w.heap.size, 0, none⟩) (Nat.le_refl _) _)) (by rw [HLS.out]; omega)).mono ?_; rintro e w3 ⟨v3, rfl, hs3, hb3⟩; obtain ⟨A3, c3, e3v⟩ := hs3.val; rw [HLS.out] at e3v; subst e3v; have hB3 := (HB2.out.setCell (p := ⟨w.heap.size, 0, none⟩) (Nat.le_refl _) (.map (some (w.heap.size + 1)))).trans (hb3.mono (by simpa using HB2.out.size)); have hlt2 : w.heap.size < w2.heap.size := (Array.getElem?_eq_some_iff.1 HX2.out).1; have hbx3 := (hb3.block w.heap.size (by simpa using hlt2)).trans (heap_set HX2.out 0 (.map (some (w.heap.size + 1)))); have n3 := box_free hbx3 3; have e3 : w3.cell? ⟨w.heap.size, 3, none⟩ = some (.slice A0 ls c0) := box_cell hbx3 3; have hlt3 : w.heap.size < w3.heap.size := (Array.getElem?_eq_some_iff.1 hbx3).1; have hbs3 := HBX.out w3 hB3; have hsl3 : sb < w3.heap.size := (Array.getElem?_eq_some_iff.1 hbs3).1; have e1 : ∀ v o, ((w3.setCell ⟨w.heap.size, 3, none⟩ v).alloc o).cell? ⟨w.heap.size, 1, none⟩ = some (.map (some ub)) := fun v o => (World.cell?_alloc_lt _ _ _ (by simpa using hlt3)).trans ((World.cell?_setCell_other _ _ _ _ (by intro e; injection e with _ e _; omega)).trans (box_cell hbx3 1)); have n1 : ∀ v o, ((w3.setCell ⟨w.heap.size, 3, none⟩ v).alloc o).frozen? ⟨w.heap.size, 1, none⟩ = false := fun v o => (World.frozen?_of_block (a := ⟨w.heap.size, 1, none⟩) (Below.heap_alloc _ _ _ (by simpa using hlt3))).trans ((World.frozen?_setCell _ _ _ _).trans (box_free hbx3 1)); have q1 : ∀ v o u, (((w3.setCell ⟨w.heap.size, 3, none⟩ v).setCell ⟨w.heap.size, 1, none⟩ u).alloc o).cell? ⟨sb, 1, none⟩ = some (.map (some ub)) := fun v o u => (World.cell?_alloc_lt _ _ _ (by simpa using hsl3)).trans ((World.cell?_setCell_other _ _ _ _ (by intro e; injection e with e _ _; omega)).trans ((World.cell?_setCell_other _ _ _ _ (by intro e; injection e with e _ _; omega)).trans (box_cell hbs3 1))); have HS3 := hide hs3; have HB3 := hide hB3; have HB3' := hide hb3; have HX3 := hide hbx3; clear hs3 hb3 hB3 hbx3 hbs3)
    | (at_range; obtain ⟨W5, hW5⟩ : ∃ W5, W5 = ((w3.setCell ⟨w.heap.size, 3, none⟩ (.slice A3 ls c3)).setCell ⟨w.heap.size, 1, none⟩ (.map (some w3.heap.size))).alloc (.map #[] 0) := ⟨_, rfl⟩; rw [← hW5]; have hb5 : Below w.heap.size w W5 := hW5 ▸ balloc ((HB3.out.setCell (p := ⟨w.heap.size, 3, none⟩) (Nat.le_refl _) _).setCell (p := ⟨w.heap.size, 1, none⟩) (Nat.le_refl _) _) _; obtain ⟨D0, hown0, hat0⟩ := (show MapN W5 ub m (upV pb s) from HH.out.ups.same (hb5.block _ HH.out.ups.lt)).ex; refine wpList_range_own _ rfl (.tmp 26) _ rfl 3 67 intK map_ups heldE ub m D0 rfl hown0 ?_; intro w6 hrg6 hg6 hs6; have HRG6 := hide hrg6; have HG6 := hide hg6; have HAT0 := hide hat0; have HW5 := hide hW5; have HB5 := hide hb5; clear hrg6 hg6 hat0 hW5 hb5 hown0; go_frame)
    | fail)
  have hU : W5.heap.size = w3.heap.size + 1 := by rw [HW5.out]; simp
  have hr6 : w6.heap.size = w3.heap.size + 2 := by omega
  have HB6 : Hid (Below w.heap.size w w6) := hide (HB5.out.trans ⟨HG6.out.os, HG6.out.tape, HG6.out.output, HG6.out.size, fun k hk => HG6.out.block k (by have := HB5.out.size; omega) (by simp)⟩)
  have hmz : ∀ k, k < W5.heap.size → w6.heap[k]? = W5.heap[k]? := fun k hk => HG6.out.block k hk (by simp)
  have HBX6 : Hid (w6.heap[w.heap.size]? = some (.cells (stCells s (w.heap.size + 1) w3.heap.size (.slice A3 ls c3)) 59 (0, 0))) := hide (by
    rw [hmz _ (by omega), HW5.out, Below.heap_alloc _ _ _ (by simp; omega), heap_set (heap_set HX3.out 3 (.slice A3 ls c3)) 1 (.map (some w3.heap.size))]
    simp [stCells])
  have hz2 : w2.heap.size = w.heap.size + 2 := by have := HZ2.out; simp at this; omega
  have hz3 : w2.heap.size ≤ w3.heap.size := by have := HB3'.out.size; simpa using this
  have h3w : ∀ k, k ≠ w.heap.size → k < w3.heap.size → W5.heap[k]? = w3.heap[k]? := fun k hne hk => by
    rw [HW5.out, Below.heap_alloc _ _ _ (by simpa using hk), Below.heap_setCell _ _ _ _ (by simpa using hne), Below.heap_setCell _ _ _ _ (by simpa using hne)]
  have HOB6 : Hid (MapS w6 (w.heap.size + 1) m ov) := hide (by
    have h2 := HM2.out
    simp only [show ∀ o, (w.alloc o).heap.size = w.heap.size + 1 from fun o => by simp] at h2
    refine h2.same ?_
    rw [hmz _ (by omega), h3w _ (by omega) (by omega), HB3'.out.block _ (by simp; omega), Below.heap_setCell _ _ _ _ (by simp)])
  have HUP6 : Hid (MapN w6 w3.heap.size 0 (fun _ => none)) := hide (by
    have h2 := MapV.made (κ := Int) (kt := 3) (mk := fun k : Int => Lit.int .i64 k) ((w3.setCell ⟨w.heap.size, 3, none⟩ (.slice A3 ls c3)).setCell ⟨w.heap.size, 1, none⟩ (.map (some w3.heap.size)))
    rw [← HW5.out] at h2
    have e3 : ((w3.setCell ⟨w.heap.size, 3, none⟩ (.slice A3 ls c3)).setCell ⟨w.heap.size, 1, none⟩ (.map (some w3.heap.size))).heap.size = w3.heap.size := by simp
    rw [e3] at h2
    exact h2.same (hmz _ (by omega)))
  have HSC6 : Hid (ScrAt w6 (fun k => w.heap.size ≤ k ∧ k < w3.heap.size) (.slice A3 ls c3) s.script) := hide (by
    refine (HS3.out.mono (T := fun k => w.heap.size ≤ k ∧ k < w3.heap.size) fun k hk => ⟨by have := hk.1; simp at this; omega, hk.2⟩).kept fun k hT hl ⟨cs, hcs⟩ => ?_
    rw [hmz _ (by omega), h3w _ (fun e => ?_) hl]
    subst e
    rw [HX3.out] at hcs; injection hcs with hcs; injection hcs with _ hcs _; exact absurd hcs (by decide))
  have hszD : Maps.size D0 ≤ m := HRG6.out.owns.size_le
  generalize hUd : w3.heap.size = U at *
  have hHAS := fun (i : Int) => hasV (mk := fun k : Int => Lit.int .i64 k) HAT0.out i
  have HHAS := hide hHAS
  have HRG := hide (show w6.ranges Tryd.prog 3 heldE ub (U + 1) m D0 (Maps.has D0) (Maps.size D0) from hU ▸ HRG6.out)
  rw [hU]
  clear hHAS HRG6 hU
  go_loopw [4] (fun _ wr => ∃ (left : Lit → Bool) (cnt k : Nat) (q : Int → Nat), wr.ranges Tryd.prog 3 heldE ub (U + 1) m D0 left cnt ∧ MapN wr U k (fun i => if left (.int .i64 i) = true then none else upV q s i) ∧ k + cnt ≤ m ∧ (∀ i, s.ups i ≠ none → left (.int .i64 i) = false → MapN wr (q i) m (pv i) ∧ U + 1 < q i ∧ q i < wr.heap.size) ∧
      (∀ i j, s.ups i ≠ none → s.ups j ≠ none → left (.int .i64 i) = false → left (.int .i64 j) = false → q i = q j → i = j) ∧ Below U w6 wr ∧ U + 1 < wr.heap.size) (fun _ wr => wr.rangeLeft ub (U + 1))
  case atStart =>
    refine ⟨_, _, 0, fun _ => 0, HRG.out, ?_, by omega, fun i hi hl => ?_, fun i j hi hj hl => ?_, Below.refl _ _, by omega⟩
    · have e : (fun i => if Maps.has D0 (.int .i64 i) = true then none else upV (fun _ => 0) s i) = (fun _ : Int => (none : Option Value)) := by
        funext i
        rw [HHAS.out i]
        cases hu : s.ups i <;> simp [upV, hu]
      rw [e]; exact HUP6.out
    · rw [HHAS.out i] at hl
      cases hu : s.ups i with
      | none => exact absurd hu hi
      | some u => simp [upV, hu] at hl
    · rw [HHAS.out i] at hl
      cases hu : s.ups i with
      | none => exact absurd hu hi
      | some u => simp [upV, hu] at hl
  case round =>
    obtain ⟨left, cnt, k, q, hrg, hmu, hkc, hpq, hiq, hbw, hWr⟩ := hrel
    have HMU := hide hmu
    have HPQ := hide hpq
    have HIQ := hide hiq
    have HBW := hide hbw
    clear hmu hpq hiq hbw
    go_wp2_with (first
      | (at_next; refine wpList_next_ranges _ rfl _ rfl 3 intK heldE (Value.int .i64) id (fun key kl hk => by obtain ⟨x, hx, _⟩ := Maps.keyOf_int_inv Tryd.underlying3 hk; exact ⟨x, hx⟩) (fun v y hv => ⟨v, rfl⟩) ub (U + 1) m _ _ _ rfl hrg ?_ ?_)
      | fail)
    · intro hc0 hl0
      go_wp2_with fail
      go_ret
      have hbwr : Below w.heap.size w wr := HB6.out.trans (HBW.out.mono (by omega))
      have hsame : ∀ g, g < U → wr.heap[g]? = w6.heap[g]? := fun g hg => HBW.out.block g hg
      have hmu : MapN wr U m (upV q s) := by
        have h2 := HMU.out
        simp only [hl0, Bool.false_eq_true, if_false] at h2
        exact h2.mono (by omega)
      refine ⟨w.heap.size, _, rfl, ⟨_, _, _, _, _, _, HH.out.cloned hbwr (T := fun g => w.heap.size ≤ g ∧ g < U) ((hsame _ (by omega)).trans HBX6.out) (HOB6.out.same (hsame _ (by omega))) hmu (fun i hi => ?_) (fun i j hi hj => HIQ.out i j hi hj (hl0 _) (hl0 _)) (HSC6.out.kept fun g hT _ _ => hsame g hT.2) (fun g hT => ⟨hT.1, by have := hWr; omega⟩) (Nat.le_refl _) (by omega) (by omega)⟩, fun g hg => hg.1, hbwr⟩
      obtain ⟨r1, r2, r3⟩ := HPQ.out i hi (hl0 _)
      exact ⟨r1, by omega, r3⟩
    · intro x c kl y1 y2 w7 cnt2 hkey hlk hv hat hrg2 hlt hg2 hs2 hen
      obtain ⟨x', ex, rfl, hwf⟩ := Maps.keyOf_int_inv Tryd.underlying3 hkey
      obtain rfl : x = x' := by injection ex
      obtain ⟨u, hu, rfl⟩ := upV_of HAT0.out hv hat
      have hUb : ub < U := by have := HH.out.ups.lt; omega
      have hlx : left (.int .i64 x) = true := hlk
      have hg7 : Below U wr w7 := ⟨hg2.os, hg2.tape, hg2.output, hg2.size, fun g hg => hg2.block g (by omega) (fun e => by injection e with e; omega)⟩
      have HP7 : Hid (∀ g, g < wr.heap.size → g ≠ U + 1 → w7.heap[g]? = wr.heap[g]?) := hide (fun g hg hne => hg2.block g hg (fun e => by injection e with e; exact hne e))
      have HPX := hide (HH.out.parts x u hu).1
      have HUX := hide hu
      have HG7 := hide hg7
      have HRG2 := hide hrg2
      have HRGO := hide hrg
      have HLX := hide hlx
      have HLT := hide hlt
      clear hrg2 hg2 hat hv hkey hu hg7 hlx hlk hlt hrg
      go_wp2_with fail
      obtain ⟨W8, hW8⟩ : ∃ W8, W8 = w7.alloc (.cells #[encStr u.name, .map (some (pb x))] 67) := ⟨_, rfl⟩
      have h8 : Below wr.heap.size w7 W8 := (show Below w7.heap.size w7 W8 from hW8 ▸ balloc (Below.refl _ _) _).mono (by omega)
      have hz8 : W8.heap.size = wr.heap.size + 1 := by rw [hW8]; simp [hs2]
      have x0 : W8.cell? ⟨wr.heap.size, 0, none⟩ = some (encStr u.name) := by rw [hW8, ← hs2, World.cell?_alloc_mark]; rfl
      have x1 : W8.cell? ⟨wr.heap.size, 1, none⟩ = some (.map (some (pb x))) := by rw [hW8, ← hs2, World.cell?_alloc_mark]; rfl
      have HB8 : Hid (Below U w6 W8) := hide ((HBW.out.trans HG7.out).trans (h8.mono (by omega)))
      have x2 : W8.cell? ⟨w.heap.size, 1, none⟩ = some (.map (some U)) := by
        have e := (HB8.out.block w.heap.size (by omega)).trans HBX6.out
        exact box_cell e 1
      have HCL : Hid (∀ W, Below W8.heap.size W8 W → Calls Tryd.prog 41 #[.map (some (pb x))] W fun e w' => e = .returned (.map (some W.heap.size)) ∧ MapN w' W.heap.size m (pv x) ∧ Below W.heap.size W w' ∧ w'.heap.size = W.heap.size + 1) := hide (fun W hW => mapClone_anyN (pb x) m (pv x) W (HPX.out.same (by
        have hlp := HPX.out.lt
        rw [hW.block _ (by omega), HB8.out.block _ (by omega), HB6.out.block _ hlp])))
      rw [← hW8]
      have HW8 := hide hW8
      have HZ8 := hide hz8
      have H8 := hide h8
      clear hW8 h8
      refine wp_region_store (G := Gro) gro_goes [33, 34, 35, 36, 37, 38, 39, 40, 41] (fun d => match d with
        | 33 => .is (.pointer (some ⟨w.heap.size, 1, none⟩)) | 34 => .is (.map (some U)) | 35 => .is (.int .i64 x) | 36 => .is (.pointer (some ⟨wr.heap.size, 0, none⟩)) | 37 => .is (encStr u.name) | 38 => .is (.pointer (some ⟨wr.heap.size, 1, none⟩)) | 39 => .is (.map (some (pb x))) | 40 => heldCopy W8.heap.size m (pv x) id | 41 => heldCopy W8.heap.size m (pv x) (fun v => .agg #[encStr u.name, v]) | _ => .any) _ (by kernel_rfl) (by kernel_rfl) rfl (by kernel_rfl) ?_ ?_
      · simp only [List.size_toArray, List.length_cons, List.length_nil, List.take_succ_cons, List.take_zero, StepsH, Nat.reduceAdd, Nat.reduceSub]
        refine ⟨?_, ?_, ?_, ?_, ?_, ?_, ?_, ?_, ?_, trivial⟩
        all_goals
          intro ev w9 hb hev hd
          have ev3 : ev (.tmp 3) = .pointer (some ⟨w.heap.size, 0, none⟩) := hev _ (by simp)
          have ev4 : ev (.tmp 4) = .int .i64 x := hev _ (by simp)
          have ev5 : ev (.tmp 5) = .pointer (some ⟨wr.heap.size, 0, none⟩) := hev _ (by simp)
          have evf : ∀ f, ev (.func f) = .func (.func f) #[] #[] := fun f => hev _ (by simp)
          have zz0 := (hb.cell (p := ⟨wr.heap.size, 0, none⟩) (World.block_lt_of_cell? _ _ x0)).trans x0
          have zz1 := (hb.cell (p := ⟨wr.heap.size, 1, none⟩) (World.block_lt_of_cell? _ _ x1)).trans x1
          have zz2 := (hb.cell (p := ⟨w.heap.size, 1, none⟩) (World.block_lt_of_cell? _ _ x2)).trans x2
          have HB9 : Hid (Below W8.heap.size W8 w9) := hide ((Below.refl W8.heap.size W8).drew.trans hb)
          clear hev hb x0 x1 x2 hz8
          simp [DepsG, Held.is] at hd
          first
            | (obtain ⟨hd1, g, hg, h1, h2, h3⟩ := hd; simp [OpRuns, execOp, go_sem, Below.refl, Gro, hd1, hg]; exact ⟨g, rfl, h1, h2, h3⟩)
            | (simp [OpRuns, execOp, go_sem, Held.is, Below.refl, Gro, *]; done)
            | (simp [OpRuns, execOp, go_sem, Gro, *])
        exact (HCL.out _ HB9.out).mono fun e w'' ⟨he, hm9, hb9, hz9⟩ => ⟨_, he, hb9, w9.heap.size, rfl, HB9.out.size, by omega, hm9⟩
      · intro f w9 hb hf
        have e34 : f 34 = .map (some U) := hf 34 (by simp)
        have e35 : f 35 = .int .i64 x := hf 35 (by simp)
        have e41 := hf 41 (by simp)
        have HB9 : Hid (Below W8.heap.size W8 w9) := hide ((Below.refl W8.heap.size W8).drew.trans hb)
        clear hb hf
        simp only [puts, Act.put, List.setIfInBounds_toArray, List.set_cons_succ, List.set_cons_zero]
        rw [e34, e35]
        clear e34 e35
        generalize f 33 = q33
        generalize f 36 = q36
        generalize f 37 = q37
        generalize f 38 = q38
        generalize f 39 = q39
        generalize f 40 = q40
        generalize f 41 = q41 at e41 ⊢
        clear f
        obtain ⟨g, hv9, hg1, hg2, hmg⟩ := e41
        rw [hv9]
        clear hv9
        have h79 : ∀ b, b < wr.heap.size → b ≠ U + 1 → w9.heap[b]? = wr.heap[b]? := fun b hb hne => by
          rw [HB9.out.block b (by omega), H8.out.block b hb, HP7.out b hb hne]
        have hmu9 := HMU.out.same (h79 U (by have := hWr; omega) (by omega))
        refine wpList_putV rfl (.tmp 34) (.tmp 35) (.tmp 41) _ _ rfl intK map_ups U k _ rfl hmu9 _ x rfl (intKey (by
          have h1 := (HH.out.parts x u HUX.out); have h2 := HH.out.last; omega)) (intInj _) _ rfl (by omega) ?_
        intro w5 hm5 hg5 hz5
        have h59 : ∀ b, b < w9.heap.size → b ≠ U → w5.heap[b]? = w9.heap[b]? := fun b hb hne => hg5.block b hb (fun e => by injection e with e; exact hne e)
        have hz89 : W8.heap.size ≤ w9.heap.size := HB9.out.size
        have hself : ∀ i : Int, (Lit.int .i64 i).sameKey (.int .i64 x) = decide (i = x) := fun i => by simp [Lit.sameKey]
        have hrg5 : w5.ranges Tryd.prog 3 heldE ub (U + 1) m D0 (fun z => left z && !z.sameKey (.int .i64 x)) cnt2 := by
          have r1 : W8.ranges Tryd.prog 3 heldE ub (U + 1) m D0 (fun z => left z && !z.sameKey (.int .i64 x)) cnt2 := by rw [HW8.out]; exact HRG2.out.alloc _
          exact (r1.kept (grown_of_below HB9.out none) (by simp) (by simp)).kept hg5 (fun e => by injection e with e; omega) (fun e => by injection e with e; omega)
        have hfn : (fun i => if (left (.int .i64 i) && !(Lit.int .i64 i).sameKey (.int .i64 x)) = true then none else upV (fun i => if i = x then g else q i) s i) = updV (fun i => if left (.int .i64 i) = true then none else upV q s i) x (some (.agg #[encStr u.name, .map (some g)])) := by
          funext i
          rw [hself i]
          by_cases hi : i = x
          · subst hi; simp [updV, upV, HUX.out]
          · simp [updV, upV, hi]
        have hno : ∀ i, s.ups i ≠ none → (left (.int .i64 i) && !(Lit.int .i64 i).sameKey (.int .i64 x)) = false → i ≠ x → left (.int .i64 i) = false := fun i _ hl hi => by
          rw [hself i] at hl; simpa [hi] using hl
        have HREL : Hid (∃ (left : Lit → Bool) (cnt k : Nat) (q : Int → Nat), w5.ranges Tryd.prog 3 heldE ub (U + 1) m D0 left cnt ∧ MapN w5 U k (fun i => if left (.int .i64 i) = true then none else upV q s i) ∧ k + cnt ≤ m ∧ (∀ i, s.ups i ≠ none → left (.int .i64 i) = false → MapN w5 (q i) m (pv i) ∧ U + 1 < q i ∧ q i < w5.heap.size) ∧
            (∀ i j, s.ups i ≠ none → s.ups j ≠ none → left (.int .i64 i) = false → left (.int .i64 j) = false → q i = q j → i = j) ∧ Below U w6 w5 ∧ U + 1 < w5.heap.size) := hide (by
          refine ⟨_, cnt2, k + 1, fun i => if i = x then g else q i, hrg5, ?_, by have := HLT.out; omega, fun i hi hl => ?_, fun i j hi hj hl hl2 he => ?_, ?_, by have := hWr; omega⟩
          · simp only [hfn]; exact hm5
          · by_cases hix : i = x
            · subst hix
              simp only [if_true]
              exact ⟨hmg.same (h59 g hg2 (by omega)), by omega, by omega⟩
            · simp only [if_neg hix]
              obtain ⟨r1, r2, r3⟩ := HPQ.out i hi (hno i hi hl hix)
              exact ⟨r1.same ((h59 _ (by omega) (by omega)).trans (h79 _ r3 (by omega))), r2, by omega⟩
          · by_cases hix : i = x
            · by_cases hjx : j = x
              · rw [hix, hjx]
              · simp only [if_pos hix, if_neg hjx] at he
                obtain ⟨r1, r2, r3⟩ := HPQ.out j hj (hno j hj hl2 hjx)
                omega
            · by_cases hjx : j = x
              · simp only [if_neg hix, if_pos hjx] at he
                obtain ⟨r1, r2, r3⟩ := HPQ.out i hi (hno i hi hl hix)
                omega
              · simp only [if_neg hix, if_neg hjx] at he
                exact HIQ.out i j hi hj (hno i hi hl hix) (hno j hj hl2 hjx) he
          · exact (HB8.out.trans (HB9.out.mono (by omega))).trans ⟨hg5.os, hg5.tape, hg5.output, hg5.size, fun b hb => h59 b (by omega) (by omega)⟩)
        have HMEAS : Hid (w5.rangeLeft ub (U + 1) < wr.rangeLeft ub (U + 1)) := hide (by rw [hrg5.left_eq, HRGO.out.left_eq]; exact HLT.out)
        clear hrg5 hfn hno hself h59 h79 hmu9 hm5 hg5 hz5 hmg
        go_wp2_with fail
        go_roundw
        case rel => exact ⟨_, _, _, _, _, _, _, _, _, _, _, _, _, _, _, _, HREL.out, rfl⟩
        case measure => exact HMEAS.out
end Go.Proofs.YthlclknbehfloaaDoor
