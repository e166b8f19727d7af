/-
  A store's names and uploads: Names, Open.
  What StoreParts asks beside the store: its bounds, its rows of numbers, and the parts that it laid, plainly.
  StoreApart: uploads of one name stand apart, plainly; a row of their numbers under a walk.
  A client's Start.
  CallStarts, walked.
  CallStarts, proved.
-/
import Derived.Test.YthlclknbehfloaaDoorT8
import Derived.Test.YthlclknbehfloaaDoorT4
import Derived.Test.YthlclknbehfloaaDoorT9
import Derived.Test.YthlclknbehfloaaDoorT1
import Derived.LoopTactic
import Derived.Deep.LoopGhost
import Derived.Test.YthlclknbehfloaaDoorU1
import Derived.Test.YthlclknbehfloaaDoorU2
import Derived.Test.YthlclknbehfloaaDoorT2
namespace Go.Proofs.YthlclknbehfloaaDoor
open Go.RowKit Go.Maps Go.Sort

/-- These are the numbers, or the names, at which there is anything, rising. -/
def St.ListsI {α : Type} (f : Int → Option α) (l : List Int) : Prop := l.Pairwise (· < ·) ∧ ∀ x, x ∈ l ↔ f x ≠ none
def St.ListsS {α : Type} (f : List UInt8 → Option α) (l : List (List UInt8)) : Prop := l.Pairwise (· < ·) ∧ ∀ x, x ∈ l ↔ f x ≠ none
def OwnZ (w : World) (base : Nat) (v : Value) (l : List Int) : Prop := w.ownsRow base 3 1 v l.length (l.map (.int .i64 ·))

theorem keysI_lists {w : World} {b nn : Nat} {D0 : DataW Value} {f : Int → Option Value} (hown : w.ownsMap Tryd.prog 3 heldE b nn D0) (hat0 : ∀ k zd, D0.atKey (.int .i64 k) zd = heldV (f k) zd) {ss : List Int} (h : ss.Perm (intKeys D0)) :
    St.ListsI f (ss.mergeSort fun x y => decide (x ≤ y)) := by
  obtain ⟨es, hD, hpw, _⟩ := hown.entries intK
  obtain ⟨es', hD', hko⟩ := hown.keysOf
  obtain rfl : es = es' := by rw [hD] at hD'; simpa using hD'
  subst hD
  have hk : ∀ p ∈ es, ∃ x, p.1 = .int .i64 x := fun p hp => by
    obtain ⟨v, hv⟩ := hko p hp
    obtain ⟨x, _, hx, _⟩ := Maps.keyOf_int_inv Tryd.underlying3 hv
    exact ⟨x, hx⟩
  have hnd : (intKeys (.map es)).Nodup := by
    show (es.map fun p => Go.intOf p.1).Nodup
    refine List.pairwise_map.2 (hpw.imp_of_mem fun {p q} hp hq hne e => hne ?_)
    obtain ⟨x, hx⟩ := hk p hp
    obtain ⟨y, hy⟩ := hk q hq
    rw [hx, hy] at e ⊢
    exact congrArg _ e
  have hmem : ∀ x, x ∈ intKeys (.map es) ↔ f x ≠ none := fun x => by
    have h1 := hasV (mk := fun k : Int => Lit.int .i64 k) hat0 x
    have h2 : f x ≠ none ↔ Maps.has (.map es) (Lit.int .i64 x) = true := by rw [h1]; cases f x <;> simp
    rw [h2, has_eq, List.any_eq_true]
    show x ∈ es.map (fun p => Go.intOf p.1) ↔ _
    rw [List.mem_map]
    constructor
    · rintro ⟨p, hp, rfl⟩
      obtain ⟨y, hy⟩ := hk p hp
      exact ⟨p, hp, by rw [hy]; simp [Lit.sameKey, Go.intOf]⟩
    · rintro ⟨p, hp, hs⟩
      obtain ⟨y, hy⟩ := hk p hp
      rw [hy] at hs
      exact ⟨p, hp, by rw [hy]; simpa [Lit.sameKey, Go.intOf] using hs⟩
  have hp2 : (ss.mergeSort fun x y => decide (x ≤ y)).Perm (intKeys (.map es)) := (List.mergeSort_perm ss _).trans h
  refine ⟨?_, fun x => (hp2.mem_iff).trans (hmem x)⟩
  have hle : (ss.mergeSort fun x y => decide (x ≤ y)).Pairwise (fun a b => decide (a ≤ b) = true) :=
    List.pairwise_mergeSort (fun a b c h1 h2 => by simp only [decide_eq_true_eq] at *; omega) (fun a b => by simp only [Bool.or_eq_true, decide_eq_true_eq]; omega) ss
  have hne : (ss.mergeSort fun x y => decide (x ≤ y)).Nodup := hp2.nodup_iff.2 hnd
  refine (hle.and hne).imp fun {a b} hab => ?_
  have h1 : a ≤ b := of_decide_eq_true hab.1
  have h2 := hab.2
  omega
theorem keysS_lists {w : World} {b nn : Nat} {D0 : DataW Value} {f : List UInt8 → Option Value} (hown : w.ownsMap Tryd.prog 9 heldE b nn D0) (hat0 : ∀ k zd, D0.atKey (.string k) zd = heldV (f k) zd) {ss : List (List UInt8)} (h : ss.Perm (strKeys D0)) :
    St.ListsS f (ss.mergeSort fun x y => decide (x ≤ y)) := by
  obtain ⟨es, hD, hpw, _⟩ := hown.entries strK
  obtain ⟨es', hD', hko⟩ := hown.keysOf
  obtain rfl : es = es' := by rw [hD] at hD'; simpa using hD'
  subst hD
  have hk : ∀ p ∈ es, ∃ x, p.1 = .string x := fun p hp => by
    obtain ⟨v, hv⟩ := hko p hp
    obtain ⟨x, _, hx, _⟩ := Maps.keyOf_str Tryd.underlying9 hv
    exact ⟨x, hx⟩
  have hnd : (strKeys (.map es)).Nodup := by
    show (es.map fun p => strOf p.1).Nodup
    refine List.pairwise_map.2 (hpw.imp_of_mem fun {p q} hp hq hne e => hne ?_)
    obtain ⟨x, hx⟩ := hk p hp
    obtain ⟨y, hy⟩ := hk q hq
    rw [hx, hy] at e ⊢
    exact congrArg _ e
  have hmem : ∀ x, x ∈ strKeys (.map es) ↔ f x ≠ none := fun x => by
    have h1 := hasV (mk := fun k : List UInt8 => Lit.string k) hat0 x
    have h2 : f x ≠ none ↔ Maps.has (.map es) (Lit.string x) = true := by rw [h1]; cases f x <;> simp
    rw [h2, has_eq, List.any_eq_true]
    show x ∈ es.map (fun p => strOf p.1) ↔ _
    rw [List.mem_map]
    constructor
    · rintro ⟨p, hp, rfl⟩
      obtain ⟨y, hy⟩ := hk p hp
      exact ⟨p, hp, by rw [hy]; simp [Lit.sameKey, strOf]⟩
    · rintro ⟨p, hp, hs⟩
      obtain ⟨y, hy⟩ := hk p hp
      rw [hy] at hs
      exact ⟨p, hp, by rw [hy]; simpa [Lit.sameKey, strOf] using hs⟩
  have hp2 : (ss.mergeSort fun x y => decide (x ≤ y)).Perm (strKeys (.map es)) := (List.mergeSort_perm ss _).trans h
  refine ⟨?_, fun x => (hp2.mem_iff).trans (hmem x)⟩
  have hle : (ss.mergeSort fun x y => decide (x ≤ y)).Pairwise (fun a b => decide (a ≤ b) = true) :=
    List.pairwise_mergeSort (fun a b c h1 h2 => by simp only [decide_eq_true_eq] at *; exact List.le_trans h1 h2) (fun a b => by simp only [Bool.or_eq_true, decide_eq_true_eq]; exact List.le_total a b) ss
  have hne : (ss.mergeSort fun x y => decide (x ≤ y)).Nodup := hp2.nodup_iff.2 hnd
  refine (hle.and hne).imp fun {a b} hab => ?_
  have h1 : a ≤ b := of_decide_eq_true hab.1
  rcases Nm.tx_tri a b with e | e | e
  · exact e
  · exact absurd e hab.2
  · exact absurd e (List.not_lt.2 h1)

theorem OwnZ.mono {w : World} {base base' : Nat} {v : Value} {l : List Int} (h : OwnZ w base v l) (hb : base' ≤ base) : OwnZ w base' v l := by
  obtain ⟨h1, h2⟩ := h
  refine ⟨h1, ?_⟩
  rcases h2 with h2 | ⟨g, cap, cur, hv, hg, r⟩
  · exact .inl h2
  · exact .inr ⟨g, cap, cur, hv, by omega, r⟩
set_option maxRecDepth 100000 in
theorem StS.openOf {w0 w : World} {S D : Nat → Prop} {sb n : Nat} {s : St.S} (h : StS w0 S D sb s n w) (hn : n ≤ 1000000) :
    Calls Tryd.prog 20 #[.pointer (some ⟨sb, 0, none⟩)] w fun e w' => ∃ v l, e = .returned v ∧ St.ListsI s.ups l ∧ OwnZ w' w.heap.size v l ∧ Below w.heap.size w w' := by
  obtain ⟨ob, ub, sv, ov, pb, pv, hL⟩ := h.st
  obtain ⟨D0, hown, hat0⟩ := hL.ups.ex
  have hsz := hown.size_le
  have c : w.cell? ⟨sb, 1, none⟩ = some (.map (some ub)) := box_cell hL.box 1
  have hS := callsIn_wide.1 (lay_slices_Sorted_keysI ub n D0 heldE w hown (by simp only [maxLen]; omega) (by omega))
  have hK := fun (mb : Option Nat) (W : World) => callsIn_wide.1 (lay_maps_KeysI mb W)
  have hov : ∀ x, upV pb s x ≠ none ↔ s.ups x ≠ none := fun x => by simp [upV]
  have HL := hide (fun (ss : List Int) (hp : ss.Perm (intKeys D0)) => (show St.ListsI s.ups (ss.mergeSort fun x y => decide (x ≤ y)) from ⟨(keysI_lists hown hat0 hp).1, fun x => ((keysI_lists hown hat0 hp).2 x).trans (hov x)⟩))
  have HS := hide hS
  have HK := hide hK
  clear h hL hS hK hown hat0 hsz hov
  go_enter Tryd.func20, Tryd.ntmps20
  go_wp2_with (first
    | (go_at_call 49; refine (HK.out _ _).mono ?_; rintro e w1 ⟨rfl, rfl⟩)
    | (go_at_call 48; refine HS.out.mono ?_; rintro e w2 ⟨v, ss, rfl, hp, hrow, -, hb2⟩; have HRO := hide hrow; have HB := hide hb2; have HP := hide hp; clear hrow hb2 hp)
    | fail)
  go_ret
  have hlen : (ss.mergeSort fun x y => decide (x ≤ y)).length = ss.length := by simp
  refine ⟨_, _, rfl, HL.out ss HP.out, ?_, (balloc (Below.refl _ _) _).trans (HB.out.mono (by simp))⟩
  refine OwnZ.mono (base := (w.alloc (.cells #[.map (some ub)] 57)).heap.size) ?_ (by simp)
  unfold OwnZ
  rw [hlen]
  exact HRO.out
end Go.Proofs.YthlclknbehfloaaDoor

namespace Go.Proofs.YthlclknbehfloaaDoor
open Go.RowKit Go.Maps Go.ChangeShapes Go.WideShapes Go.ChangeAt

theorem ReadsAll.at_ {w : World} {A : Option Addr} {ps : List Part} (h : ReadsAll w A ps) (k : Nat) (hk : k < ps.length) : ∃ b off, A = some ⟨b, off, none⟩ ∧ b < w.heap.size ∧ w.cell? ⟨b, off + k, none⟩ = some ps[k].val ∧ Reads w ps[k].a ps[k].l := by
  rcases h with h | ⟨b, off, e, hlt, hc⟩
  · rw [h] at hk; simp at hk
  · exact ⟨b, off, e, hlt, (hc k hk).1, (hc k hk).2.2⟩
theorem textArgs_of {H : Type} {enc : TypeId × Value → H} {W : World} {base : Nat} {held : Bool} {a : Option Addr} {len cap : Nat} {d : DataW H} {p : List MemPlace}
    (h : DataW.Trod enc Tryd.prog W base (fun _ => true) held 96 (.slice a len cap) d p) : ∃ ps : List Part, ps.length = len ∧ len ≤ cap ∧ cap ≤ 9223372036854775807 ∧ ReadsAll W a ps ∧ ∀ k (h : k < ps.length), ps[k].l.length ≤ ps[k].cap ∧ ps[k].cap ≤ 9223372036854775807 ∧ (ps[k].a = none → ps[k].cap = 0) := by
  obtain ⟨fuel, hf⟩ := h
  rcases Go.Deep.open_int_rows Tryd.underlying96 Tryd.underlying22 Tryd.underlying5 cells_bytes cells_u8 hf with ⟨hcs, _⟩ | ⟨x, l, c, A, L, C, Z, hcs, _, hl, hm, _, hrow⟩
  · simp [Value.cells] at hcs
    obtain ⟨rfl, rfl, rfl⟩ := hcs
    exact ⟨[], rfl, Nat.le_refl _, by omega, .inl rfl, fun k h => by simp at h⟩
  · simp [Value.cells] at hcs
    obtain ⟨rfl, rfl, rfl⟩ := hcs
    refine ⟨(List.range len).map fun r => ⟨A r, C r, ((Z r).take (L r)).map fun z => UInt8.ofNat z.toNat⟩, by simp, hl, by simpa [maxLen] using hm, ?_, fun k hk => ?_⟩
    rotate_left
    · have hk' : k < len := by simpa using hk
      obtain ⟨r1, r2, r3, r4, r5, r6, r7⟩ := hrow k (by omega)
      have hlen : (((Z k).take (L k)).map fun z => UInt8.ofNat z.toNat).length = L k := by simp; omega
      simp only [List.getElem_map, List.getElem_range]
      refine ⟨by omega, by simpa [maxLen] using r3, fun e => ?_⟩
      have := r6 e; omega
    by_cases h0 : len = 0
    · subst h0; exact .inl (by simp)
    · obtain ⟨b, off, spot⟩ := x
      have hc := (hrow 0 (by omega)).1
      have hspot : spot = none := by simpa [Addr.add] using World.cell?_spot hc
      subst hspot
      refine .inr ⟨b, off, rfl, ?_, fun k hk => ?_⟩
      · rcases Nat.lt_or_ge b W.heap.size with h | h
        · exact h
        · exfalso
          simp [World.cell?, Addr.add, Array.getElem?_eq_none h] at hc
      · have hk' : k < len := by simpa using hk
        obtain ⟨r1, r2, r3, r4, r5, r6, r7⟩ := hrow k (by omega)
        have hlen : (((Z k).take (L k)).map fun z => UInt8.ofNat z.toNat).length = L k := by simp; omega
        rw [Addr.add_lit] at r1
        simp only [List.getElem_map, List.getElem_range]
        refine ⟨?_, ?_, ?_⟩
        · rw [r1]; unfold Part.val; simp only; rw [hlen]
        · rw [hlen]; have : C k ≤ maxLen := r3; unfold maxLen at this; omega
        · cases hA : A k with
          | none =>
            refine .inl (List.eq_nil_of_length_eq_zero ?_)
            rw [hlen]; have := r6 hA; omega
          | some a' => exact reads_of_ints r2 r4 r5 (r7 a' hA).2
set_option maxHeartbeats 400000 in
theorem sameInts_any (A A' : Option Addr) (cap cap' n n' : Nat) (l m : List Int) (w : World) (hn : l.length = n) (hn' : m.length = n') (hl : n ≤ 1000000) (hl' : n' ≤ 1000000) (hr : IntsArg w A cap l) (hr' : IntsArg w A' cap' m) :
    Calls Tryd.prog 19 #[.slice A n cap, .slice A' n' cap'] w fun e w' => e = .returned (.bool (decide (l = m))) ∧ ∃ k, w' = w.drewN k := by
  by_cases hlen : n = n'
  · subst hlen
    have HR := hide hr
    have HR' := hide hr'
    have HN := hide hn
    have HN' := hide hn'
    clear hr hr' hn hn'
    go_enter Tryd.func19, Tryd.ntmps19
    go_wp2
    go_loopw [5] (fun i wr => ∃ k : Nat, k ≤ n ∧ i = .int .i64 k ∧ l.take k = m.take k ∧ ∃ q, wr = w.drewN q) (fun i _ => n - (intOf i).toNat)
    case atStart => exact ⟨0, Nat.zero_le _, rfl, by simp, 0, rfl⟩
    case round =>
      obtain ⟨k, hk, rfl, htk, q, rfl⟩ := hrel
      have HTK := hide htk
      clear htk
      by_cases hlt : k < n
      · have hkl : k < l.length := by rw [HN.out]; exact hlt
        have hkm : k < m.length := by rw [HN'.out]; exact hlt
        obtain ⟨b, off, rfl, hcell⟩ := HR.out.get k hkl
        obtain ⟨b', off', rfl, hcell'⟩ := HR'.out.get k hkm
        have HL : Hid (l.take (k + 1) = l.take k ++ [l.getD k 0]) := by
          show _ = _; rw [List.take_succ_eq_append_getElem hkl]; simp [List.getD, hkl]
        have HM : Hid (m.take (k + 1) = m.take k ++ [m.getD k 0]) := by
          show _ = _; rw [List.take_succ_eq_append_getElem hkm]; simp [List.getD, hkm]
        clear hkl hkm
        generalize l.getD k 0 = x at *
        generalize m.getD k 0 = y at *
        by_cases hxy : x = y
        · subst hxy
          go_wp2
          go_quiet (fail)
          go_wp2
          go_roundw
          case rel => exact ⟨k + 1, by omega, by go_num, by rw [HL.out, HM.out, HTK.out], _, rfl⟩
          case measure => simp [intOf]; omega
        · have hne : (x == y) = false := beq_eq_false_iff_ne.2 hxy
          have HD : Hid (decide (l = m) = false) := by
            show _ = _
            rw [decide_eq_false_iff_not]
            intro e
            have h2 := HM.out
            rw [← e, HL.out, e] at h2
            have h3 := List.append_cancel_left h2
            simp at h3
            exact hxy h3
          clear hxy
          go_wp2
          go_quiet (fail)
          go_wp2
          go_ret
          exact ⟨by rw [HD.out]; rfl, _, rfl⟩
      · have HE : Hid (decide (l = m) = true) := by
          show _ = _
          rw [decide_eq_true_iff]
          have hkn : k = n := by omega
          have := HTK.out
          rw [hkn] at this
          rwa [show l.take n = l from by rw [← HN.out, List.take_length], show m.take n = m from by rw [← HN'.out, List.take_length]] at this
        go_wp2
        go_ret
        exact ⟨by rw [HE.out]; rfl, _, rfl⟩
  · have hd : decide (l = m) = false := by
      rw [decide_eq_false_iff_not]
      intro e; rw [e] at hn; omega
    rw [hd]
    clear hd hn hn' hr hr'
    go_enter Tryd.func19, Tryd.ntmps19
    go_wp2
    go_ret
    exact ⟨rfl, 0, rfl⟩
theorem OwnZ.ints {w : World} {base : Nat} {v : Value} {l : List Int} (h : OwnZ w base v l) (hz : ∀ z ∈ l, -9223372036854775808 ≤ z ∧ z ≤ 9223372036854775807) : ∃ A c, v = .slice A l.length c ∧ IntsArg w A c l := by
  rcases h.2 with ⟨e, h0⟩ | ⟨g, cap, cur, e, hg, hh, hc, hm, hs, ht⟩
  · exact ⟨none, 0, by rw [e, h0], ⟨by omega, by omega, fun _ => rfl, fun j hj => by omega, hz⟩⟩
  · refine ⟨_, cap, e, ⟨hc, by simpa [maxLen] using hm, fun e => (by cases e), fun j hj => ⟨g, 0, rfl, ?_⟩, hz⟩⟩
    have hc := World.ownsRow.cells (g := g) h (by rw [e]; rfl) j (.int .i64 (l.getD j 0)) (by simp [List.getD, hj])
    rwa [Addr.add_lit, Nat.zero_add] at *
theorem own_z {w : World} {base n : Nat} {v : Value} {l : List Int} (h : OwnZ w base v l) (hn : l.length = n) (hz : ∀ z ∈ l, -9223372036854775808 ≤ z ∧ z ≤ 9223372036854775807) : ∃ A c, v = .slice A n c ∧ IntsArg w A c l := by
  subst hn; exact h.ints hz
theorem St.lists_nil {α : Type} {f : Int → Option α} {l : List Int} (h : St.ListsI f l) (hf : ∀ x, f x = none) : l = [] :=
  List.eq_nil_iff_forall_not_mem.2 fun x hx => (h.2 x).1 hx (hf x)
theorem St.lists_one {α : Type} {f : Int → Option α} {l : List Int} (h : St.ListsI f l) (z : Int) (h1 : f z ≠ none) (hf : ∀ x, x ≠ z → f x = none) : l = [z] := by
  obtain ⟨hp, hm⟩ := h
  match l, hp, hm with
  | [], _, hm => exact absurd ((hm z).2 h1) (by simp)
  | [a], _, hm =>
    have : a = z := by
      by_cases e : a = z
      · exact e
      · exact absurd (hf a e) ((hm a).1 (by simp))
    rw [this]
  | a :: b :: t, hp, hm =>
    have e1 : a = z := Classical.byContradiction fun e => (hm a).1 (by simp) (hf a e)
    have e2 : b = z := Classical.byContradiction fun e => (hm b).1 (by simp) (hf b e)
    have := (List.pairwise_cons.1 hp).1 b (by simp)
    omega
theorem St.ask_free {α : Type} (s : St.S) (h : s.script = []) (z : α) (f : St.S → (α × Option Nat) × St.S) : s.ask z f = f s.took := by
  have ho : s.out = 0 := by simp [St.S.out, h]
  unfold St.S.ask
  rw [ho, if_neg (by omega), if_neg (by omega)]
theorem below_drew_q {w w' : World} (h : ∃ k, w' = w.drewN k) : Below w.heap.size w w' := by
  obtain ⟨q, rfl⟩ := h; exact below_drewN (Below.refl _ _) q
theorem StS.setB {w0 w : World} {S D : Nat → Prop} {sb n : Nat} {s : St.S} (h : StS w0 S D sb s n w) (b i : Nat) (v : Value) (hS : ¬ S b) (hD : ¬ D b) (h0 : w0.heap.size ≤ b) : StS w0 S D sb s n (w.setCell ⟨b, i, none⟩ v) :=
  ⟨h.st.kept (by simp) fun k hk _ => Below.heap_setCell _ _ _ _ (by show k ≠ b; rintro rfl; rcases hk with hk | hk; exact hS hk; exact hD hk), h.lo, h.below.setCell (p := ⟨b, i, none⟩) h0 v, h.calls, h.failed⟩
/-- One upload, open, with these parts of it. -/
structure St.AtP (k : St.Nm) (f : Int → Option (List UInt8)) (s : St.S) : Prop where
  script : s.script = []
  up : s.ups 1 = some ⟨k, f⟩
  ups : ∀ x, x ≠ 1 → s.ups x = none
  obj : s.objs k = none
structure St.AtQ (k : St.Nm) (b : Option (List UInt8)) (s : St.S) : Prop where
  script : s.script = []
  ups : ∀ x, s.ups x = none
  obj : s.objs k = b
theorem St.start_p (k : St.Nm) (hv : Dk.valid k = true) : (St.S.new.start k).1 = (1, none) ∧ St.AtP k (fun _ => none) (St.S.new.start k).2 := by
  unfold St.S.start
  rw [St.ask_free _ rfl]
  unfold St.S.startF
  rw [if_pos hv]
  exact ⟨rfl, rfl, by simp [St.upd, St.S.took, St.S.new], fun x hx => by simp [St.upd, St.S.took, St.S.new, hx], rfl⟩
theorem St.took_plain {s : St.S} (h : s.script = []) : s.took.script = [] ∧ s.took.ups = s.ups ∧ s.took.objs = s.objs := ⟨by simp [St.S.took, h], rfl, rfl⟩
theorem St.AtP.part {k : St.Nm} {f : Int → Option (List UInt8)} {s : St.S} (h : St.AtP k f s) (n : Int) (hn : 0 ≤ n ∧ n < 256) (b : List UInt8) : (s.part 1 n b).1.2 = none ∧ St.AtP k (St.upd f n (some b)) (s.part 1 n b).2 := by
  obtain ⟨h1, h2, h3⟩ := St.took_plain h.script
  unfold St.S.part
  rw [St.ask_free _ h.script]
  unfold St.S.partF
  rw [h2, h.up]
  simp only
  rw [if_neg (by omega)]
  exact ⟨rfl, h1, by simp [St.upd], fun x hx => by simp [St.upd, hx]; exact h.ups x hx, by rw [← h.obj, ← h3]⟩
theorem St.AtP.comp_bad {k : St.Nm} {f : Int → Option (List UInt8)} {s : St.S} (h : St.AtP k f s) (n : Nat) (hn : n ≤ 256) (hj : St.joinN f n = none) : (s.comp 1 n).1.2 = some 4 ∧ St.AtP k f (s.comp 1 n).2 := by
  obtain ⟨h1, h2, h3⟩ := St.took_plain h.script
  unfold St.S.comp
  rw [St.ask_free _ h.script]
  unfold St.S.compF
  rw [h2, h.up]
  simp only
  rw [if_neg (by omega), Int.toNat_natCast, hj]
  exact ⟨rfl, h1, h2 ▸ h.up, h2 ▸ h.ups, h3 ▸ h.obj⟩
theorem St.AtP.comp {k : St.Nm} {f : Int → Option (List UInt8)} {s : St.S} (h : St.AtP k f s) (n : Nat) (hn : n ≤ 256) (b : List UInt8) (hj : St.joinN f n = some b) : (s.comp 1 n).1.2 = none ∧ St.AtQ k (some b) (s.comp 1 n).2 := by
  obtain ⟨h1, h2, h3⟩ := St.took_plain h.script
  unfold St.S.comp
  rw [St.ask_free _ h.script]
  unfold St.S.compF
  rw [h2, h.up]
  simp only
  rw [if_neg (by omega), Int.toNat_natCast, hj]
  refine ⟨rfl, h1, fun x => ?_, by simp [St.upd]⟩
  by_cases e : x = 1
  · simp [St.upd, e]
  · simp [St.upd, e]; exact h.ups x e
theorem St.AtP.abort {k : St.Nm} {f : Int → Option (List UInt8)} {s : St.S} (h : St.AtP k f s) : (s.abort 1).1.2 = none ∧ St.AtQ k none (s.abort 1).2 := by
  obtain ⟨h1, h2, h3⟩ := St.took_plain h.script
  unfold St.S.abort
  rw [St.ask_free _ h.script]
  unfold St.S.abortF
  rw [h2, h.up]
  refine ⟨rfl, h1, fun x => ?_, h3 ▸ h.obj⟩
  by_cases e : x = 1
  · simp [St.upd, e]
  · simp [St.upd, e]; exact h.ups x e
theorem St.AtQ.part {k : St.Nm} {o : Option (List UInt8)} {s : St.S} (h : St.AtQ k o s) (z n : Int) (b : List UInt8) : (s.part z n b).1.2 = some 6 ∧ St.AtQ k o (s.part z n b).2 := by
  obtain ⟨h1, h2, h3⟩ := St.took_plain h.script
  unfold St.S.part
  rw [St.ask_free _ h.script]
  unfold St.S.partF
  rw [h2, h.ups z]
  exact ⟨rfl, h1, h2 ▸ h.ups, h3 ▸ h.obj⟩
theorem St.AtQ.comp {k : St.Nm} {o : Option (List UInt8)} {s : St.S} (h : St.AtQ k o s) (z n : Int) : (s.comp z n).1.2 = some 6 ∧ St.AtQ k o (s.comp z n).2 := by
  obtain ⟨h1, h2, h3⟩ := St.took_plain h.script
  unfold St.S.comp
  rw [St.ask_free _ h.script]
  unfold St.S.compF
  rw [h2, h.ups z]
  exact ⟨rfl, h1, h2 ▸ h.ups, h3 ▸ h.obj⟩
theorem St.joinN_len {f : Int → Option (List UInt8)} (B : Nat) (hf : ∀ x b, f x = some b → b.length ≤ B) : ∀ (n : Nat) (b : List UInt8), St.joinN f n = some b → b.length ≤ B * n
  | 0, b, h => by cases h; simp
  | n + 1, b, h => by
    unfold St.joinN at h
    cases h1 : St.joinN f n with
    | none => simp [h1] at h
    | some a =>
      cases h2 : f n with
      | none => simp [h1, h2] at h
      | some c =>
        simp [h1, h2] at h
        subst h
        have := St.joinN_len B hf n a h1
        have := hf _ _ h2
        rw [List.length_append, Nat.mul_succ]; omega
/-- The parts that so many rounds laid. -/
def partsP (ls : List (List UInt8)) (ks : Nat → Nat) : Nat → Int → Option (List UInt8)
  | 0 => fun _ => none
  | j + 1 => St.upd (partsP ls ks j) (ks j : Nat) (some (ls.getD (ks j) []))
theorem partsP_some (ls : List (List UInt8)) (ks : Nat → Nat) : ∀ (j : Nat) (x : Nat) (b : List UInt8), partsP ls ks j x = some b → b = ls.getD x []
  | 0, x, b, h => by cases h
  | j + 1, x, b, h => by
    unfold partsP St.upd at h
    split at h
    · next e => have : x = ks j := by omega
                subst this; exact (Option.some.inj h).symm
    · exact partsP_some ls ks j x b h
theorem partsP_len (ls : List (List UInt8)) (ks : Nat → Nat) (B : Nat) (hB : ∀ l ∈ ls, l.length ≤ B) : ∀ (j : Nat) (x : Int) (b : List UInt8), partsP ls ks j x = some b → b.length ≤ B
  | 0, x, b, h => by cases h
  | j + 1, x, b, h => by
    unfold partsP St.upd at h
    split at h
    · have := Option.some.inj h
      subst this
      by_cases hk : ks j < ls.length
      · have := hB _ (List.getElem_mem hk); simpa [List.getD, hk] using this
      · simp [List.getD, hk]
    · exact partsP_len ls ks B hB j x b h
theorem upd_upd {κ α : Type} [DecidableEq κ] (f : κ → Option α) (k : κ) (u v : Option α) : St.upd (St.upd f k u) k v = St.upd f k v := by
  funext x; unfold St.upd; split <;> rfl
/-- Whether one of the first is missing. -/
def missP (f : Int → Option (List UInt8)) : Nat → Bool
  | 0 => false
  | i + 1 => missP f i || (f (i : Nat)).isNone
theorem missP_true {f : Int → Option (List UInt8)} : ∀ {n : Nat}, missP f n = true → St.joinN f n = none
  | 0, h => by cases h
  | n + 1, h => by
    unfold missP at h
    unfold St.joinN
    rcases Bool.or_eq_true_iff.1 h with h | h
    · rw [missP_true h]
    · have : f (n : Nat) = none := by simpa using h
      rw [this]; split <;> simp_all
theorem missP_false {f : Int → Option (List UInt8)} {ps : List Part} : ∀ {n : Nat}, n ≤ ps.length → (∀ (x : Nat) b, f x = some b → b = (ps.map Part.l).getD x []) → missP f n = false → St.joinN f n = some (flat (ps.take n))
  | 0, _, _, _ => by simp [St.joinN, flat]
  | n + 1, hn, hf, h => by
    unfold missP at h
    obtain ⟨h1, h2⟩ := Bool.or_eq_false_iff.1 h
    have ih := missP_false (n := n) (by omega) hf h1
    cases h3 : f (n : Nat) with
    | none => simp [h3] at h2
    | some b =>
      have hb := hf n b h3
      unfold St.joinN
      rw [ih, h3]
      simp only
      have e : ps.take (n + 1) = ps.take n ++ [ps[n]] := List.take_succ_eq_append_getElem (by omega)
      have e2 : flat (ps.take n ++ [ps[n]]) = flat (ps.take n) ++ ps[n].l := by unfold flat; rw [List.flatMap_append]; simp
      rw [e, e2, hb]
      simp [List.getD, show n < ps.length by omega]
end Go.Proofs.YthlclknbehfloaaDoor

namespace Go.Proofs.YthlclknbehfloaaDoor
open Go.RowKit Go.Maps

theorem int_infoZ : (Tryd.prog.info? 3).map (fun i => (i.zero, i.size, i.bytes)) = some (some (.int .i64 0), 1, 8) := by kernel_rfl
section
variable {w : World} {ops : Array Oper} {rest : List Oper} {o : Oper} {a : Act} {Q : Exit → Act → World → Prop}
/-- append(s, z), s the call's own numbers. -/
theorem wpList_appZ (hgd : o.guard = none) (s x : Operand) (ho : o.op = .call { callee := .builtin .append, args := #[s, x], argTypes := #[23, 23] })
    (base : Nat) (v : Value) (l : List Int) (z : Int) (hs : a.eval s = v) (hown : OwnZ w base v l) (ad : Addr) (hx : a.eval x = .slice (some ad) 1 1) (hr : w.cell? (ad.add 0) = some (.int .i64 z))
    (hlen : l.length ≤ 1000000) (hbase : base ≤ w.heap.size)
    (h : ∀ v' w', OwnZ w' base v' (l ++ [z]) → w.grownBy w' v.ownBlock → (v'.ownBlock = v.ownBlock ∨ v'.ownBlock = some w.heap.size) → wpList Tryd.prog ops Q rest (a.put o.dst v') w') : wpList Tryd.prog ops Q (o :: rest) a w := by
  obtain ⟨i, hi, hz, hs1, hby⟩ := info_parts int_infoZ
  refine wpList_plain hgd fun K hK => ?_
  obtain ⟨v', w', hrun, h2, h3, _, h5⟩ := run_append_own_at (P := Tryd.prog) w base 23 o.type 3 i _ 1 8 Tryd.underlying23 hi hz hs1 hby rfl (by omega) v l.length (l.map (.int .i64 ·)) hown ad 1 1 [.int .i64 z] (by simp) (fun j u hu => by
      match j, hu with
      | 0, hu => simp only [List.getElem?_cons_zero, Option.some.injEq] at hu; subst hu; exact hr
      | j + 1, hu => simp at hu) (fun u hu => by simp only [List.mem_singleton] at hu; subst hu; rfl)
    (by simp only [maxLen]; omega) (by omega) hbase
  unfold Oper.wp execOp
  simp only [ho, resolve, invoke, builtin, Sem.run_bind, Sem.run_pure, Result.andThen_ok, List.map_toArray, List.map_cons, List.map_nil, hs, hx, hrun]
  refine hK _ _ (h v' w' ?_ h3 h5)
  unfold OwnZ
  rw [List.length_append, List.map_append]
  exact h2
end
/-- A row of numbers of the call's own, apart from a store. -/
structure Zr (S D : Nat → Prop) (B : Nat) (v : Value) (l : List Int) (w : World) : Prop where
  own : OwnZ w B v l
  ns : ∀ g, v.ownBlock = some g → ¬ S g ∧ ¬ D g
section
variable {S D S' D' : Nat → Prop} {B : Nat} {v : Value} {l : List Int} {w w' : World}
theorem Zr.lt (h : Zr S D B v l w) : ∀ g, v.ownBlock = some g → B ≤ g ∧ g < w.heap.size := World.ownsRow.lt h.own
theorem Zr.below (h : Zr S D B v l w) (hw : Below w.heap.size w w') : Zr S D B v l w' := ⟨ownsRow_same h.own fun g hg => hw.block g (h.lt g hg).2, h.ns⟩
theorem Zr.go (h : Zr S D B v l w) (hg : StGo S D S' D' w w') : Zr S' D' B v l w' :=
  ⟨ownsRow_same h.own fun g e => hg.chg.block g (h.lt g e).2 (h.ns g e).1, fun g e => ⟨fun hk => by
    rcases hg.s _ hk with h1 | h1
    · exact (h.ns g e).1 h1
    · have := (h.lt g e).2; omega, fun hk => by
    rcases hg.d _ hk with h1 | h1
    · exact (h.ns g e).2 h1
    · have := (h.lt g e).2; omega⟩⟩
theorem Zr.at_ (h : Zr S D B v l w) (n : Nat) (hn : l.length = n) : ∃ A c, v = .slice A n c ∧ ∀ k, k < n → ∃ g, A = some ⟨g, 0, none⟩ ∧ n ≤ c ∧ w.cell? ⟨g, k, none⟩ = some (.int .i64 (l.getD k 0)) := by
  subst hn
  rcases h.own.2 with ⟨e, e2⟩ | ⟨g, cap, cur, e, _, hh, hcap, _⟩
  · exact ⟨none, 0, by rw [e, e2], fun k hk => by omega⟩
  · refine ⟨_, cap, e, fun k hk => ⟨g, rfl, by omega, ?_⟩⟩
    have hc := World.ownsRow.cells (g := g) h.own (by rw [e]; rfl) k (.int .i64 (l.getD k 0)) (by simp [List.getD, hk])
    rwa [Addr.add_lit, Nat.zero_add] at hc
end
namespace St
structure AtU (k : Nm) (last : Int) (U : Int → Option Up) (O : Option (List UInt8)) (s : S) : Prop where
  script : s.script = []
  last : s.last = last
  ups : s.ups = U
  obj : s.objs k = O
variable {k : Nm} {last : Int} {U : Int → Option Up} {O : Option (List UInt8)} {s : S}
theorem AtU.start (h : AtU k last U O s) (hv : Dk.valid k = true) : (s.start k).1 = (last + 1, none) ∧ AtU k (last + 1) (upd U (last + 1) (some ⟨k, fun _ => none⟩)) O (s.start k).2 := by
  obtain ⟨h1, h2, h3⟩ := took_plain h.script
  have h4 : s.took.last = s.last := rfl
  unfold S.start
  rw [ask_free _ h.script]
  unfold S.startF
  rw [if_pos hv]
  exact ⟨by rw [h4, h.last], h1, by rw [h4, h.last], by rw [h4, h.last, h2, h.ups], by rw [← h.obj, ← h3]⟩
theorem AtU.part (h : AtU k last U O s) (id n : Int) (hn : 0 ≤ n ∧ n < 256) (b : List UInt8) (u : Up) (hu : U id = some u) : (s.part id n b).1.2 = none ∧ AtU k last (upd U id (some { u with parts := upd u.parts n (some b) })) O (s.part id n b).2 := by
  obtain ⟨h1, h2, h3⟩ := took_plain h.script
  have h4 : s.took.last = s.last := rfl
  unfold S.part
  rw [ask_free _ h.script]
  unfold S.partF
  rw [h2, h.ups, hu]
  simp only
  rw [if_neg (by omega)]
  exact ⟨rfl, h1, by rw [← h.last, ← h4], rfl, by rw [← h.obj, ← h3]⟩
theorem AtU.comp (h : AtU k last U O s) (id : Int) (n : Nat) (hn : n ≤ 256) (b : List UInt8) (u : Up) (hu : U id = some u) (hk : u.name = k) (hj : joinN u.parts n = some b) : (s.comp id n).1.2 = none ∧ AtU k last (upd U id none) (some b) (s.comp id n).2 := by
  obtain ⟨h1, h2, h3⟩ := took_plain h.script
  have h4 : s.took.last = s.last := rfl
  unfold S.comp
  rw [ask_free _ h.script]
  unfold S.compF
  rw [h2, h.ups, hu]
  simp only
  rw [if_neg (by omega), Int.toNat_natCast, hj]
  exact ⟨rfl, h1, by rw [← h.last, ← h4], rfl, by rw [hk]; simp [upd]⟩
/-- The one part of each. -/
def pA (a : List UInt8) (j : Nat) : Int → Option (List UInt8) := upd (fun _ => none) 0 (some (a ++ [UInt8.ofNat j]))
def UA (k : Nm) (a : List UInt8) : Nat → Int → Option Up
  | 0 => fun _ => none
  | j + 1 => upd (upd (UA k a j) ((j : Int) + 1) (some ⟨k, fun _ => none⟩)) ((j : Int) + 1) (some ⟨k, pA a j⟩)
theorem UA_at (k : Nm) (a : List UInt8) : ∀ (n i : Nat), i < n → UA k a n ((i : Int) + 1) = some ⟨k, pA a i⟩
  | 0, i, h => by omega
  | n + 1, i, h => by
    unfold UA
    by_cases e : i = n
    · subst e; simp [upd]
    · have e2 : ¬ (i : Int) + 1 = (n : Int) + 1 := by omega
      simp only [upd, if_neg e2]
      exact UA_at k a n i (by omega)
theorem UA_none (k : Nm) (a : List UInt8) : ∀ (n : Nat) (x : Int), ¬ (1 ≤ x ∧ x ≤ n) → UA k a n x = none
  | 0, x, _ => rfl
  | n + 1, x, h => by
    unfold UA
    have e2 : ¬ x = (n : Int) + 1 := by omega
    simp only [upd, if_neg e2]
    exact UA_none k a n x (by omega)
def idsL : Nat → List Int
  | 0 => []
  | j + 1 => idsL j ++ [(j : Int) + 1]
theorem idsL_len : ∀ n, (idsL n).length = n
  | 0 => rfl
  | n + 1 => by simp [idsL, idsL_len n]
theorem idsL_get : ∀ n i, i < n → (idsL n).getD i 0 = (i : Int) + 1
  | 0, i, h => by omega
  | n + 1, i, h => by
    unfold idsL
    by_cases e : i = n
    · subst e; simp [List.getD, idsL_len]
    · have := idsL_get n i (by omega)
      rw [← this]
      simp [List.getD, List.getElem?_append, idsL_len, show i < n by omega]
def leftZ (k j : Nat) : Nat → List Int
  | 0 => []
  | i + 1 => leftZ k j i ++ (if i ≠ k ∧ i ≠ j then [(i : Int) + 1] else [])
theorem leftZ_mem (k j : Nat) : ∀ (n : Nat) (x : Int), x ∈ leftZ k j n ↔ (1 ≤ x ∧ x ≤ n ∧ x ≠ (k : Int) + 1 ∧ x ≠ (j : Int) + 1)
  | 0, x => by simp [leftZ]; omega
  | n + 1, x => by
    unfold leftZ
    rw [List.mem_append, leftZ_mem k j n x]
    split
    · simp only [List.mem_singleton]; omega
    · simp only [List.not_mem_nil, or_false]; omega
theorem leftZ_rise (k j : Nat) : ∀ n : Nat, (leftZ k j n).Pairwise (· < ·)
  | 0 => List.Pairwise.nil
  | n + 1 => by
    unfold leftZ
    rw [List.pairwise_append]
    refine ⟨leftZ_rise k j n, by split <;> simp, fun x hx y hy => ?_⟩
    have := (leftZ_mem k j n x).1 hx
    split at hy
    · simp at hy; omega
    · simp at hy
theorem leftZ_len (k j : Nat) : ∀ n : Nat, (leftZ k j n).length ≤ n
  | 0 => Nat.le_refl _
  | n + 1 => by
    have := leftZ_len k j n
    unfold leftZ
    rw [List.length_append]; split <;> simp <;> omega
theorem rise_eq : ∀ (l m : List Int), l.Pairwise (· < ·) → m.Pairwise (· < ·) → (∀ x, x ∈ l ↔ x ∈ m) → l = m
  | [], [], _, _, _ => rfl
  | [], b :: m, _, _, h => absurd ((h b).2 (by simp)) (by simp)
  | a :: l, [], _, _, h => absurd ((h a).1 (by simp)) (by simp)
  | a :: l, b :: m, hl, hm, h => by
    obtain ⟨l1, l2⟩ := List.pairwise_cons.1 hl
    obtain ⟨m1, m2⟩ := List.pairwise_cons.1 hm
    have e : a = b := by
      rcases List.mem_cons.1 ((h a).1 (by simp)) with h1 | h1
      · exact h1
      · rcases List.mem_cons.1 ((h b).2 (by simp)) with h2 | h2
        · exact h2.symm
        · have := m1 a h1; have := l1 b h2; omega
    subst e
    rw [rise_eq l m l2 m2 fun x => ⟨fun hx => ?_, fun hx => ?_⟩]
    · rcases List.mem_cons.1 ((h x).1 (List.mem_cons_of_mem _ hx)) with h1 | h1
      · have := l1 x hx; omega
      · exact h1
    · rcases List.mem_cons.1 ((h x).2 (List.mem_cons_of_mem _ hx)) with h1 | h1
      · have := m1 x hx; omega
      · exact h1
theorem pA_join1 (a : List UInt8) (j : Nat) : joinN (pA a j) 1 = some (a ++ [UInt8.ofNat j]) := by simp [joinN, pA, upd]
theorem pA_join2 (a b : List UInt8) (j : Nat) : joinN (upd (pA a j) 1 (some b)) 2 = some (a ++ [UInt8.ofNat j] ++ b) := by simp [joinN, pA, upd]
end St
end Go.Proofs.YthlclknbehfloaaDoor

namespace Go.Proofs.YthlclknbehfloaaDoor
open Go.RowKit Go.Maps

/-- A box of the call's own is written beside a store. -/
theorem StS.boxed {w0 w w2 : World} {S D S2 D2 : Nat → Prop} {sb n vb i : Nat} {s : St.S} {cs : Array Value} {t : TypeId} (h : StS w0 S2 D2 sb s n w2) (hg : StGo S D S2 D2 w w2) (hv : w.heap[vb]? = some (.cells cs t (0, 0))) (hS : ¬ S vb) (hD : ¬ D vb) (h0 : w0.heap.size ≤ vb) (v : Value) :
    (w2.setCell ⟨vb, i, none⟩ v).heap[vb]? = some (.cells (cs.setIfInBounds i v) t (0, 0)) ∧ StS w0 S2 D2 sb s n (w2.setCell ⟨vb, i, none⟩ v) ∧ CaGo S D (fun k => k = vb) S2 D2 w (w2.setCell ⟨vb, i, none⟩ v) := by
  have hl := (Array.getElem?_eq_some_iff.1 hv).1
  have hc : CaGo S D (fun k => k = vb) S2 D2 w w2 := CaGo.of_st hg
  have hc2 : CaGo S D (fun _ => False) S2 D2 w w2 := CaGo.of_st hg
  obtain ⟨e, hS2⟩ := hc2.stays hl hS id
  have hD2 := hc2.notD hl hD
  exact ⟨heap_set (e.trans hv) i v, h.setC vb i v hS2 hD2 h0, hc.trans ⟨Chg.setCell (S := fun k => S2 k ∨ k = vb) w2 vb i v (.inr rfl), fun _ h => .inl h, fun _ h => .inl h⟩⟩

set_option maxRecDepth 100000 in
set_option maxHeartbeats 1000000 in
/-- The closure of Start. -/
theorem caStart1_any {w0 w : World} {S D : Nat → Prop} {sb cb n : Nat} {s : St.S} (h : StS w0 S D sb s n w) (c0 : w.cell? ⟨cb, 0, none⟩ = some (.pointer (some ⟨sb, 0, none⟩))) (p : Nat → Addr) (hs : Sents w0 p) (hn : n ≤ 1000000) (xc xn vb : Nat) (k : List UInt8) (hk : k.length ≤ 100000)
    (c1 : w.cell? ⟨xc, 0, none⟩ = some (.pointer (some ⟨cb, 0, none⟩))) (c2 : w.cell? ⟨xn, 0, none⟩ = some (encStr k)) (z : Int) (hv : w.heap[vb]? = some (.cells #[.int .i64 z] 3 (0, 0))) (hS : ¬ S vb) (hD : ¬ D vb) (h0 : w0.heap.size ≤ vb) :
    Calls Tryd.prog 52 #[.pointer (some ⟨xc, 0, none⟩), .pointer (some ⟨xn, 0, none⟩), .pointer (some ⟨vb, 0, none⟩)] w fun e w' => e = .returned (errR p (s.start k).1.2) ∧ w'.heap[vb]? = some (.cells #[.int .i64 (s.start k).1.1] 3 (0, 0)) ∧ ∃ S' D', StS w0 S' D' sb (s.start k).2 (n + 1) w' ∧ CaGo S D (fun k => k = vb) S' D' w w' := by
  have HP := hide (fun (W : World) (hW : Below w.heap.size w W) => StS.start (h.grow hW) p hs hn k hk)
  have HV := hide (fun (W : World) (hW : Below w.heap.size w W) (w2 : World) (S2 D2 : Nat → Prop) (h2 : StS w0 S2 D2 sb (s.start k).2 (n + 1) w2) (hg : StGo S D S2 D2 W w2) (v : Value) => h2.boxed (i := 0) hg ((hW.block vb (Array.getElem?_eq_some_iff.1 hv).1).trans hv) hS hD h0 v)
  have HC := hide (fun (W : World) (hW : Below w.heap.size w W) (w2 : World) (S2 D2 : Nat → Prop) (hg : StGo S D S2 D2 W w2) => (((CaGo.of_st (K := fun _ => False) hg).stays (Nat.lt_of_lt_of_le (Array.getElem?_eq_some_iff.1 hv).1 hW.size) hS id).1.trans ((hW.block vb (Array.getElem?_eq_some_iff.1 hv).1).trans hv) : w2.heap[vb]? = some (.cells #[.int .i64 z] 3 (0, 0))))
  clear h hs hn hk hv hS hD h0
  go_enter Tryd.func52, Tryd.ntmps52
  go_wp2_with fail
  go_region_with (go_at_call 11; refine (HP.out _ (below_drewN (Below.refl _ _) _)).mono ?_; rintro e w2 ⟨rfl, S2, D2, h2, hg⟩; have H2 := hide h2; have HG := hide hg; have hx := HC.out _ (below_drewN (Below.refl _ _) _) w2 S2 D2 hg; have cv := box_cell hx 0; have fv := box_free hx 0; clear h2 hg hx)
  all_goals
    go_wp2_with fail
    refine bodyPost_ret (by simp [results, Tryd.results52, go_sem]; try rfl) rfl ?_
    obtain ⟨q1, q2, q3⟩ := HV.out _ (below_drewN (Below.refl _ _) _) w2 S2 D2 H2.out HG.out (.int .i64 (s.start k).1.1)
    exact ⟨rfl, q1, S2, D2, q2, q3.ahead (below_drewN (Below.refl _ _) _) fun k hk => .inl hk⟩

/-- What a client's Start makes of a store. -/
abbrev St.cstart (t : Nat) (k : St.Nm) (s : St.S) : St.Ag (St.S × Int) := St.again (St.askOf fun s => s.ask 0 (St.S.startF k)) t (s, 0)
theorem St.start_in {E : Nat → Prop} (h5 : E 5) (k : St.Nm) (t : St.S) (j : Nat) (h : (St.S.startF k t).1.2 = some j) : E j := by
  unfold St.S.startF at h; split at h <;> simp at h; exact h ▸ h5
set_option maxRecDepth 100000 in
set_option maxHeartbeats 1000000 in
theorem CaS.start {w0 w : World} {S D : Nat → Prop} {sb cb t n : Nat} {a : Int} {s : St.S} (h : CaS w0 S D sb cb t a s n w) (p : Nat → Addr) (hs : Sents w0 p) (ht : 1 ≤ t ∧ t ≤ 8) (hn : n ≤ 900000) (k : List UInt8) (hk : k.length ≤ 100000) :
    Calls Tryd.prog 27 #[.pointer (some ⟨cb, 0, none⟩), encStr k] w fun e w' => e = .returned (.tuple #[.int .i64 (St.cstart t k s).st.2, errR p (St.cstart t k s).r]) ∧ ∃ S' D', CaS w0 S' D' sb cb t (a + (St.cstart t k s).k) (St.cstart t k s).st.1 (n + t) w' ∧ CaGo S D (fun k => k = cb) S' D' w w' := by
  obtain ⟨W, hW⟩ : ∃ W, W = ((w.alloc (.cells #[.pointer (some ⟨cb, 0, none⟩)] 46)).alloc (.cells #[encStr k] 9)).alloc (.cells #[.int .i64 0] 3) := ⟨_, rfl⟩
  have hb : Below w.heap.size w W := hW ▸ balloc (balloc (balloc (Below.refl _ _) _) _) _
  have q0 : W.cell? ⟨w.heap.size, 0, none⟩ = some (.pointer (some ⟨cb, 0, none⟩)) := by
    rw [hW, World.cell?_alloc_lt _ _ _ (by simp; omega), World.cell?_alloc_lt _ _ _ (by simp), World.cell?_alloc_mark]; rfl
  have q1 : W.cell? ⟨w.heap.size + 1, 0, none⟩ = some (encStr k) := by
    rw [hW, World.cell?_alloc_lt _ _ _ (by simp)]
    have e : (w.alloc (.cells #[.pointer (some ⟨cb, 0, none⟩)] 46)).heap.size = w.heap.size + 1 := by simp
    rw [← e, World.cell?_alloc_mark]; rfl
  have q2 : W.heap[w.heap.size + 2]? = some (.cells #[.int .i64 0] 3 (0, 0)) := by
    have e : ((w.alloc (.cells #[.pointer (some ⟨cb, 0, none⟩)] 46)).alloc (.cells #[encStr k] 9)).heap.size = w.heap.size + 2 := by simp
    rw [hW, ← e, heap_alloc_new]
  have hcl : cb < w.heap.size := (Array.getElem?_eq_some_iff.1 h.box).1
  have hvl : w.heap.size + 2 < W.heap.size := (Array.getElem?_eq_some_iff.1 q2).1
  have hnS : ∀ x, w.heap.size ≤ x → ¬ S x := fun x hx hS => by have := h.st.lt _ (.inl hS); omega
  have hnD : ∀ x, w.heap.size ≤ x → ¬ D x := fun x hx hS => by have := h.st.lt _ (.inr hS); omega
  have hw0 : w0.heap.size ≤ w.heap.size := h.st.below.size
  have HA := hide (caAgain (E := fun j => j < 19) (by omega) (h.grow hb) hs ht (by omega) 52 #[.pointer (some ⟨w.heap.size, 0, none⟩), .pointer (some ⟨w.heap.size + 1, 0, none⟩), .pointer (some ⟨w.heap.size + 2, 0, none⟩)] (enters_of Tryd.func52 (by kernel_rfl) rfl)
    (fun s => s.ask 0 (St.S.startF k)) (St.err_in (E := fun j => j < 19) (by omega) 0 _ (St.start_in (E := fun j => j < 19) (by omega) k)) (fun x => x = w.heap.size + 2) (fun z W => W.heap[w.heap.size + 2]? = some (.cells #[.int .i64 z] 3 (0, 0))) (fun _ => True) (fun _ _ => trivial)
    (fun x W1 v hx => (Below.heap_setCell _ _ _ _ (fun e => by have e2 : w.heap.size + 2 = cb := e; omega)).trans hx)
    (fun S1 D1 s1 a1 n1 x W1 h1 _ h3 h4 hgo hx => by
      have hS1 : ¬ S1 (w.heap.size + 2) := fun hy => by
        rcases hgo.s _ hy with hy | hy
        · exact hnS _ (by omega) hy
        · omega
      have hD1 : ¬ D1 (w.heap.size + 2) := fun hy => by
        rcases hgo.d _ hy with hy | hy
        · exact hnD _ (by omega) hy
        · omega
      exact caStart1_any h3 (box_cell h4 0) p hs (by omega) _ _ _ k hk (hgo.cell q0 (hnS _ (Nat.le_refl _)) (by omega)) (hgo.cell q1 (hnS _ (by omega)) (by omega)) x hx hS1 hD1 (by omega)) (by omega) 0 q2 trivial)
  have HW := hide hW
  have HB := hide hb
  clear h hs ht hn hk hW hb q0 q1 q2 hcl hvl hnS hnD hw0
  go_enter Tryd.func27, Tryd.ntmps27
  go_wp2_with (first
    | (go_at_call 50; rw [← HW.out]; refine HA.out.mono ?_; rintro e w2 ⟨rfl, hbx, -, S', D', h1, h2⟩; have H1 := hide h1; have H2 := hide h2; have cv := box_cell hbx 0; simp only [List.getElem?_toArray, List.getElem?_cons_zero] at cv; clear h1 h2 hbx)
    | fail)
  go_returns
  exact ⟨rfl, S', D', H1.out, H2.out.ahead HB.out fun k hk => hk.elim .inl fun e => .inr (by omega)⟩
end Go.Proofs.YthlclknbehfloaaDoor

namespace Go.Proofs.YthlclknbehfloaaDoor.St

theorem idsL_of {α : Type} {f : Int → Option α} {l : List Int} {n : Nat} (h : ListsI f l) (hf : ∀ i, f i ≠ none ↔ 0 < i ∧ i ≤ (n : Int)) : l = idsL n := by
  have hm : ∀ (n : Nat) (x : Int), x ∈ idsL n ↔ 0 < x ∧ x ≤ (n : Int) := fun n => by
    induction n with
    | zero => intro x; simp only [idsL, List.not_mem_nil, false_iff]; omega
    | succ n ih =>
      intro x
      simp only [idsL, List.mem_append, List.mem_singleton, ih x]
      push_cast
      omega
  have hr : ∀ n : Nat, (idsL n).Pairwise (· < ·) := fun n => by
    induction n with
    | zero => exact List.Pairwise.nil
    | succ n ih =>
      simp only [idsL]
      refine List.pairwise_append.2 ⟨ih, by simp, fun a ha b hb => ?_⟩
      have := (hm n a).1 ha
      simp only [List.mem_singleton] at hb
      omega
  exact rise_eq l _ h.1 (hr n) fun x => by rw [h.2 x, hf x, hm n x]
/-- Starts whose answers are lost so many times. -/
theorem cstart_of (k : Nm) (hk : Dk.valid k = true) (t m : Nat) (ht : 0 < t) :
    (m < t → (cstart t k (sE m 2)).r = none ∧ (cstart t k (sE m 2)).st.2 = (m : Int) + 1) ∧ (¬ m < t → (cstart t k (sE m 2)).r = some 10 ∧ (cstart t k (sE m 2)).st.2 = 0) ∧
      ∀ l, ListsI (cstart t k (sE m 2)).st.1.ups l → l = idsL (min (m + 1) t) := by
  obtain ⟨h1, h2, h3, h4⟩ := start_rep k hk t m none (sE m 2, 0) rfl
  have h0 : (sE m 2).last = 0 := rfl
  have hu : ∀ i, (sE m 2).ups i = none := fun _ => rfl
  refine ⟨fun h => ?_, fun h => ?_, fun l hl => ?_⟩
  · obtain ⟨q1, q2, _⟩ := h1 h
    exact ⟨q1, by rw [q2]; simp [sE, S.new]⟩
  · obtain ⟨q1, q2, _⟩ := h2 (by omega) (.inl ht)
    exact ⟨q1, q2⟩
  · refine idsL_of hl fun i => ?_
    rw [h3 i]
    have hlast : (agn (askOf fun s => s.ask 0 (S.startF k)) t none (sE m 2, 0)).st.1.last = ((min (m + 1) t : Nat) : Int) := by
      by_cases h : m < t
      · rw [(h1 h).2.2]; simp only [h0]; omega
      · rw [(h2 (by omega) (.inl ht)).2.2]; simp only [h0]; omega
    rw [hlast]
    simp [h0, hu]
end Go.Proofs.YthlclknbehfloaaDoor.St
namespace Go.Proofs.YthlclknbehfloaaDoor
open Go.RowKit Go.Maps

theorem idsL_fit (n : Nat) (hn : n ≤ 1000) : ∀ z ∈ St.idsL n, -9223372036854775808 ≤ z ∧ z ≤ 9223372036854775807 := by
  induction n with
  | zero => simp [St.idsL]
  | succ n ih =>
    intro z hz
    simp only [St.idsL, List.mem_append, List.mem_singleton] at hz
    rcases hz with hz | hz
    · exact ih (by omega) z hz
    · omega
theorem St.sE_two (i : Nat) : (St.sE i 2).script.length = i := by simp [St.sE]

set_option maxRecDepth 100000 in
set_option maxHeartbeats 1000000 in
theorem callStarts_walk (w : World) (p : Nat → Addr) (hs : Sents w p) (n1 n0 : Int) (h11 : -9223372036854775808 ≤ n1) (h12 : n1 ≤ 9223372036854775807) (h01 : -9223372036854775808 ≤ n0) (h02 : n0 ≤ 9223372036854775807) :
    Calls Tryd.prog 7 #[.int .i64 n1, .int .i64 n0] w fun e w' => e = .returned (.bool true) ∧ Below w.heap.size w w' := by
  have HS := hide hs
  have HF := hide (caFirst_any (E := fun j => j < 19) (by omega) (by omega) w p hs)
  have h8 : num n0 8 < 8 := num_lt n0 8 (by omega)
  have h10 : num n1 10 < 10 := num_lt n1 10 (by omega)
  obtain ⟨u, hu⟩ : ∃ u, num n0 8 = u := ⟨_, rfl⟩
  obtain ⟨m, hm⟩ : ∃ m, num n1 10 = m := ⟨_, rfl⟩
  rw [hu] at h8
  rw [hm] at h10
  have HU := hide hu
  have HM := hide hm
  have hw1 : IntKind.i64.wrap ((u : Int) + 1) = (u : Int) + 1 := IntWalk.i64_in _ (by omega)
  have hw2 : IntKind.i64.wrap ((m : Int) + 1) = (m : Int) + 1 := IntWalk.i64_in _ (by omega)
  have HC := hide (St.cstart_of [117] (by decide) (u + 1) m (by omega))
  clear hs hu hm
  go_enter Tryd.func7, Tryd.ntmps7
  go_wp2_with (first
    | (go_at_call 22; refine HF.out.mono ?_; rintro e w1 ⟨rfl, hb⟩; have HB1 := hide hb; clear hb)
    | (have := HB2.out; clear this; go_at_call 23; refine (num_at n1 10 10 w1 (by omega) (by omega) (by omega) h11 h12).mono ?_; rintro e w1' ⟨rfl, rfl⟩; rw [HM.out])
    | (go_at_call 23; refine (num_at n0 8 8 w1 (by omega) (by omega) (by omega) h01 h02).mono ?_; rintro e w1' ⟨rfl, rfl⟩; rw [HU.out]; have HB2 := HB1)
    | (go_at_call 9; refine (stNew_any w w1 HB1.out).mono ?_; rintro e w2 ⟨sb, S, rfl, h, -, -⟩; have H2 := hide h; clear h)
    | (go_at_call 24; refine (caNew_any H2.out (u + 1) (by omega) ((u : Int) + 1) (by push_cast; rfl)).mono ?_; rintro e w3 ⟨rfl, h, -⟩; have H3 := hide h; clear h H2; generalize w2.heap.size = cb at *)
    | fail)
  go_loopw [9] (fun i wr => ∃ (j : Nat) (S D : Nat → Prop), j ≤ m ∧ i = .int .i64 j ∧ CaS w S D sb cb (u + 1) 0 (St.sE j 2) 0 wr) (fun i _ => m - (intOf i).toNat)
  case atStart => exact ⟨0, S, _, Nat.zero_le _, rfl, H3.out⟩
  case round =>
    obtain ⟨j, S4, D4, hj, rfl, h4⟩ := hrel
    have H4 := hide h4
    clear h4
    by_cases hlt : j < m
    · go_wp2_with (first
        | (go_at_call 12; have h5 := H4.out.grow (balloc (Below.refl _ _) (.cells #[.int .i64 2] 3)); refine (StS.script h5.st (some ⟨wr.heap.size, 0, none⟩) 1 1 [2] (IntsArg.made wr [2] _ _ 1 rfl rfl (by omega) (by simp)) rfl (by rw [St.sE_two]; omega)).mono ?_; rintro e w5 ⟨rfl, S5, h, hg⟩; rw [St.sE_more] at h; have H5 := hide (h5.other h hg (Nat.le_refl _)); clear h hg h5)
        | fail)
      exact ⟨⟨j + 1, S5, D4, by omega, by simp, H5.out⟩, by simp [intOf]; omega⟩
    · obtain rfl : j = m := by omega
      have HST := hide (H4.out.start p HS.out (by omega) (by omega) [117] (by simp))
      by_cases hmu : j < u + 1
      · have hr := (HC.out.1 hmu).1
        have hv := (HC.out.1 hmu).2
        have hids := fun l hl => (HC.out.2.2 l hl).trans (by rw [Nat.min_eq_left (by omega)] : St.idsL (min (j + 1) (u + 1)) = St.idsL (j + 1))
        have hge : ¬ ((u : Int) + 1 ≤ (j : Int)) := by omega
        have HR := hide hr
        have HV := hide hv
        have HI := hide hids
        clear hr hv hids
        go_wp2_with (first
          | (go_at_call 27; refine HST.out.mono ?_; rintro e w5 ⟨rfl, S5, D5, h, -⟩; rw [HR.out, HV.out]; have HO := hide (h.st.openOf (by omega)); have H5 := hide h; clear h; unfold errR)
          | (go_at_call 20; refine HO.out.mono ?_; rintro e w6 ⟨v, l, rfl, hl, ho, hb⟩; have H6 := hide (H5.out.grow hb); have hli := HI.out l hl; subst hli; obtain ⟨A6, c6, rfl, hi⟩ := own_z (n := j + 1) ho (St.idsL_len _) (idsL_fit _ (by omega)); obtain ⟨b6, o6, hA6, hcell⟩ := hi.get j (by rw [St.idsL_len]; omega); subst hA6; rw [St.idsL_get _ _ (by omega)] at hcell; have hle6 := hi.le; rw [St.idsL_len] at hle6; clear hl ho hb hi)
          | fail)
        go_ret
        exact ⟨rfl, H6.out.st.below⟩
      · have hr := (HC.out.2.1 hmu).1
        have hv := (HC.out.2.1 hmu).2
        have hids := fun l hl => (HC.out.2.2 l hl).trans (by rw [Nat.min_eq_right (by omega)] : St.idsL (min (j + 1) (u + 1)) = St.idsL (u + 1))
        have hge : ((u : Int) + 1 ≤ (j : Int)) := by omega
        have HR := hide hr
        have HV := hide hv
        have HI := hide hids
        clear hr hv hids
        go_wp2_with (first
          | (go_at_call 27; refine HST.out.mono ?_; rintro e w5 ⟨rfl, S5, D5, h, -⟩; rw [HR.out, HV.out]; have HO := hide (fun (W : World) (hW : Below w5.heap.size w5 W) => (h.grow hW).st.openOf (by omega)); have H5 := hide h; clear h; unfold errR)
          | (go_at_call 17; refine (is_sent w5 p (HS.out.below H5.out.st.below) 10 (by omega) 111).mono ?_; rintro e w7 ⟨rfl, hb⟩; have HB7 := hide hb; clear hb)
          | (go_at_call 20; refine (HO.out _ HB7.out).mono ?_; rintro e w6 ⟨v, l, rfl, hl, ho, hb⟩; have H6 := hide ((H5.out.grow HB7.out).grow hb); have hli := HI.out l hl; subst hli; obtain ⟨A6, c6, rfl, -⟩ := own_z (n := u + 1) ho (St.idsL_len _) (idsL_fit _ (by omega)); clear hl ho hb)
          | fail)
        go_ret
        exact ⟨rfl, H6.out.st.below⟩
end Go.Proofs.YthlclknbehfloaaDoor

namespace Go.Proofs.YthlclknbehfloaaDoor.CallStartsLaw
open Go.Proofs.YthlclknbehfloaaDoor
open Go.RowKit Go.ChangeShapes Go.WideShapes Go.ChangeAt

set_option maxRecDepth 100000 in
theorem lifted (os : Os) (started : os.Started) (H : Type) (enc : TypeId × Value → H) :
    ReturnsInHanded {} Tryd.checked os 7 .any (fun w args => (Rows.callStartsSpec.pre enc Tryd.prog Tryd.f7 [] false w args ∧ laidMetH Tryd.prog laidErr w) ∧ sizedMet enc Tryd.prog Tryd.f7 (OpenSpec.ofChange Rows.callStartsSpec) false w args)
      (Rows.callStartsSpec.post enc Tryd.prog Tryd.f7 false true false false) := by
  refine returnsInHanded_of_change_and (C := Tryd.checked) (X := fun w _ => laidMetH Tryd.prog laidErr w) (fun _ _ _ hh h => h.of_heap hh) own started (by kernel_rfl) Tryd.func7
    (ChangeSpec.witness_shaped (enc := enc) (C := Tryd.checked) (os := os) (X := fun w _ => laidMetH Tryd.prog laidErr w) false (World.doorLaid Tryd.prog 400 os) #[.int .i64 0, .int .i64 0] 8 rfl (World.shaped_of_RefB (by kernel_rfl) (by kernel_rfl)) (by kernel_rfl) (by kernel_rfl) (by kernel_rfl) (door_met_err os _)) ?_
  intro W base args ds gs before hval0 hW _ _ hL _
  have hval : ∀ (j : Nat) t v, Tryd.f7.params[j]? = some t → args[j]? = some v → Value.okWide Tryd.prog W .any base t v := hval0
  have hW' := hW
  obtain ⟨p, q, hA0, hV, rfl, hfz, hnd⟩ := hW
  have hA : DataW.TrodAll enc Tryd.prog W 0 (fun _ => true) true Tryd.f7.params.toList args.toList ds p := hA0
  rw [Tryd.params7] at hA hval
  obtain ⟨v0, vs0, d0, ds0, p0, q0, hargs, rfl, rfl, h0, r0⟩ := trodAll_cons hA
  obtain ⟨v1, vs1, d1, ds1, p1, q1, rfl, rfl, rfl, h1, r1⟩ := trodAll_cons r0
  obtain ⟨rfl, rfl, rfl⟩ := trodAll_nil r1
  obtain rfl : args = #[v0, v1] := by cases args; simp_all
  obtain ⟨rfl, rfl⟩ := trodVars_none hV
  obtain ⟨a0, rfl, rfl, rfl, w0⟩ := open_int Tryd.underlying3 (hval 0 3 v0 rfl rfl) h0
  have hb0 := bounds_i64 w0
  obtain ⟨a1, rfl, rfl, rfl, w1⟩ := open_int Tryd.underlying3 (hval 1 3 v1 rfl rfl) h1
  have hb1 := bounds_i64 w1
  clear hA0 hval0
  obtain ⟨ps, hsent⟩ := sents_of_err hL
  refine (callStarts_walk W ps hsent a0 a1 hb0.1 hb0.2 hb1.1 hb1.2).mono fun e W' ⟨he, bel⟩ => ?_
  subst he
  exact ⟨_, rfl, _, _, _, [], _, [], hW', trodAll_mk1 (shut_bool Tryd.underlying4 _), (trodAll_cons_mk (shut_int Tryd.underlying3 w0) (trodAll_cons_mk (shut_int Tryd.underlying3 w1) trodAll_mk0)), rfl, bel.frame _, fun h => by cases h⟩

theorem row : Rows.CallStartsSaid :=
  OpenClaim.holds_of_wide 7 Tryd.f7 rfl rfl rfl rfl rfl rfl rfl ⟨rfl, rfl, rfl, rfl, rfl⟩ rfl rfl rfl rfl rfl (by kernel_rfl) Tryd.func7 (by kernel_rfl)
    (of_decide_eq_true (by kernel_rfl)) (by unfold Func.isWrapper; first | (rw [if_pos (by decide +kernel)]; kernel_rfl) | (rw [if_neg (by decide +kernel)]; exact ⟨rfl, rfl⟩))
    (fun os started H enc _ => lifted os started H enc)

theorem proved : Rows.CallStartsCardSaid :=
  Claim7.holds_tied_plain_at .later [] _ true _ true
    row (fun _ h => by cases h) (by kernel_rfl) (fun _ h => by cases h) callStarts_row_tie rfl ⟨rfl, rfl⟩ (by kernel_rfl) rfl
    (fun f fn hf hfn => by
      obtain rfl : f = 7 := Option.some.inj ((show Tryd.prog.funcNamed "cordwood/cordwoodlaw12.CallStarts" = some 7 by kernel_rfl).symm.trans hf) |>.symm
      obtain rfl : fn = Tryd.f7 := (Option.some.inj (Tryd.func7.symm.trans hfn)).symm
      exact ⟨by kernel_rfl, fun j t ht => by
        rw [Tryd.params7] at ht
        have hm : t ∈ [3, 3] := by simpa using Array.mem_of_getElem? ht
        have hall : ([3, 3].all fun u => !Tryd.prog.wantsStandIn u) = true := by kernel_rfl
        exact (show Tryd.prog.wantsStandIn t = false by simpa using List.all_eq_true.1 hall t hm)⟩)
    (by kernel_rfl)
end Go.Proofs.YthlclknbehfloaaDoor.CallStartsLaw
