/-
  A store's names and uploads: Names, Open.
  What StoreParts asks beside the store: its bounds, its rows of numbers, and the parts that it laid, plainly.
  CallTwice, plainly: what is done but once.
  CallEnds, walked.
  CallTwice, walked.
  CallTwice, proved.
-/
import Derived.Test.YthlclknbehfloaaDoorT8
import Derived.Test.YthlclknbehfloaaDoorT4
import Derived.Test.YthlclknbehfloaaDoorT9
import Derived.Test.YthlclknbehfloaaDoorT1
import Derived.LoopTactic
import Derived.Deep.LoopGhost
import Derived.Test.YthlclknbehfloaaDoorU4
import Derived.Test.YthlclknbehfloaaDoorU2
import Derived.Test.YthlclknbehfloaaDoorT6
namespace Go.Proofs.YthlclknbehfloaaDoor
open Go.RowKit Go.Maps Go.Sort

/-- These are the numbers, or the names, at which there is anything, rising. -/
def St.ListsI {α : Type} (f : Int → Option α) (l : List Int) : Prop := l.Pairwise (· < ·) ∧ ∀ x, x ∈ l ↔ f x ≠ none
def St.ListsS {α : Type} (f : List UInt8 → Option α) (l : List (List UInt8)) : Prop := l.Pairwise (· < ·) ∧ ∀ x, x ∈ l ↔ f x ≠ none
def OwnZ (w : World) (base : Nat) (v : Value) (l : List Int) : Prop := w.ownsRow base 3 1 v l.length (l.map (.int .i64 ·))

theorem keysI_lists {w : World} {b nn : Nat} {D0 : DataW Value} {f : Int → Option Value} (hown : w.ownsMap Tryd.prog 3 heldE b nn D0) (hat0 : ∀ k zd, D0.atKey (.int .i64 k) zd = heldV (f k) zd) {ss : List Int} (h : ss.Perm (intKeys D0)) :
    St.ListsI f (ss.mergeSort fun x y => decide (x ≤ y)) := by
  obtain ⟨es, hD, hpw, _⟩ := hown.entries intK
  obtain ⟨es', hD', hko⟩ := hown.keysOf
  obtain rfl : es = es' := by rw [hD] at hD'; simpa using hD'
  subst hD
  have hk : ∀ p ∈ es, ∃ x, p.1 = .int .i64 x := fun p hp => by
    obtain ⟨v, hv⟩ := hko p hp
    obtain ⟨x, _, hx, _⟩ := Maps.keyOf_int_inv Tryd.underlying3 hv
    exact ⟨x, hx⟩
  have hnd : (intKeys (.map es)).Nodup := by
    show (es.map fun p => Go.intOf p.1).Nodup
    refine List.pairwise_map.2 (hpw.imp_of_mem fun {p q} hp hq hne e => hne ?_)
    obtain ⟨x, hx⟩ := hk p hp
    obtain ⟨y, hy⟩ := hk q hq
    rw [hx, hy] at e ⊢
    exact congrArg _ e
  have hmem : ∀ x, x ∈ intKeys (.map es) ↔ f x ≠ none := fun x => by
    have h1 := hasV (mk := fun k : Int => Lit.int .i64 k) hat0 x
    have h2 : f x ≠ none ↔ Maps.has (.map es) (Lit.int .i64 x) = true := by rw [h1]; cases f x <;> simp
    rw [h2, has_eq, List.any_eq_true]
    show x ∈ es.map (fun p => Go.intOf p.1) ↔ _
    rw [List.mem_map]
    constructor
    · rintro ⟨p, hp, rfl⟩
      obtain ⟨y, hy⟩ := hk p hp
      exact ⟨p, hp, by rw [hy]; simp [Lit.sameKey, Go.intOf]⟩
    · rintro ⟨p, hp, hs⟩
      obtain ⟨y, hy⟩ := hk p hp
      rw [hy] at hs
      exact ⟨p, hp, by rw [hy]; simpa [Lit.sameKey, Go.intOf] using hs⟩
  have hp2 : (ss.mergeSort fun x y => decide (x ≤ y)).Perm (intKeys (.map es)) := (List.mergeSort_perm ss _).trans h
  refine ⟨?_, fun x => (hp2.mem_iff).trans (hmem x)⟩
  have hle : (ss.mergeSort fun x y => decide (x ≤ y)).Pairwise (fun a b => decide (a ≤ b) = true) :=
    List.pairwise_mergeSort (fun a b c h1 h2 => by simp only [decide_eq_true_eq] at *; omega) (fun a b => by simp only [Bool.or_eq_true, decide_eq_true_eq]; omega) ss
  have hne : (ss.mergeSort fun x y => decide (x ≤ y)).Nodup := hp2.nodup_iff.2 hnd
  refine (hle.and hne).imp fun {a b} hab => ?_
  have h1 : a ≤ b := of_decide_eq_true hab.1
  have h2 := hab.2
  omega
theorem keysS_lists {w : World} {b nn : Nat} {D0 : DataW Value} {f : List UInt8 → Option Value} (hown : w.ownsMap Tryd.prog 9 heldE b nn D0) (hat0 : ∀ k zd, D0.atKey (.string k) zd = heldV (f k) zd) {ss : List (List UInt8)} (h : ss.Perm (strKeys D0)) :
    St.ListsS f (ss.mergeSort fun x y => decide (x ≤ y)) := by
  obtain ⟨es, hD, hpw, _⟩ := hown.entries strK
  obtain ⟨es', hD', hko⟩ := hown.keysOf
  obtain rfl : es = es' := by rw [hD] at hD'; simpa using hD'
  subst hD
  have hk : ∀ p ∈ es, ∃ x, p.1 = .string x := fun p hp => by
    obtain ⟨v, hv⟩ := hko p hp
    obtain ⟨x, _, hx, _⟩ := Maps.keyOf_str Tryd.underlying9 hv
    exact ⟨x, hx⟩
  have hnd : (strKeys (.map es)).Nodup := by
    show (es.map fun p => strOf p.1).Nodup
    refine List.pairwise_map.2 (hpw.imp_of_mem fun {p q} hp hq hne e => hne ?_)
    obtain ⟨x, hx⟩ := hk p hp
    obtain ⟨y, hy⟩ := hk q hq
    rw [hx, hy] at e ⊢
    exact congrArg _ e
  have hmem : ∀ x, x ∈ strKeys (.map es) ↔ f x ≠ none := fun x => by
    have h1 := hasV (mk := fun k : List UInt8 => Lit.string k) hat0 x
    have h2 : f x ≠ none ↔ Maps.has (.map es) (Lit.string x) = true := by rw [h1]; cases f x <;> simp
    rw [h2, has_eq, List.any_eq_true]
    show x ∈ es.map (fun p => strOf p.1) ↔ _
    rw [List.mem_map]
    constructor
    · rintro ⟨p, hp, rfl⟩
      obtain ⟨y, hy⟩ := hk p hp
      exact ⟨p, hp, by rw [hy]; simp [Lit.sameKey, strOf]⟩
    · rintro ⟨p, hp, hs⟩
      obtain ⟨y, hy⟩ := hk p hp
      rw [hy] at hs
      exact ⟨p, hp, by rw [hy]; simpa [Lit.sameKey, strOf] using hs⟩
  have hp2 : (ss.mergeSort fun x y => decide (x ≤ y)).Perm (strKeys (.map es)) := (List.mergeSort_perm ss _).trans h
  refine ⟨?_, fun x => (hp2.mem_iff).trans (hmem x)⟩
  have hle : (ss.mergeSort fun x y => decide (x ≤ y)).Pairwise (fun a b => decide (a ≤ b) = true) :=
    List.pairwise_mergeSort (fun a b c h1 h2 => by simp only [decide_eq_true_eq] at *; exact List.le_trans h1 h2) (fun a b => by simp only [Bool.or_eq_true, decide_eq_true_eq]; exact List.le_total a b) ss
  have hne : (ss.mergeSort fun x y => decide (x ≤ y)).Nodup := hp2.nodup_iff.2 hnd
  refine (hle.and hne).imp fun {a b} hab => ?_
  have h1 : a ≤ b := of_decide_eq_true hab.1
  rcases Nm.tx_tri a b with e | e | e
  · exact e
  · exact absurd e hab.2
  · exact absurd e (List.not_lt.2 h1)

theorem OwnZ.mono {w : World} {base base' : Nat} {v : Value} {l : List Int} (h : OwnZ w base v l) (hb : base' ≤ base) : OwnZ w base' v l := by
  obtain ⟨h1, h2⟩ := h
  refine ⟨h1, ?_⟩
  rcases h2 with h2 | ⟨g, cap, cur, hv, hg, r⟩
  · exact .inl h2
  · exact .inr ⟨g, cap, cur, hv, by omega, r⟩
set_option maxRecDepth 100000 in
theorem StS.openOf {w0 w : World} {S D : Nat → Prop} {sb n : Nat} {s : St.S} (h : StS w0 S D sb s n w) (hn : n ≤ 1000000) :
    Calls Tryd.prog 20 #[.pointer (some ⟨sb, 0, none⟩)] w fun e w' => ∃ v l, e = .returned v ∧ St.ListsI s.ups l ∧ OwnZ w' w.heap.size v l ∧ Below w.heap.size w w' := by
  obtain ⟨ob, ub, sv, ov, pb, pv, hL⟩ := h.st
  obtain ⟨D0, hown, hat0⟩ := hL.ups.ex
  have hsz := hown.size_le
  have c : w.cell? ⟨sb, 1, none⟩ = some (.map (some ub)) := box_cell hL.box 1
  have hS := callsIn_wide.1 (lay_slices_Sorted_keysI ub n D0 heldE w hown (by simp only [maxLen]; omega) (by omega))
  have hK := fun (mb : Option Nat) (W : World) => callsIn_wide.1 (lay_maps_KeysI mb W)
  have hov : ∀ x, upV pb s x ≠ none ↔ s.ups x ≠ none := fun x => by simp [upV]
  have HL := hide (fun (ss : List Int) (hp : ss.Perm (intKeys D0)) => (show St.ListsI s.ups (ss.mergeSort fun x y => decide (x ≤ y)) from ⟨(keysI_lists hown hat0 hp).1, fun x => ((keysI_lists hown hat0 hp).2 x).trans (hov x)⟩))
  have HS := hide hS
  have HK := hide hK
  clear h hL hS hK hown hat0 hsz hov
  go_enter Tryd.func20, Tryd.ntmps20
  go_wp2_with (first
    | (go_at_call 49; refine (HK.out _ _).mono ?_; rintro e w1 ⟨rfl, rfl⟩)
    | (go_at_call 48; refine HS.out.mono ?_; rintro e w2 ⟨v, ss, rfl, hp, hrow, -, hb2⟩; have HRO := hide hrow; have HB := hide hb2; have HP := hide hp; clear hrow hb2 hp)
    | fail)
  go_ret
  have hlen : (ss.mergeSort fun x y => decide (x ≤ y)).length = ss.length := by simp
  refine ⟨_, _, rfl, HL.out ss HP.out, ?_, (balloc (Below.refl _ _) _).trans (HB.out.mono (by simp))⟩
  refine OwnZ.mono (base := (w.alloc (.cells #[.map (some ub)] 57)).heap.size) ?_ (by simp)
  unfold OwnZ
  rw [hlen]
  exact HRO.out
end Go.Proofs.YthlclknbehfloaaDoor

namespace Go.Proofs.YthlclknbehfloaaDoor
open Go.RowKit Go.Maps Go.ChangeShapes Go.WideShapes Go.ChangeAt

theorem ReadsAll.at_ {w : World} {A : Option Addr} {ps : List Part} (h : ReadsAll w A ps) (k : Nat) (hk : k < ps.length) : ∃ b off, A = some ⟨b, off, none⟩ ∧ b < w.heap.size ∧ w.cell? ⟨b, off + k, none⟩ = some ps[k].val ∧ Reads w ps[k].a ps[k].l := by
  rcases h with h | ⟨b, off, e, hlt, hc⟩
  · rw [h] at hk; simp at hk
  · exact ⟨b, off, e, hlt, (hc k hk).1, (hc k hk).2.2⟩
theorem textArgs_of {H : Type} {enc : TypeId × Value → H} {W : World} {base : Nat} {held : Bool} {a : Option Addr} {len cap : Nat} {d : DataW H} {p : List MemPlace}
    (h : DataW.Trod enc Tryd.prog W base (fun _ => true) held 96 (.slice a len cap) d p) : ∃ ps : List Part, ps.length = len ∧ len ≤ cap ∧ cap ≤ 9223372036854775807 ∧ ReadsAll W a ps ∧ ∀ k (h : k < ps.length), ps[k].l.length ≤ ps[k].cap ∧ ps[k].cap ≤ 9223372036854775807 ∧ (ps[k].a = none → ps[k].cap = 0) := by
  obtain ⟨fuel, hf⟩ := h
  rcases Go.Deep.open_int_rows Tryd.underlying96 Tryd.underlying22 Tryd.underlying5 cells_bytes cells_u8 hf with ⟨hcs, _⟩ | ⟨x, l, c, A, L, C, Z, hcs, _, hl, hm, _, hrow⟩
  · simp [Value.cells] at hcs
    obtain ⟨rfl, rfl, rfl⟩ := hcs
    exact ⟨[], rfl, Nat.le_refl _, by omega, .inl rfl, fun k h => by simp at h⟩
  · simp [Value.cells] at hcs
    obtain ⟨rfl, rfl, rfl⟩ := hcs
    refine ⟨(List.range len).map fun r => ⟨A r, C r, ((Z r).take (L r)).map fun z => UInt8.ofNat z.toNat⟩, by simp, hl, by simpa [maxLen] using hm, ?_, fun k hk => ?_⟩
    rotate_left
    · have hk' : k < len := by simpa using hk
      obtain ⟨r1, r2, r3, r4, r5, r6, r7⟩ := hrow k (by omega)
      have hlen : (((Z k).take (L k)).map fun z => UInt8.ofNat z.toNat).length = L k := by simp; omega
      simp only [List.getElem_map, List.getElem_range]
      refine ⟨by omega, by simpa [maxLen] using r3, fun e => ?_⟩
      have := r6 e; omega
    by_cases h0 : len = 0
    · subst h0; exact .inl (by simp)
    · obtain ⟨b, off, spot⟩ := x
      have hc := (hrow 0 (by omega)).1
      have hspot : spot = none := by simpa [Addr.add] using World.cell?_spot hc
      subst hspot
      refine .inr ⟨b, off, rfl, ?_, fun k hk => ?_⟩
      · rcases Nat.lt_or_ge b W.heap.size with h | h
        · exact h
        · exfalso
          simp [World.cell?, Addr.add, Array.getElem?_eq_none h] at hc
      · have hk' : k < len := by simpa using hk
        obtain ⟨r1, r2, r3, r4, r5, r6, r7⟩ := hrow k (by omega)
        have hlen : (((Z k).take (L k)).map fun z => UInt8.ofNat z.toNat).length = L k := by simp; omega
        rw [Addr.add_lit] at r1
        simp only [List.getElem_map, List.getElem_range]
        refine ⟨?_, ?_, ?_⟩
        · rw [r1]; unfold Part.val; simp only; rw [hlen]
        · rw [hlen]; have : C k ≤ maxLen := r3; unfold maxLen at this; omega
        · cases hA : A k with
          | none =>
            refine .inl (List.eq_nil_of_length_eq_zero ?_)
            rw [hlen]; have := r6 hA; omega
          | some a' => exact reads_of_ints r2 r4 r5 (r7 a' hA).2
set_option maxHeartbeats 400000 in
theorem sameInts_any (A A' : Option Addr) (cap cap' n n' : Nat) (l m : List Int) (w : World) (hn : l.length = n) (hn' : m.length = n') (hl : n ≤ 1000000) (hl' : n' ≤ 1000000) (hr : IntsArg w A cap l) (hr' : IntsArg w A' cap' m) :
    Calls Tryd.prog 19 #[.slice A n cap, .slice A' n' cap'] w fun e w' => e = .returned (.bool (decide (l = m))) ∧ ∃ k, w' = w.drewN k := by
  by_cases hlen : n = n'
  · subst hlen
    have HR := hide hr
    have HR' := hide hr'
    have HN := hide hn
    have HN' := hide hn'
    clear hr hr' hn hn'
    go_enter Tryd.func19, Tryd.ntmps19
    go_wp2
    go_loopw [5] (fun i wr => ∃ k : Nat, k ≤ n ∧ i = .int .i64 k ∧ l.take k = m.take k ∧ ∃ q, wr = w.drewN q) (fun i _ => n - (intOf i).toNat)
    case atStart => exact ⟨0, Nat.zero_le _, rfl, by simp, 0, rfl⟩
    case round =>
      obtain ⟨k, hk, rfl, htk, q, rfl⟩ := hrel
      have HTK := hide htk
      clear htk
      by_cases hlt : k < n
      · have hkl : k < l.length := by rw [HN.out]; exact hlt
        have hkm : k < m.length := by rw [HN'.out]; exact hlt
        obtain ⟨b, off, rfl, hcell⟩ := HR.out.get k hkl
        obtain ⟨b', off', rfl, hcell'⟩ := HR'.out.get k hkm
        have HL : Hid (l.take (k + 1) = l.take k ++ [l.getD k 0]) := by
          show _ = _; rw [List.take_succ_eq_append_getElem hkl]; simp [List.getD, hkl]
        have HM : Hid (m.take (k + 1) = m.take k ++ [m.getD k 0]) := by
          show _ = _; rw [List.take_succ_eq_append_getElem hkm]; simp [List.getD, hkm]
        clear hkl hkm
        generalize l.getD k 0 = x at *
        generalize m.getD k 0 = y at *
        by_cases hxy : x = y
        · subst hxy
          go_wp2
          go_quiet (fail)
          go_wp2
          go_roundw
          case rel => exact ⟨k + 1, by omega, by go_num, by rw [HL.out, HM.out, HTK.out], _, rfl⟩
          case measure => simp [intOf]; omega
        · have hne : (x == y) = false := beq_eq_false_iff_ne.2 hxy
          have HD : Hid (decide (l = m) = false) := by
            show _ = _
            rw [decide_eq_false_iff_not]
            intro e
            have h2 := HM.out
            rw [← e, HL.out, e] at h2
            have h3 := List.append_cancel_left h2
            simp at h3
            exact hxy h3
          clear hxy
          go_wp2
          go_quiet (fail)
          go_wp2
          go_ret
          exact ⟨by rw [HD.out]; rfl, _, rfl⟩
      · have HE : Hid (decide (l = m) = true) := by
          show _ = _
          rw [decide_eq_true_iff]
          have hkn : k = n := by omega
          have := HTK.out
          rw [hkn] at this
          rwa [show l.take n = l from by rw [← HN.out, List.take_length], show m.take n = m from by rw [← HN'.out, List.take_length]] at this
        go_wp2
        go_ret
        exact ⟨by rw [HE.out]; rfl, _, rfl⟩
  · have hd : decide (l = m) = false := by
      rw [decide_eq_false_iff_not]
      intro e; rw [e] at hn; omega
    rw [hd]
    clear hd hn hn' hr hr'
    go_enter Tryd.func19, Tryd.ntmps19
    go_wp2
    go_ret
    exact ⟨rfl, 0, rfl⟩
theorem OwnZ.ints {w : World} {base : Nat} {v : Value} {l : List Int} (h : OwnZ w base v l) (hz : ∀ z ∈ l, -9223372036854775808 ≤ z ∧ z ≤ 9223372036854775807) : ∃ A c, v = .slice A l.length c ∧ IntsArg w A c l := by
  rcases h.2 with ⟨e, h0⟩ | ⟨g, cap, cur, e, hg, hh, hc, hm, hs, ht⟩
  · exact ⟨none, 0, by rw [e, h0], ⟨by omega, by omega, fun _ => rfl, fun j hj => by omega, hz⟩⟩
  · refine ⟨_, cap, e, ⟨hc, by simpa [maxLen] using hm, fun e => (by cases e), fun j hj => ⟨g, 0, rfl, ?_⟩, hz⟩⟩
    have hc := World.ownsRow.cells (g := g) h (by rw [e]; rfl) j (.int .i64 (l.getD j 0)) (by simp [List.getD, hj])
    rwa [Addr.add_lit, Nat.zero_add] at *
theorem own_z {w : World} {base n : Nat} {v : Value} {l : List Int} (h : OwnZ w base v l) (hn : l.length = n) (hz : ∀ z ∈ l, -9223372036854775808 ≤ z ∧ z ≤ 9223372036854775807) : ∃ A c, v = .slice A n c ∧ IntsArg w A c l := by
  subst hn; exact h.ints hz
theorem St.lists_nil {α : Type} {f : Int → Option α} {l : List Int} (h : St.ListsI f l) (hf : ∀ x, f x = none) : l = [] :=
  List.eq_nil_iff_forall_not_mem.2 fun x hx => (h.2 x).1 hx (hf x)
theorem St.lists_one {α : Type} {f : Int → Option α} {l : List Int} (h : St.ListsI f l) (z : Int) (h1 : f z ≠ none) (hf : ∀ x, x ≠ z → f x = none) : l = [z] := by
  obtain ⟨hp, hm⟩ := h
  match l, hp, hm with
  | [], _, hm => exact absurd ((hm z).2 h1) (by simp)
  | [a], _, hm =>
    have : a = z := by
      by_cases e : a = z
      · exact e
      · exact absurd (hf a e) ((hm a).1 (by simp))
    rw [this]
  | a :: b :: t, hp, hm =>
    have e1 : a = z := Classical.byContradiction fun e => (hm a).1 (by simp) (hf a e)
    have e2 : b = z := Classical.byContradiction fun e => (hm b).1 (by simp) (hf b e)
    have := (List.pairwise_cons.1 hp).1 b (by simp)
    omega
theorem St.ask_free {α : Type} (s : St.S) (h : s.script = []) (z : α) (f : St.S → (α × Option Nat) × St.S) : s.ask z f = f s.took := by
  have ho : s.out = 0 := by simp [St.S.out, h]
  unfold St.S.ask
  rw [ho, if_neg (by omega), if_neg (by omega)]
theorem below_drew_q {w w' : World} (h : ∃ k, w' = w.drewN k) : Below w.heap.size w w' := by
  obtain ⟨q, rfl⟩ := h; exact below_drewN (Below.refl _ _) q
theorem StS.setB {w0 w : World} {S D : Nat → Prop} {sb n : Nat} {s : St.S} (h : StS w0 S D sb s n w) (b i : Nat) (v : Value) (hS : ¬ S b) (hD : ¬ D b) (h0 : w0.heap.size ≤ b) : StS w0 S D sb s n (w.setCell ⟨b, i, none⟩ v) :=
  ⟨h.st.kept (by simp) fun k hk _ => Below.heap_setCell _ _ _ _ (by show k ≠ b; rintro rfl; rcases hk with hk | hk; exact hS hk; exact hD hk), h.lo, h.below.setCell (p := ⟨b, i, none⟩) h0 v, h.calls, h.failed⟩
/-- One upload, open, with these parts of it. -/
structure St.AtP (k : St.Nm) (f : Int → Option (List UInt8)) (s : St.S) : Prop where
  script : s.script = []
  up : s.ups 1 = some ⟨k, f⟩
  ups : ∀ x, x ≠ 1 → s.ups x = none
  obj : s.objs k = none
structure St.AtQ (k : St.Nm) (b : Option (List UInt8)) (s : St.S) : Prop where
  script : s.script = []
  ups : ∀ x, s.ups x = none
  obj : s.objs k = b
theorem St.start_p (k : St.Nm) (hv : Dk.valid k = true) : (St.S.new.start k).1 = (1, none) ∧ St.AtP k (fun _ => none) (St.S.new.start k).2 := by
  unfold St.S.start
  rw [St.ask_free _ rfl]
  unfold St.S.startF
  rw [if_pos hv]
  exact ⟨rfl, rfl, by simp [St.upd, St.S.took, St.S.new], fun x hx => by simp [St.upd, St.S.took, St.S.new, hx], rfl⟩
theorem St.took_plain {s : St.S} (h : s.script = []) : s.took.script = [] ∧ s.took.ups = s.ups ∧ s.took.objs = s.objs := ⟨by simp [St.S.took, h], rfl, rfl⟩
theorem St.AtP.part {k : St.Nm} {f : Int → Option (List UInt8)} {s : St.S} (h : St.AtP k f s) (n : Int) (hn : 0 ≤ n ∧ n < 256) (b : List UInt8) : (s.part 1 n b).1.2 = none ∧ St.AtP k (St.upd f n (some b)) (s.part 1 n b).2 := by
  obtain ⟨h1, h2, h3⟩ := St.took_plain h.script
  unfold St.S.part
  rw [St.ask_free _ h.script]
  unfold St.S.partF
  rw [h2, h.up]
  simp only
  rw [if_neg (by omega)]
  exact ⟨rfl, h1, by simp [St.upd], fun x hx => by simp [St.upd, hx]; exact h.ups x hx, by rw [← h.obj, ← h3]⟩
theorem St.AtP.comp_bad {k : St.Nm} {f : Int → Option (List UInt8)} {s : St.S} (h : St.AtP k f s) (n : Nat) (hn : n ≤ 256) (hj : St.joinN f n = none) : (s.comp 1 n).1.2 = some 4 ∧ St.AtP k f (s.comp 1 n).2 := by
  obtain ⟨h1, h2, h3⟩ := St.took_plain h.script
  unfold St.S.comp
  rw [St.ask_free _ h.script]
  unfold St.S.compF
  rw [h2, h.up]
  simp only
  rw [if_neg (by omega), Int.toNat_natCast, hj]
  exact ⟨rfl, h1, h2 ▸ h.up, h2 ▸ h.ups, h3 ▸ h.obj⟩
theorem St.AtP.comp {k : St.Nm} {f : Int → Option (List UInt8)} {s : St.S} (h : St.AtP k f s) (n : Nat) (hn : n ≤ 256) (b : List UInt8) (hj : St.joinN f n = some b) : (s.comp 1 n).1.2 = none ∧ St.AtQ k (some b) (s.comp 1 n).2 := by
  obtain ⟨h1, h2, h3⟩ := St.took_plain h.script
  unfold St.S.comp
  rw [St.ask_free _ h.script]
  unfold St.S.compF
  rw [h2, h.up]
  simp only
  rw [if_neg (by omega), Int.toNat_natCast, hj]
  refine ⟨rfl, h1, fun x => ?_, by simp [St.upd]⟩
  by_cases e : x = 1
  · simp [St.upd, e]
  · simp [St.upd, e]; exact h.ups x e
theorem St.AtP.abort {k : St.Nm} {f : Int → Option (List UInt8)} {s : St.S} (h : St.AtP k f s) : (s.abort 1).1.2 = none ∧ St.AtQ k none (s.abort 1).2 := by
  obtain ⟨h1, h2, h3⟩ := St.took_plain h.script
  unfold St.S.abort
  rw [St.ask_free _ h.script]
  unfold St.S.abortF
  rw [h2, h.up]
  refine ⟨rfl, h1, fun x => ?_, h3 ▸ h.obj⟩
  by_cases e : x = 1
  · simp [St.upd, e]
  · simp [St.upd, e]; exact h.ups x e
theorem St.AtQ.part {k : St.Nm} {o : Option (List UInt8)} {s : St.S} (h : St.AtQ k o s) (z n : Int) (b : List UInt8) : (s.part z n b).1.2 = some 6 ∧ St.AtQ k o (s.part z n b).2 := by
  obtain ⟨h1, h2, h3⟩ := St.took_plain h.script
  unfold St.S.part
  rw [St.ask_free _ h.script]
  unfold St.S.partF
  rw [h2, h.ups z]
  exact ⟨rfl, h1, h2 ▸ h.ups, h3 ▸ h.obj⟩
theorem St.AtQ.comp {k : St.Nm} {o : Option (List UInt8)} {s : St.S} (h : St.AtQ k o s) (z n : Int) : (s.comp z n).1.2 = some 6 ∧ St.AtQ k o (s.comp z n).2 := by
  obtain ⟨h1, h2, h3⟩ := St.took_plain h.script
  unfold St.S.comp
  rw [St.ask_free _ h.script]
  unfold St.S.compF
  rw [h2, h.ups z]
  exact ⟨rfl, h1, h2 ▸ h.ups, h3 ▸ h.obj⟩
theorem St.joinN_len {f : Int → Option (List UInt8)} (B : Nat) (hf : ∀ x b, f x = some b → b.length ≤ B) : ∀ (n : Nat) (b : List UInt8), St.joinN f n = some b → b.length ≤ B * n
  | 0, b, h => by cases h; simp
  | n + 1, b, h => by
    unfold St.joinN at h
    cases h1 : St.joinN f n with
    | none => simp [h1] at h
    | some a =>
      cases h2 : f n with
      | none => simp [h1, h2] at h
      | some c =>
        simp [h1, h2] at h
        subst h
        have := St.joinN_len B hf n a h1
        have := hf _ _ h2
        rw [List.length_append, Nat.mul_succ]; omega
/-- The parts that so many rounds laid. -/
def partsP (ls : List (List UInt8)) (ks : Nat → Nat) : Nat → Int → Option (List UInt8)
  | 0 => fun _ => none
  | j + 1 => St.upd (partsP ls ks j) (ks j : Nat) (some (ls.getD (ks j) []))
theorem partsP_some (ls : List (List UInt8)) (ks : Nat → Nat) : ∀ (j : Nat) (x : Nat) (b : List UInt8), partsP ls ks j x = some b → b = ls.getD x []
  | 0, x, b, h => by cases h
  | j + 1, x, b, h => by
    unfold partsP St.upd at h
    split at h
    · next e => have : x = ks j := by omega
                subst this; exact (Option.some.inj h).symm
    · exact partsP_some ls ks j x b h
theorem partsP_len (ls : List (List UInt8)) (ks : Nat → Nat) (B : Nat) (hB : ∀ l ∈ ls, l.length ≤ B) : ∀ (j : Nat) (x : Int) (b : List UInt8), partsP ls ks j x = some b → b.length ≤ B
  | 0, x, b, h => by cases h
  | j + 1, x, b, h => by
    unfold partsP St.upd at h
    split at h
    · have := Option.some.inj h
      subst this
      by_cases hk : ks j < ls.length
      · have := hB _ (List.getElem_mem hk); simpa [List.getD, hk] using this
      · simp [List.getD, hk]
    · exact partsP_len ls ks B hB j x b h
theorem upd_upd {κ α : Type} [DecidableEq κ] (f : κ → Option α) (k : κ) (u v : Option α) : St.upd (St.upd f k u) k v = St.upd f k v := by
  funext x; unfold St.upd; split <;> rfl
/-- Whether one of the first is missing. -/
def missP (f : Int → Option (List UInt8)) : Nat → Bool
  | 0 => false
  | i + 1 => missP f i || (f (i : Nat)).isNone
theorem missP_true {f : Int → Option (List UInt8)} : ∀ {n : Nat}, missP f n = true → St.joinN f n = none
  | 0, h => by cases h
  | n + 1, h => by
    unfold missP at h
    unfold St.joinN
    rcases Bool.or_eq_true_iff.1 h with h | h
    · rw [missP_true h]
    · have : f (n : Nat) = none := by simpa using h
      rw [this]; split <;> simp_all
theorem missP_false {f : Int → Option (List UInt8)} {ps : List Part} : ∀ {n : Nat}, n ≤ ps.length → (∀ (x : Nat) b, f x = some b → b = (ps.map Part.l).getD x []) → missP f n = false → St.joinN f n = some (flat (ps.take n))
  | 0, _, _, _ => by simp [St.joinN, flat]
  | n + 1, hn, hf, h => by
    unfold missP at h
    obtain ⟨h1, h2⟩ := Bool.or_eq_false_iff.1 h
    have ih := missP_false (n := n) (by omega) hf h1
    cases h3 : f (n : Nat) with
    | none => simp [h3] at h2
    | some b =>
      have hb := hf n b h3
      unfold St.joinN
      rw [ih, h3]
      simp only
      have e : ps.take (n + 1) = ps.take n ++ [ps[n]] := List.take_succ_eq_append_getElem (by omega)
      have e2 : flat (ps.take n ++ [ps[n]]) = flat (ps.take n) ++ ps[n].l := by unfold flat; rw [List.flatMap_append]; simp
      rw [e, e2, hb]
      simp [List.getD, show n < ps.length by omega]
end Go.Proofs.YthlclknbehfloaaDoor

namespace Go.Proofs.YthlclknbehfloaaDoor.St

theorem out_free {s : S} (h : s.script = []) : s.out = 0 := by simp [S.out, h]
theorem bare_free {g : S → (Unit × Option Nat) × S} {n : Nat} {last : Option Nat} {s : S} (h : s.script = []) (hr : (g s.took).1.2 ≠ some 10) : agn (bareOf fun s => s.ask () g) (n + 1) last s = ⟨(g s.took).1.2, 1, (g s.took).2⟩ := by
  have e : bareOf (fun s => s.ask () g) s = ((g s.took).1.2, (g s.took).2) := by simp [bareOf, S.ask, out_free h]
  rw [agn_stop (by rw [e]; exact hr), e]
theorem ask_freeC {α : Type} {z : α} {g : S → (α × Option Nat) × S} {n : Nat} {last : Option Nat} {x : S × α} (h : x.1.script = []) (hr : (g x.1.took).1.2 ≠ some 10) : agn (askOf fun s => s.ask z g) (n + 1) last x = ⟨(g x.1.took).1.2, 1, ((g x.1.took).2, (g x.1.took).1.1)⟩ := by
  have e : askOf (fun s => s.ask z g) x = ((g x.1.took).1.2, ((g x.1.took).2, (g x.1.took).1.1)) := by simp [askOf, S.ask, out_free h]
  rw [agn_stop (by rw [e]; exact hr), e]
/-- The parts of an upload that has one. -/
def oneP (b : List UInt8) : Int → Option (List UInt8) := upd (fun _ => none) 0 (some b)
/-- What the statement lays ahead of the outcomes. -/
structure AtT (b : List UInt8) (s : S) : Prop where
  obj : s.objs [120] = some b
  up : s.ups 1 = some ⟨[121], oneP b⟩
theorem t_put (b : List UInt8) : (cput 5 [120] b S.new).r = none ∧ (cput 5 [120] b S.new).st.script = [] ∧ (cput 5 [120] b S.new).st.objs [120] = some b ∧ (cput 5 [120] b S.new).st.last = 0 ∧ (cput 5 [120] b S.new).st.ups = fun _ => none := by
  have hv : Dk.valid [120] = true := by decide
  have e : S.putF [120] b S.new.took = (((), none), { S.new.took with objs := upd S.new.took.objs [120] (some b) }) := by unfold S.putF; rw [if_pos hv]
  unfold cput again
  rw [bare_free (n := 4) rfl (by rw [e]; simp), e]
  exact ⟨rfl, rfl, by simp [upd], rfl, rfl⟩
theorem t_start (b : List UInt8) (s : S) (h1 : s.script = []) (h2 : s.objs [120] = some b) (h3 : s.last = 0) : (cstart 5 [121] s).r = none ∧ (cstart 5 [121] s).st.2 = 1 ∧ (cstart 5 [121] s).st.1.script = [] ∧ (cstart 5 [121] s).st.1.objs [120] = some b ∧ (cstart 5 [121] s).st.1.ups 1 = some ⟨[121], fun _ => none⟩ := by
  have hv : Dk.valid [121] = true := by decide
  have hl : s.took.last = 0 := h3
  have e : S.startF [121] s.took = ((1, none), { s.took with last := 1, ups := upd s.took.ups 1 (some ⟨[121], fun _ => none⟩) }) := by
    unfold S.startF; rw [if_pos hv, hl]; rfl
  unfold cstart again
  rw [ask_freeC (n := 4) (x := (s, 0)) h1 (by simp only [e]; simp)]
  simp only [e]
  exact ⟨trivial, trivial, by simp [S.took, h1], h2, by simp [upd]⟩
theorem t_part (b : List UInt8) (s : S) (h1 : s.script = []) (h2 : s.objs [120] = some b) (h3 : s.ups 1 = some ⟨[121], fun _ => none⟩) : (again (bareOf fun s => s.ask () (S.partF 1 0 b)) 5 s).r = none ∧ (again (bareOf fun s => s.ask () (S.partF 1 0 b)) 5 s).st.script = [] ∧ AtT b (again (bareOf fun s => s.ask () (S.partF 1 0 b)) 5 s).st := by
  have hu : s.took.ups 1 = some ⟨[121], fun _ => none⟩ := h3
  have e : S.partF 1 0 b s.took = (((), none), { s.took with ups := upd s.took.ups 1 (some ⟨[121], oneP b⟩) }) := by
    unfold S.partF; rw [hu]; simp [oneP]
  unfold again
  rw [bare_free (n := 4) h1 (by rw [e]; simp), e]
  exact ⟨rfl, by simp [S.took, h1], ⟨h2, by simp [upd]⟩⟩
theorem t_head (b : List UInt8) (s : S) (h1 : s.script = []) (h : AtT b s) : (s.head [120]).1 = (b, none) ∧ (s.head [120]).2.script = [] ∧ AtT b (s.head [120]).2 := by
  have ho : s.took.objs [120] = some b := h.obj
  unfold S.head S.ask
  rw [out_free h1]
  simp only [show ¬ (0 : Int) = 1 by omega, show ¬ (0 : Int) = 2 by omega, if_false, S.headF, ho]
  exact ⟨trivial, by simp [S.took, h1], ⟨h.obj, h.up⟩⟩
/-- So many answers are lost. -/
def lost (s : S) (m : Nat) : S := { s with script := List.replicate m 2 }
theorem lost_zero {s : S} (h : s.script = []) : s = lost s 0 := by cases s; simp_all [lost]
theorem lost_more (s : S) (m : Nat) : (lost s m).scripted [2] = lost s (m + 1) := by simp [lost, S.scripted, ← List.replicate_succ']
theorem taken_of {m : Nat} {A : Ag S} (hr : A.r = if m = 0 then none else some 6) (hk : A.k = m + 1) : A.taken = none := by
  unfold Ag.taken Ag.doubt
  rw [hr, hk]
  by_cases h : m = 0
  · simp [h]
  · simp [h]
theorem taken_one {A : Ag S} (hr : A.r = some 6) (hk : A.k = 1) : A.taken = some 6 := by
  unfold Ag.taken Ag.doubt; rw [hr, hk]; simp
abbrev cdel (k : Nm) (s : S) : Ag S := again (bareOf fun s => s.ask () (S.delF k)) 5 s
abbrev cabort (id : Int) (s : S) : Ag S := again (bareOf fun s => s.ask () (S.abortF id)) 5 s
theorem del_twice (b : List UInt8) (s : S) (h : AtT b s) (m : Nat) (hm : m < 5) : (cdel [120] (lost s m)).taken = none ∧ (cdel [120] (cdel [120] (lost s m)).st).taken = some 6 := by
  have h2 : ∀ t : S, t.objs [120] = none → S.delF [120] t = (((), some 6), t) := fun t ht => by unfold S.delF; rw [ht]
  obtain ⟨q1, q2, q3, q4⟩ := once_rep (g := S.delF [120]) (P := fun t => t.objs [120] = some b) (Q := fun t => t.objs [120] = none) (del_mild [120]) (fun t ht => ht) (fun t ht => ht)
    (fun t ht => by
      have e : S.delF [120] t = (((), none), { t with objs := upd t.objs [120] none }) := by unfold S.delF; rw [ht]
      rw [e]; exact ⟨rfl, by simp [upd]⟩) (fun t ht => by rw [h2 t ht]; exact ⟨rfl, ht⟩) 5 m none (lost s m) h.obj rfl hm
  refine ⟨taken_of q1 q4, ?_⟩
  have e := bare_free (g := S.delF [120]) (n := 4) (last := none) q3 (by rw [h2 _ (show ((agn _ 5 none (lost s m)).st.took).objs [120] = none from q2)]; simp)
  refine taken_one ?_ ?_
  · show (agn _ 5 none (agn _ 5 none (lost s m)).st).r = _
    rw [e, h2 _ (show ((agn _ 5 none (lost s m)).st.took).objs [120] = none from q2)]
  · show (agn _ 5 none (agn _ 5 none (lost s m)).st).k = _
    rw [e]
theorem abort_twice (b : List UInt8) (s : S) (h : AtT b s) (m : Nat) (hm : m < 5) : (cabort 1 (lost s m)).taken = none ∧ (cabort 1 (cabort 1 (lost s m)).st).taken = some 6 := by
  have h2 : ∀ t : S, t.ups 1 = none → S.abortF 1 t = (((), some 6), t) := fun t ht => by unfold S.abortF; rw [ht]
  obtain ⟨q1, q2, q3, q4⟩ := once_rep (g := S.abortF 1) (P := fun t => t.ups 1 = some ⟨[121], oneP b⟩) (Q := fun t => t.ups 1 = none) (abort_mild 1) (fun t ht => ht) (fun t ht => ht)
    (fun t ht => by
      have e : S.abortF 1 t = (((), none), { t with ups := upd t.ups 1 none }) := by unfold S.abortF; rw [ht]
      rw [e]; exact ⟨rfl, by simp [upd]⟩) (fun t ht => by rw [h2 t ht]; exact ⟨rfl, ht⟩) 5 m none (lost s m) h.up rfl hm
  refine ⟨taken_of q1 q4, ?_⟩
  have e := bare_free (g := S.abortF 1) (n := 4) (last := none) q3 (by rw [h2 _ (show ((agn _ 5 none (lost s m)).st.took).ups 1 = none from q2)]; simp)
  refine taken_one ?_ ?_
  · show (agn _ 5 none (agn _ 5 none (lost s m)).st).r = _
    rw [e, h2 _ (show ((agn _ 5 none (lost s m)).st.took).ups 1 = none from q2)]
  · show (agn _ 5 none (agn _ 5 none (lost s m)).st).k = _
    rw [e]
/-- What a Complete leaves of what it may lay together. -/
def FewP (s : S) : Prop := ∀ u, s.ups 1 = some u → ∀ n b, u.parts n = some b → b.length ≤ 100
theorem FewP.comp {s : S} (h : FewP s) : FewP (s.ask () (S.compF 1 1)).2 := by
  have h1 : ∀ t : S, FewP t → FewP (S.compF 1 1 t).2 := fun t ht => by
    unfold S.compF
    split
    · exact ht
    · split
      · exact ht
      · split
        · exact ht
        · intro u hu; simp [upd] at hu
  have h0 : FewP s.took := h
  unfold S.ask
  split
  · exact h0
  · split
    · exact h1 _ h0
    · exact h1 _ h0
theorem FewP.sum {s : S} (h : FewP s) : ∀ u, s.ups 1 = some u → ∀ k b, k ≤ 256 → joinN u.parts k = some b → b.length ≤ 1000000000 := fun u hu k b hk hj => by
  have := joinN_len 100 (h u hu) k b hj
  omega
theorem AtT.few {b : List UInt8} {s : S} (h : AtT b s) (hb : b.length ≤ 100) (m : Nat) : FewP (lost s m) := fun u hu n c hc => by
  have hu2 : s.ups 1 = some u := hu
  rw [h.up] at hu2
  injection hu2 with hu2
  subst hu2
  by_cases hn : n = 0
  · subst hn; simp [oneP, upd] at hc; rw [← hc]; exact hb
  · simp [oneP, upd, hn] at hc
theorem comp_twice (b : List UInt8) (s : S) (h : AtT b s) (m : Nat) (hm : m < 5) :
    (ccomp 5 1 1 [121] (b.length : Int) (U (Crc.sum b)) (lost s m)).r = none ∧ (ccomp 5 1 1 [121] (b.length : Int) (U (Crc.sum b)) (ccomp 5 1 1 [121] (b.length : Int) (U (Crc.sum b)) (lost s m)).st).r = some 6 ∧
      (ccomp 5 1 1 [121] (b.length : Int) (U (Crc.sum b)) (ccomp 5 1 1 [121] (b.length : Int) (U (Crc.sum b)) (lost s m)).st).st.objs [121] = some b ∧ FewP (ccomp 5 1 1 [121] (b.length : Int) (U (Crc.sum b)) (lost s m)).st := by
  have h2 : ∀ t : S, t.ups 1 = none → S.compF 1 1 t = (((), some 6), t) := fun t ht => by unfold S.compF; rw [ht]
  have hj : joinN (oneP b) 1 = some b := by simp [joinN, oneP, upd]
  obtain ⟨q1, ⟨q2, q5⟩, q3, q4⟩ := once_rep (g := S.compF 1 1) (P := fun t => t.ups 1 = some ⟨[121], oneP b⟩) (Q := fun t => t.ups 1 = none ∧ t.objs [121] = some b) (comp_mild 1 1) (fun t ht => ht) (fun t ht => ht)
    (fun t ht => by
      have e : S.compF 1 1 t = (((), none), { t with objs := upd t.objs [121] (some b), ups := upd t.ups 1 none }) := by
        unfold S.compF; rw [ht]
        simp [hj]
      rw [e]; exact ⟨rfl, by simp [upd], by simp [upd]⟩) (fun t ht => by rw [h2 t ht.1]; exact ⟨rfl, ht⟩) 5 m none (lost s m) h.up rfl hm
  have hf : ∀ s2 : S, s2.ups 1 = none → s2.script = [] → ccomp 5 1 1 [121] (b.length : Int) (U (Crc.sum b)) s2 = ⟨some 6, 1, s2.took⟩ := fun s2 hu hsc => by
    have e := bare_free (g := S.compF 1 1) (n := 4) (last := none) hsc (by rw [h2 _ (show s2.took.ups 1 = none from hu)]; simp)
    rw [h2 _ (show s2.took.ups 1 = none from hu)] at e
    unfold ccomp again
    rw [e]
    simp [Ag.doubt]
  have key : ∃ s2 : S, (ccomp 5 1 1 [121] (b.length : Int) (U (Crc.sum b)) (lost s m)).r = none ∧ (ccomp 5 1 1 [121] (b.length : Int) (U (Crc.sum b)) (lost s m)).st = s2 ∧ s2.ups 1 = none ∧ s2.script = [] ∧ s2.objs [121] = some b := by
    unfold ccomp again
    generalize agn (bareOf fun s => s.ask () (S.compF 1 1)) 5 none (lost s m) = A at *
    by_cases h0 : m = 0
    · have hr : A.r = none := by rw [q1, if_pos h0]
      rw [if_neg (by rw [hr]; simp)]
      exact ⟨A.st, hr, rfl, q2, q3, q5⟩
    · have hr : A.r = some 6 := by rw [q1, if_neg h0]
      have hd : A.doubt = true := by unfold Ag.doubt; rw [q4]; simp; omega
      have ho : A.st.took.objs [121] = some b := q5
      have eh : S.headF [121] A.st.took = ((b, none), A.st.took) := by unfold S.headF; rw [ho]
      have e := ask_freeC (z := []) (g := S.headF [121]) (n := 4) (last := none) (x := (A.st, [])) q3 (by simp only [eh]; simp)
      simp only [eh] at e
      have e' : chead 5 [121] A.st = ⟨none, 1, (A.st.took, b)⟩ := e
      rw [if_pos ⟨hd, hr⟩, e']
      exact ⟨A.st.took, by simp, rfl, q2, by simp [S.took, q3], q5⟩
  obtain ⟨s2, k1, k2, k3, k4, k5⟩ := key
  refine ⟨k1, ?_, ?_, ?_⟩
  · rw [k2, hf s2 k3 k4]
  · rw [k2, hf s2 k3 k4]; exact k5
  · rw [k2]; intro u hu; rw [k3] at hu; cases hu
end Go.Proofs.YthlclknbehfloaaDoor.St

namespace Go.Proofs.YthlclknbehfloaaDoor
open Go.RowKit Go.Maps

theorem below_drew_c {w w' : World} (h : ∃ k, w' = w.drewN k) : Below w.heap.size w w' := by
  obtain ⟨k, rfl⟩ := h; exact below_drewN (Below.refl _ _) k
theorem sameBytes_same (A A' : Option Addr) (cap cap' n : Nat) (l : List UInt8) {w : World} (hn : l.length = n) (hl : n ≤ 1000000) (hr : Reads w A l) (hr' : Reads w A' l) :
    Calls Tryd.prog 18 #[.slice A n cap, .slice A' n cap'] w fun e w' => e = .returned (.bool true) ∧ ∃ k, w' = w.drewN k :=
  (sameBytes_any A A' cap cap' n n l l w hn hn hl hl hr hr').mono fun e w' ⟨he, hw⟩ => ⟨by rw [he]; simp, hw⟩

set_option maxRecDepth 100000 in
set_option maxHeartbeats 1000000 in
theorem callEnds_walk (w : World) (p : Nat → Addr) (hs : Sents w p) (n0 n1 : Int) (h01 : -9223372036854775808 ≤ n0) (h02 : n0 ≤ 9223372036854775807) (h11 : -9223372036854775808 ≤ n1) (h12 : n1 ≤ 9223372036854775807) (lo : Bool) (A : Option Addr) (c n : Nat) (b : List UInt8) (ha : Arg w A c b) (hn : b.length = n) :
    Calls Tryd.prog 4 #[.int .i64 n0, .int .i64 n1, .bool lo, .slice A n c] w fun e w' => e = .returned (.bool true) ∧ Below w.heap.size w w' := by
  have HS := hide hs
  have HA := hide ha
  have HN := hide hn
  have HF := hide (caFirst_any (E := fun j => j < 19) (by omega) (by omega) w p hs)
  have h8 : num n0 8 < 8 := num_lt n0 8 (by omega)
  have h10 : num n1 10 < 10 := num_lt n1 10 (by omega)
  obtain ⟨u, hu⟩ : ∃ u, num n0 8 = u := ⟨_, rfl⟩
  obtain ⟨m, hm⟩ : ∃ m, num n1 10 = m := ⟨_, rfl⟩
  rw [hu] at h8
  rw [hm] at h10
  have HU := hide hu
  have HM := hide hm
  have hw1 : IntKind.i64.wrap ((u : Int) + 1) = (u : Int) + 1 := IntWalk.i64_in _ (by omega)
  have hw2 : IntKind.i64.wrap ((m : Int) + 1) = (m : Int) + 1 := IntWalk.i64_in _ (by omega)
  clear hs ha hn hu hm
  by_cases hle : n ≤ 100
  · obtain ⟨o, ho⟩ : ∃ o : Int, o = if lo = true then 2 else 1 := ⟨_, rfl⟩
    have hbo : St.BadO o := by rw [ho]; cases lo <;> simp [St.BadO]
    have HC := hide (St.cput_of [111] (by decide) b o hbo (u + 1) m (by omega) (St.sE m o) rfl)
    have HO := hide ho
    have HBO := hide hbo
    have hnc : (n : Int) ≤ 100 := by omega
    clear ho hbo
    cases lo
    · have ho := HO.out
      simp only [if_false, Bool.false_eq_true] at ho
      subst ho
      go_enter Tryd.func4, Tryd.ntmps4
      go_wp2_with (first
        | (go_at_call 22; refine HF.out.mono ?_; rintro e w1 ⟨rfl, hb⟩; have HB1 := hide hb; clear hb)
        | (have := HB2.out; clear this; go_at_call 23; refine (num_at n1 10 10 w1 (by omega) (by omega) (by omega) h11 h12).mono ?_; rintro e w1' ⟨rfl, rfl⟩; rw [HM.out])
        | (go_at_call 23; refine (num_at n0 8 8 w1 (by omega) (by omega) (by omega) h01 h02).mono ?_; rintro e w1' ⟨rfl, rfl⟩; rw [HU.out]; have HB2 := HB1)
        | (go_at_call 9; refine (stNew_any w w1 HB1.out).mono ?_; rintro e w2 ⟨sb, S, rfl, h, -, -⟩; have H2 := hide h; clear h)
        | (go_at_call 24; refine (caNew_any H2.out (u + 1) (by omega) ((u : Int) + 1) (by push_cast; rfl)).mono ?_; rintro e w3 ⟨rfl, h, -⟩; have H3 := hide h; clear h H2; generalize w2.heap.size = cb at *)
        | fail)
      go_loopw [14] (fun i wr => ∃ (j : Nat) (S D : Nat → Prop), j ≤ m ∧ i = .int .i64 j ∧ CaS w S D sb cb (u + 1) 0 (St.sE j 1) 0 wr) (fun i _ => m - (intOf i).toNat)
      case atStart => exact ⟨0, S, _, Nat.zero_le _, rfl, H3.out⟩
      case round =>
        obtain ⟨j, S4, D4, hj, rfl, h4⟩ := hrel
        have H4 := hide h4
        clear h4
        by_cases hlt : j < m
        · go_wp2_with (first
            | (go_at_call 12; have h5 := H4.out.grow (balloc (Below.refl _ _) (.cells #[.int .i64 1] 3)); refine (StS.script h5.st (some ⟨wr.heap.size, 0, none⟩) 1 1 [1] (IntsArg.made wr [1] _ _ 1 rfl rfl (by omega) (by simp)) rfl (by simp [St.sE]; omega)).mono ?_; rintro e w5 ⟨rfl, S5, h, hg⟩; rw [St.sE_more] at h; have H5 := hide (h5.other h hg (Nat.le_refl _)); clear h hg h5)
            | fail)
          exact ⟨⟨j + 1, S5, D4, by omega, by simp, H5.out⟩, by simp [intOf]; omega⟩
        · obtain rfl : j = m := by omega
          have haW : Arg wr A c b := HA.out.below H4.out.st.below (Nat.le_refl _)
          have hAx : ∀ x o, A = some ⟨x, o, none⟩ → b ≠ [] → ¬ S4 x ∧ ¬ x = cb := fun x o e hb => by
            have hx : x < w.heap.size := by
              rcases HA.out.reads with h1 | ⟨g, off, e1, hlt, -⟩
              · exact absurd h1 hb
              · rw [e1] at e; injection e with e; injection e with e _ _; subst e; exact hlt
            exact ⟨fun hS => by have := H4.out.st.lo x (.inl hS); omega, fun e => by have := H4.out.lo; omega⟩
          have HPUT := hide (H4.out.putE (E := fun j => j < 19) (by omega) (by omega) p HS.out (by omega) (by omega) [111] (by simp) A c n b haW HN.out (by omega) hAx)
          clear haW hAx
          by_cases hmu : j < u + 1
          · have hr : (St.cput (u + 1) [111] b (St.sE j 1)).r = none := by rw [HC.out.1, if_pos hmu]
            have hk : (St.cput (u + 1) [111] b (St.sE j 1)).k = j + 1 := by rw [HC.out.2.1]; omega
            have hob : (St.cput (u + 1) [111] b (St.sE j 1)).st.objs [111] = some b := by rw [HC.out.2.2, if_pos (.inl hmu)]
            have hmin : min ((j : Int) + 1) ((u : Int) + 1) = (j : Int) + 1 := by omega
            have e1 : (0 : Int) + ((j + 1 : Nat) : Int) = (j : Int) + 1 := by push_cast; omega
            have HR := hide hr
            have HK := hide hk
            have HOB := hide hob
            have HE1 := hide e1
            clear hr hk hob e1
            go_wp2_with (first
              | (go_at_call 25; refine HPUT.out.mono ?_; rintro e w5 ⟨rfl, S5, D5, h, -⟩; rw [HK.out, HE1.out] at h; rw [HR.out]; have HBY := hide (StS.bytes h.st [111] (by simp)); rw [HOB.out] at HBY; have H5 := hide h; clear h; unfold errR; (try unfold errV))
              | (go_at_call 15; refine HBY.out.mono ?_; rintro e w6 ⟨v, rfl, ho, hb⟩; have H6 := hide (H5.out.grow hb); obtain ⟨A6, c6, rfl, ha6⟩ := own_n (n := n) ho HN.out; have HA6 := hide ha6; clear ho hb ha6 H5; simp only [Option.isSome_some])
              | (go_at_call 26; refine H6.out.askedOf.mono ?_; rintro e w8 ⟨rfl, rfl⟩)
              | (go_at_call 18; refine (sameBytes_same A6 A c6 c n b HN.out (by omega) HA6.out.reads (HA.out.below H6.out.st.below (Nat.le_refl _)).reads).mono ?_; rintro e w9 ⟨rfl, hw⟩; have H9 := hide (H6.out.st.below.trans ((below_drew_c hw).mono H6.out.st.below.size)); clear hw)
              | fail)
            go_ret
            exact ⟨rfl, H9.out⟩
          · have hr : (St.cput (u + 1) [111] b (St.sE j 1)).r = some 10 := by rw [HC.out.1, if_neg hmu]
            have hk : (St.cput (u + 1) [111] b (St.sE j 1)).k = u + 1 := by rw [HC.out.2.1]; omega
            have hob : (St.cput (u + 1) [111] b (St.sE j 1)).st.objs [111] = none := by rw [HC.out.2.2]; rw [if_neg (by omega)]; rfl
            have hmin : min ((j : Int) + 1) ((u : Int) + 1) = (u : Int) + 1 := by omega
            have e1 : (0 : Int) + ((u + 1 : Nat) : Int) = (u : Int) + 1 := by push_cast; omega
            have HR := hide hr
            have HK := hide hk
            have HOB := hide hob
            have HE1 := hide e1
            clear hr hk hob e1
            have k10 := eql_nil (p 10)
            unfold errV at k10
            go_wp2_with (first
              | (go_at_call 25; refine HPUT.out.mono ?_; rintro e w5 ⟨rfl, S5, D5, h, -⟩; rw [HK.out, HE1.out] at h; rw [HR.out]; have HBY := hide (StS.bytes h.st [111] (by simp)); rw [HOB.out] at HBY; have H5 := hide h; clear h; unfold errR; (try unfold errV))
              | (go_at_call 15; refine HBY.out.mono ?_; rintro e w6 ⟨v, rfl, ho, hb⟩; have H6 := hide (H5.out.grow hb); obtain ⟨A6, c6, rfl, -⟩ := own_n (n := 0) ho rfl; clear ho hb H5; simp only [Option.isSome_none])
              | (go_at_call 17; refine (is_sent w6 p (HS.out.below H6.out.st.below) 10 (by omega) 111).mono ?_; rintro e w7 ⟨rfl, hb⟩; have H7 := hide (H6.out.grow hb); clear hb)
              | (go_at_call 26; refine H7.out.askedOf.mono ?_; rintro e w8 ⟨rfl, rfl⟩)
              | fail)
            go_ret
            exact ⟨rfl, H7.out.st.below⟩
    · have ho := HO.out
      simp only [if_true] at ho
      subst ho
      go_enter Tryd.func4, Tryd.ntmps4
      go_wp2_with (first
        | (go_at_call 22; refine HF.out.mono ?_; rintro e w1 ⟨rfl, hb⟩; have HB1 := hide hb; clear hb)
        | (have := HB2.out; clear this; go_at_call 23; refine (num_at n1 10 10 w1 (by omega) (by omega) (by omega) h11 h12).mono ?_; rintro e w1' ⟨rfl, rfl⟩; rw [HM.out])
        | (go_at_call 23; refine (num_at n0 8 8 w1 (by omega) (by omega) (by omega) h01 h02).mono ?_; rintro e w1' ⟨rfl, rfl⟩; rw [HU.out]; have HB2 := HB1)
        | (go_at_call 9; refine (stNew_any w w1 HB1.out).mono ?_; rintro e w2 ⟨sb, S, rfl, h, -, -⟩; have H2 := hide h; clear h)
        | (go_at_call 24; refine (caNew_any H2.out (u + 1) (by omega) ((u : Int) + 1) (by push_cast; rfl)).mono ?_; rintro e w3 ⟨rfl, h, -⟩; have H3 := hide h; clear h H2; generalize w2.heap.size = cb at *)
        | fail)
      go_loopw [14] (fun i wr => ∃ (j : Nat) (S D : Nat → Prop), j ≤ m ∧ i = .int .i64 j ∧ CaS w S D sb cb (u + 1) 0 (St.sE j 2) 0 wr) (fun i _ => m - (intOf i).toNat)
      case atStart => exact ⟨0, S, _, Nat.zero_le _, rfl, H3.out⟩
      case round =>
        obtain ⟨j, S4, D4, hj, rfl, h4⟩ := hrel
        have H4 := hide h4
        clear h4
        by_cases hlt : j < m
        · go_wp2_with (first
            | (go_at_call 12; have h5 := H4.out.grow (balloc (Below.refl _ _) (.cells #[.int .i64 2] 3)); refine (StS.script h5.st (some ⟨wr.heap.size, 0, none⟩) 1 1 [2] (IntsArg.made wr [2] _ _ 1 rfl rfl (by omega) (by simp)) rfl (by simp [St.sE]; omega)).mono ?_; rintro e w5 ⟨rfl, S5, h, hg⟩; rw [St.sE_more] at h; have H5 := hide (h5.other h hg (Nat.le_refl _)); clear h hg h5)
            | fail)
          exact ⟨⟨j + 1, S5, D4, by omega, by simp, H5.out⟩, by simp [intOf]; omega⟩
        · obtain rfl : j = m := by omega
          have haW : Arg wr A c b := HA.out.below H4.out.st.below (Nat.le_refl _)
          have hAx : ∀ x o, A = some ⟨x, o, none⟩ → b ≠ [] → ¬ S4 x ∧ ¬ x = cb := fun x o e hb => by
            have hx : x < w.heap.size := by
              rcases HA.out.reads with h1 | ⟨g, off, e1, hlt, -⟩
              · exact absurd h1 hb
              · rw [e1] at e; injection e with e; injection e with e _ _; subst e; exact hlt
            exact ⟨fun hS => by have := H4.out.st.lo x (.inl hS); omega, fun e => by have := H4.out.lo; omega⟩
          have HPUT := hide (H4.out.putE (E := fun j => j < 19) (by omega) (by omega) p HS.out (by omega) (by omega) [111] (by simp) A c n b haW HN.out (by omega) hAx)
          clear haW hAx
          by_cases hmu : j < u + 1
          · have hr : (St.cput (u + 1) [111] b (St.sE j 2)).r = none := by rw [HC.out.1, if_pos hmu]
            have hk : (St.cput (u + 1) [111] b (St.sE j 2)).k = j + 1 := by rw [HC.out.2.1]; omega
            have hob : (St.cput (u + 1) [111] b (St.sE j 2)).st.objs [111] = some b := by rw [HC.out.2.2, if_pos (.inl hmu)]
            have hmin : min ((j : Int) + 1) ((u : Int) + 1) = (j : Int) + 1 := by omega
            have e1 : (0 : Int) + ((j + 1 : Nat) : Int) = (j : Int) + 1 := by push_cast; omega
            have HR := hide hr
            have HK := hide hk
            have HOB := hide hob
            have HE1 := hide e1
            clear hr hk hob e1
            go_wp2_with (first
              | (go_at_call 25; refine HPUT.out.mono ?_; rintro e w5 ⟨rfl, S5, D5, h, -⟩; rw [HK.out, HE1.out] at h; rw [HR.out]; have HBY := hide (StS.bytes h.st [111] (by simp)); rw [HOB.out] at HBY; have H5 := hide h; clear h; unfold errR; (try unfold errV))
              | (go_at_call 15; refine HBY.out.mono ?_; rintro e w6 ⟨v, rfl, ho, hb⟩; have H6 := hide (H5.out.grow hb); obtain ⟨A6, c6, rfl, ha6⟩ := own_n (n := n) ho HN.out; have HA6 := hide ha6; clear ho hb ha6 H5; simp only [Option.isSome_some])
              | (go_at_call 26; refine H6.out.askedOf.mono ?_; rintro e w8 ⟨rfl, rfl⟩)
              | (go_at_call 18; refine (sameBytes_same A6 A c6 c n b HN.out (by omega) HA6.out.reads (HA.out.below H6.out.st.below (Nat.le_refl _)).reads).mono ?_; rintro e w9 ⟨rfl, hw⟩; have H9 := hide (H6.out.st.below.trans ((below_drew_c hw).mono H6.out.st.below.size)); clear hw)
              | fail)
            go_ret
            exact ⟨rfl, H9.out⟩
          · have hr : (St.cput (u + 1) [111] b (St.sE j 2)).r = some 10 := by rw [HC.out.1, if_neg hmu]
            have hk : (St.cput (u + 1) [111] b (St.sE j 2)).k = u + 1 := by rw [HC.out.2.1]; omega
            have hob : (St.cput (u + 1) [111] b (St.sE j 2)).st.objs [111] = some b := by rw [HC.out.2.2]; rw [if_pos (by simp)]
            have hmin : min ((j : Int) + 1) ((u : Int) + 1) = (u : Int) + 1 := by omega
            have e1 : (0 : Int) + ((u + 1 : Nat) : Int) = (u : Int) + 1 := by push_cast; omega
            have HR := hide hr
            have HK := hide hk
            have HOB := hide hob
            have HE1 := hide e1
            clear hr hk hob e1
            have k10 := eql_nil (p 10)
            unfold errV at k10
            go_wp2_with (first
              | (go_at_call 25; refine HPUT.out.mono ?_; rintro e w5 ⟨rfl, S5, D5, h, -⟩; rw [HK.out, HE1.out] at h; rw [HR.out]; have HBY := hide (StS.bytes h.st [111] (by simp)); rw [HOB.out] at HBY; have H5 := hide h; clear h; unfold errR; (try unfold errV))
              | (go_at_call 15; refine HBY.out.mono ?_; rintro e w6 ⟨v, rfl, ho, hb⟩; have H6 := hide (H5.out.grow hb); obtain ⟨A6, c6, rfl, ha6⟩ := own_n (n := n) ho HN.out; have HA6 := hide ha6; clear ho hb ha6 H5; simp only [Option.isSome_some])
              | (go_at_call 17; refine (is_sent w6 p (HS.out.below H6.out.st.below) 10 (by omega) 111).mono ?_; rintro e w7 ⟨rfl, hb⟩; have H7 := hide (H6.out.grow hb); have HA7 := hide (HA6.out.below hb (Nat.le_refl _)); clear hb)
              | (go_at_call 26; refine H7.out.askedOf.mono ?_; rintro e w8 ⟨rfl, rfl⟩)
              | (go_at_call 18; refine (sameBytes_same A6 A c6 c n b HN.out (by omega) HA7.out.reads (HA.out.below H7.out.st.below (Nat.le_refl _)).reads).mono ?_; rintro e w9 ⟨rfl, hw⟩; have H9 := hide (H7.out.st.below.trans ((below_drew_c hw).mono H7.out.st.below.size)); clear hw)
              | fail)
            go_ret
            exact ⟨rfl, H9.out⟩
  · go_enter Tryd.func4, Tryd.ntmps4
    go_wp2_with (first
      | (go_at_call 22; refine HF.out.mono ?_; rintro e w1 ⟨rfl, hb⟩; have HB1 := hide hb; clear hb)
      | (have := HB2.out; clear this; go_at_call 23; refine (num_at n1 10 10 w1 (by omega) (by omega) (by omega) h11 h12).mono ?_; rintro e w1' ⟨rfl, rfl⟩; rw [HM.out])
      | (go_at_call 23; refine (num_at n0 8 8 w1 (by omega) (by omega) (by omega) h01 h02).mono ?_; rintro e w1' ⟨rfl, rfl⟩; rw [HU.out]; have HB2 := HB1)
      | fail)
    go_ret
    exact ⟨rfl, HB1.out⟩
end Go.Proofs.YthlclknbehfloaaDoor

namespace Go.Proofs.YthlclknbehfloaaDoor
open Go.RowKit Go.Maps

set_option maxRecDepth 100000 in
set_option maxHeartbeats 2000000 in
theorem callTwice_walk (w : World) (p : Nat → Addr) (hs : Sents w p) (htb : Tabs w) (n0 n2 : Int) (h01 : -9223372036854775808 ≤ n0) (h02 : n0 ≤ 9223372036854775807) (h21 : -9223372036854775808 ≤ n2) (h22 : n2 ≤ 9223372036854775807) (A : Option Addr) (c n : Nat) (b : List UInt8) (ha : Arg w A c b) (hn : b.length = n) :
    Calls Tryd.prog 5 #[.int .i64 n0, .slice A n c, .int .i64 n2] w fun e w' => e = .returned (.bool true) ∧ Below w.heap.size w w' := by
  have HS := hide hs
  have HTB := hide htb
  have HA := hide ha
  have HN := hide hn
  have HF := hide (caFirst_any (E := fun j => j < 19) (by omega) (by omega) w p hs)
  have h3 : num n0 3 < 3 := num_lt n0 3 (by omega)
  have h4 : num n2 4 < 4 := num_lt n2 4 (by omega)
  obtain ⟨kd, hkd⟩ : ∃ u, num n0 3 = u := ⟨_, rfl⟩
  obtain ⟨m, hm⟩ : ∃ m, num n2 4 = m := ⟨_, rfl⟩
  rw [hkd] at h3
  rw [hm] at h4
  have HKD := hide hkd
  have HM := hide hm
  have HAS : Hid (∀ (S : Nat → Prop) (cb : Nat), (∀ x, S x → w.heap.size ≤ x) → w.heap.size ≤ cb → ∀ x o, A = some ⟨x, o, none⟩ → b ≠ [] → ¬ S x ∧ ¬ x = cb) := hide (fun S cb hS hcb x o e hb => by
    have hx : x < w.heap.size := by
      rcases ha.reads with h1 | ⟨g, off, e1, hlt, -⟩
      · exact absurd h1 hb
      · rw [e1] at e; injection e with e; injection e with e _ _; subst e; exact hlt
    exact ⟨fun h => by have := hS x h; omega, fun e => by omega⟩)
  clear hs ha hn hkd hm htb
  by_cases hle : n ≤ 100
  · have HT1 := hide (St.t_put b)
    have hnc : (n : Int) ≤ 100 := by omega
    go_enter Tryd.func5, Tryd.ntmps5
    go_wp2_with (first
      | (go_at_call 22; refine HF.out.mono ?_; rintro e w1 ⟨rfl, hb⟩; have HB1 := hide hb; clear hb)
      | (have := HB2.out; clear this; go_at_call 23; refine (num_at n2 4 4 w1 (by omega) (by omega) (by omega) h21 h22).mono ?_; rintro e w1' ⟨rfl, rfl⟩; rw [HM.out])
      | (go_at_call 23; refine (num_at n0 3 3 w1 (by omega) (by omega) (by omega) h01 h02).mono ?_; rintro e w1' ⟨rfl, rfl⟩; rw [HKD.out]; have HB2 := HB1)
      | (go_at_call 9; refine (stNew_any w w1 HB1.out).mono ?_; rintro e w2 ⟨sb, S, rfl, h, -, -⟩; have H2 := hide h; clear h)
      | (go_at_call 24; refine (caNew_any H2.out 5 (by omega) 5 rfl).mono ?_; rintro e w3 ⟨rfl, h, -⟩; have H3 := hide h; clear h H2; generalize w2.heap.size = cb at *)
      | (go_at_call 25; refine (H3.out.putE (E := fun j => j < 19) (by omega) (by omega) p HS.out (by omega) (by omega) [120] (by simp) A c n b (HA.out.below H3.out.st.below (Nat.le_refl _)) HN.out (by omega) (HAS.out _ _ (fun x hx => H3.out.st.lo x (.inl hx)) H3.out.lo)).mono ?_; rintro e w4 ⟨rfl, S4, D4, h, -⟩; rw [HT1.out.1]; have HQ1 := hide HT1.out.2; clear HT1; generalize St.cput 5 [120] b St.S.new = A1 at h HQ1; obtain ⟨a4, h⟩ : ∃ a4, CaS w S4 D4 sb cb 5 a4 A1.st 5 w4 := ⟨_, h⟩; have H4 := hide h; clear h H3; unfold errR)
      | (go_at_call 27; have hT2 := St.t_start b A1.st HQ1.out.1 HQ1.out.2.1 HQ1.out.2.2.1; refine (H4.out.start p HS.out (by omega) (by omega) [121] (by simp)).mono ?_; rintro e w5 ⟨rfl, S5, D5, h, -⟩; rw [hT2.1, hT2.2.1]; have HQ2 := hide hT2.2.2; clear hT2; generalize (St.cstart 5 [121] A1.st).st.1 = s2 at h HQ2; obtain ⟨a5, h⟩ : ∃ a5, CaS w S5 D5 sb cb 5 a5 s2 (5 + 5) w5 := ⟨_, h⟩; have H5 := hide h; clear h H4 HQ1; unfold errR)
      | (go_at_call 28; have hT3 := St.t_part b s2 HQ2.out.1 HQ2.out.2.1 HQ2.out.2.2; refine (H5.out.part p HS.out (by omega) (by omega) 1 (by omega) 0 (by omega) A n c b (HA.out.below H5.out.st.below (Nat.le_refl _)) HN.out (by omega) (HAS.out _ _ (fun x hx => H5.out.st.lo x (.inl hx)) H5.out.lo)).mono ?_; rintro e w6 ⟨rfl, S6, D6, h, -⟩; rw [hT3.1]; have HQ3 := hide hT3.2; clear hT3; generalize St.again (St.bareOf fun s => s.ask () (St.S.partF 1 0 b)) 5 s2 = A3 at h HQ3; obtain ⟨a6, h⟩ : ∃ a6, CaS w S6 D6 sb cb 5 a6 A3.st (5 + 5 + 5) w6 := ⟨_, h⟩; have H6 := hide h; clear h H5 HQ2; unfold errR)
      | (go_at_call 16; have hT4 := St.t_head b A3.st HQ3.out.1 HQ3.out.2; refine (StS.head H6.out.st p HS.out (by omega) HTB.out [120] (by simp)).mono ?_; rintro e w7 ⟨rfl, h, hg⟩; rw [hT4.1, HN.out]; have HQ4 := hide hT4.2; clear hT4; generalize (A3.st.head [120]).2 = s4 at h HQ4; have H7 := hide (H6.out.other h ⟨hg, fun _ h => .inl h, fun _ h => .inl h⟩ (by omega)); clear h hg H6 HQ3; unfold errR)
      | fail)
    generalize hsm : U (Crc.sum b) = sm at *
    have HSM := hide hsm
    clear hsm
    go_loopw [16] (fun i wr => ∃ (j : Nat) (S D : Nat → Prop), j ≤ m ∧ i = .int .i64 j ∧ CaS w S D sb cb 5 a6 (St.lost s4 j) 16 wr) (fun i _ => m - (intOf i).toNat)
    case atStart => exact ⟨0, S6, D6, Nat.zero_le _, rfl, by rw [← St.lost_zero HQ4.out.1]; exact H7.out⟩
    case round =>
      obtain ⟨j, S8, D8, hj, rfl, h8⟩ := hrel
      have H8 := hide h8
      clear h8
      by_cases hlt : j < m
      · go_wp2_with (first
          | (go_at_call 12; have h5 := H8.out.grow (balloc (Below.refl _ _) (.cells #[.int .i64 2] 3)); refine (StS.script h5.st (some ⟨wr.heap.size, 0, none⟩) 1 1 [2] (IntsArg.made wr [2] _ _ 1 rfl rfl (by omega) (by simp)) rfl (by simp [St.lost]; omega)).mono ?_; rintro e w9 ⟨rfl, S9, h, hg⟩; rw [St.lost_more] at h; have H9 := hide (h5.other h hg (Nat.le_refl _)); clear h hg h5)
          | fail)
        exact ⟨⟨j + 1, S9, D8, by omega, by simp, H9.out⟩, by simp [intOf]; omega⟩
      · obtain rfl : j = m := by omega
        by_cases hk0 : kd = 0
        · subst hk0
          have HD := hide (St.del_twice b s4 HQ4.out.2 j (by omega))
          have k6 := eql_nil (p 6)
          go_wp2_with (first
            | (have := H9.out; clear this; go_at_call 29; refine (H9.out.del p HS.out (by omega) (by omega) [120] (by simp)).mono ?_; rintro e w10 ⟨rfl, S10, D10, h, -⟩; rw [HD.out.2]; have H10 := hide h; clear h; unfold errR)
            | (go_at_call 29; refine (H8.out.del p HS.out (by omega) (by omega) [120] (by simp)).mono ?_; rintro e w9 ⟨rfl, S9, D9, h, -⟩; rw [HD.out.1]; have H9 := hide h; clear h; unfold errR)
            | (go_at_call 17; refine (is_sent w10 p (HS.out.below H10.out.st.below) 6 (by omega) 107).mono ?_; rintro e w11 ⟨rfl, hb⟩; have H11 := hide (H10.out.grow hb); clear hb)
            | fail)
          go_ret
          exact ⟨rfl, H11.out.st.below⟩
        · by_cases hk1 : kd = 1
          · subst hk1
            have HD := hide (St.abort_twice b s4 HQ4.out.2 j (by omega))
            have k6 := eql_nil (p 6)
            go_wp2_with (first
              | (have := H9.out; clear this; go_at_call 30; refine (H9.out.abort p HS.out (by omega) (by omega) 1 (by omega)).mono ?_; rintro e w10 ⟨rfl, S10, D10, h, -⟩; rw [HD.out.2]; have H10 := hide h; clear h; unfold errR)
              | (go_at_call 30; refine (H8.out.abort p HS.out (by omega) (by omega) 1 (by omega)).mono ?_; rintro e w9 ⟨rfl, S9, D9, h, -⟩; rw [HD.out.1]; have H9 := hide h; clear h; unfold errR)
              | (go_at_call 17; refine (is_sent w10 p (HS.out.below H10.out.st.below) 6 (by omega) 107).mono ?_; rintro e w11 ⟨rfl, hb⟩; have H11 := hide (H10.out.grow hb); clear hb)
              | fail)
            go_ret
            exact ⟨rfl, H11.out.st.below⟩
          · obtain rfl : kd = 2 := by omega
            have hfew := HQ4.out.2.few (by have := HN.out; omega) j
            have hct := St.comp_twice b s4 HQ4.out.2 j (by omega)
            rw [HSM.out, HN.out] at hct
            have HD := hide hct
            have HFW := hide hfew
            clear hct hfew hk0 hk1
            go_wp2_with (first
              | (have := H9.out; clear this; go_at_call 31; refine (H9.out.comp p HS.out HTB.out (by omega) (by omega) 1 (by omega) 1 (by omega) [121] (by simp) (n : Int) sm St.FewP (fun _ h => h.comp) (fun _ h => h.sum) HD.out.2.2.2).mono ?_; rintro e w10 ⟨rfl, S10, D10, h, -⟩; rw [HD.out.2.1]; have H10 := hide h; have HBY := hide (StS.bytes h.st [121] (by simp)); rw [HD.out.2.2.1] at HBY; clear h; unfold errR)
              | (go_at_call 31; refine (H8.out.comp p HS.out HTB.out (by omega) (by omega) 1 (by omega) 1 (by omega) [121] (by simp) (n : Int) sm St.FewP (fun _ h => h.comp) (fun _ h => h.sum) HFW.out).mono ?_; rintro e w9 ⟨rfl, S9, D9, h, -⟩; rw [HD.out.1]; have H9 := hide h; clear h; unfold errR)
              | (go_at_call 15; refine HBY.out.mono ?_; rintro e w11 ⟨v, rfl, ho, hb⟩; have H11 := hide (H10.out.grow hb); obtain ⟨A6, c6, rfl, ha6⟩ := own_n (n := n) ho HN.out; have HA6 := hide ha6; clear ho hb ha6 H10; simp only [Option.isSome_some])
              | (go_at_call 18; refine (sameBytes_same A6 A c6 c n b HN.out (by omega) HA6.out.reads (HA.out.below H11.out.st.below (Nat.le_refl _)).reads).mono ?_; rintro e w12 ⟨rfl, hw⟩; have H12 := hide (H11.out.grow (below_drew_c hw)); clear hw)
              | (go_at_call 17; refine (is_sent w12 p (HS.out.below H12.out.st.below) 6 (by omega) 107).mono ?_; rintro e w13 ⟨rfl, hb⟩; have H13 := hide (H12.out.grow hb); clear hb)
              | fail)
            go_ret
            exact ⟨rfl, H13.out.st.below⟩
  · go_enter Tryd.func5, Tryd.ntmps5
    go_wp2_with (first
      | (go_at_call 22; refine HF.out.mono ?_; rintro e w1 ⟨rfl, hb⟩; have HB1 := hide hb; clear hb)
      | (have := HB2.out; clear this; go_at_call 23; refine (num_at n2 4 4 w1 (by omega) (by omega) (by omega) h21 h22).mono ?_; rintro e w1' ⟨rfl, rfl⟩; rw [HM.out])
      | (go_at_call 23; refine (num_at n0 3 3 w1 (by omega) (by omega) (by omega) h01 h02).mono ?_; rintro e w1' ⟨rfl, rfl⟩; rw [HKD.out]; have HB2 := HB1)
      | fail)
    go_ret
    exact ⟨rfl, HB1.out⟩
end Go.Proofs.YthlclknbehfloaaDoor

namespace Go.Proofs.YthlclknbehfloaaDoor.CallTwiceLaw
open Go.Proofs.YthlclknbehfloaaDoor
open Go.RowKit Go.ChangeShapes Go.WideShapes Go.ChangeAt

set_option maxRecDepth 100000 in
theorem lifted (os : Os) (started : os.Started) (H : Type) (enc : TypeId × Value → H) :
    ReturnsInHanded {} Tryd.checked os 5 .any (fun w args => (Rows.callTwiceSpec.pre enc Tryd.prog Tryd.f5 [] false w args ∧ laidMetH Tryd.prog laidAll w) ∧ sizedMet enc Tryd.prog Tryd.f5 (OpenSpec.ofChange Rows.callTwiceSpec) false w args)
      (Rows.callTwiceSpec.post enc Tryd.prog Tryd.f5 false true false false) := by
  refine returnsInHanded_of_change_and (C := Tryd.checked) (X := fun w _ => laidMetH Tryd.prog laidAll w) (fun _ _ _ hh h => h.of_heap hh) own started (by kernel_rfl) Tryd.func5
    (ChangeSpec.witness_shaped (enc := enc) (C := Tryd.checked) (os := os) (X := fun w _ => laidMetH Tryd.prog laidAll w) false (World.doorLaid Tryd.prog 400 os) #[.int .i64 0, .slice none 0 0, .int .i64 0] 8 rfl (World.shaped_of_RefB (by kernel_rfl) (by kernel_rfl)) (by kernel_rfl) (by kernel_rfl) (by kernel_rfl) (door_met_all os _)) ?_
  intro W base args ds gs before hval0 hW _ _ hL _
  have hval : ∀ (j : Nat) t v, Tryd.f5.params[j]? = some t → args[j]? = some v → Value.okWide Tryd.prog W .any base t v := hval0
  have hW' := hW
  obtain ⟨p, q, hA0, hV, rfl, hfz, hnd⟩ := hW
  have hA : DataW.TrodAll enc Tryd.prog W 0 (fun _ => true) true Tryd.f5.params.toList args.toList ds p := hA0
  rw [Tryd.params5] at hA hval
  obtain ⟨v0, vs0, d0, ds0, p0, q0, hargs, rfl, rfl, h0, r0⟩ := trodAll_cons hA
  obtain ⟨v1, vs1, d1, ds1, p1, q1, rfl, rfl, rfl, h1, r1⟩ := trodAll_cons r0
  obtain ⟨v2, vs2, d2, ds2, p2, q2, rfl, rfl, rfl, h2, r2⟩ := trodAll_cons r1
  obtain ⟨rfl, rfl, rfl⟩ := trodAll_nil r2
  obtain rfl : args = #[v0, v1, v2] := by cases args; simp_all
  obtain ⟨rfl, rfl⟩ := trodVars_none hV
  obtain ⟨a0, rfl, rfl, rfl, w0⟩ := open_int Tryd.underlying3 (hval 0 3 v0 rfl rfl) h0
  have hb0 := bounds_i64 w0
  obtain ⟨a1, len1, cap1, rfl⟩ := okWide_slice Tryd.underlying22 (hval 1 22 v1 rfl rfl)
  have k1 := h1
  have lt1 : ∀ x ∈ p1, x.block < W.heap.size := by obtain ⟨m, hm⟩ := k1; exact DataW.trod_lt m _ _ _ hm
  obtain ⟨l1, rfl, w1⟩ := arg_of h1
  obtain ⟨a2, rfl, rfl, rfl, w2⟩ := open_int Tryd.underlying3 (hval 2 3 v2 rfl rfl) h2
  have hb2 := bounds_i64 w2
  clear hA0 hval0
  have htab := tabs_of_all hL
  obtain ⟨ps, hsent⟩ := sents_of_laid hL
  have hsz := htab.size
  refine (callTwice_walk W ps hsent htab a0 a2 hb0.1 hb0.2 hb2.1 hb2.2 a1 cap1 _ l1 w1 rfl).mono fun e W' ⟨he, bel⟩ => ?_
  subst he
  exact ⟨_, rfl, _, _, _, [], _, [], hW', trodAll_mk1 (shut_bool Tryd.underlying4 _), (trodAll_cons_mk (shut_int Tryd.underlying3 w0) (trodAll_cons_mk (Below.trod laidOut (by kernel_rfl) (of_decide_eq_true (by kernel_rfl)) k1 bel lt1) (trodAll_cons_mk (shut_int Tryd.underlying3 w2) trodAll_mk0))), rfl, bel.frame _, fun h => by cases h⟩

theorem row : Rows.CallTwiceSaid :=
  OpenClaim.holds_of_wide 5 Tryd.f5 rfl rfl rfl rfl rfl rfl rfl ⟨rfl, rfl, rfl, rfl, rfl⟩ rfl rfl rfl rfl rfl (by kernel_rfl) Tryd.func5 (by kernel_rfl)
    (of_decide_eq_true (by kernel_rfl)) (by unfold Func.isWrapper; first | (rw [if_pos (by decide +kernel)]; kernel_rfl) | (rw [if_neg (by decide +kernel)]; exact ⟨rfl, rfl⟩))
    (fun os started H enc _ => lifted os started H enc)

theorem proved : Rows.CallTwiceCardSaid :=
  Claim7.holds_tied_plain_at .later [] _ true _ true
    row (fun _ h => by cases h) (by kernel_rfl) (fun _ h => by cases h) callTwice_row_tie rfl ⟨rfl, rfl⟩ (by kernel_rfl) rfl
    (fun f fn hf hfn => by
      obtain rfl : f = 5 := Option.some.inj ((show Tryd.prog.funcNamed "cordwood/cordwoodlaw12.CallTwice" = some 5 by kernel_rfl).symm.trans hf) |>.symm
      obtain rfl : fn = Tryd.f5 := (Option.some.inj (Tryd.func5.symm.trans hfn)).symm
      exact ⟨by kernel_rfl, fun j t ht => by
        rw [Tryd.params5] at ht
        have hm : t ∈ [3, 22, 3] := by simpa using Array.mem_of_getElem? ht
        have hall : ([3, 22, 3].all fun u => !Tryd.prog.wantsStandIn u) = true := by kernel_rfl
        exact (show Tryd.prog.wantsStandIn t = false by simpa using List.all_eq_true.1 hall t hm)⟩)
    (by kernel_rfl)
end Go.Proofs.YthlclknbehfloaaDoor.CallTwiceLaw
