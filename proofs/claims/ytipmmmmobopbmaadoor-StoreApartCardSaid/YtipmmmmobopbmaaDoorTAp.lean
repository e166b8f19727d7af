/-
  A store's names and uploads: Names, Open.
  What StoreParts asks beside the store: its bounds, its rows of numbers, and the parts that it laid, plainly.
  StoreApart: uploads of one name stand apart, plainly; a row of their numbers under a walk.
  StoreApart, walked.
  StoreApart, proved.
-/
import Derived.Test.YtipmmmmobopbmaaDoorT8
import Derived.Test.YtipmmmmobopbmaaDoorT4
import Derived.Test.YtipmmmmobopbmaaDoorT9
import Derived.Test.YtipmmmmobopbmaaDoorT1
import Derived.LoopTactic
import Derived.Deep.LoopGhost
import Derived.Test.YtipmmmmobopbmaaDoorT2
namespace Go.Proofs.YtipmmmmobopbmaaDoor
open Go.RowKit Go.Maps Go.Sort

/-- These are the numbers, or the names, at which there is anything, rising. -/
def St.ListsI {α : Type} (f : Int → Option α) (l : List Int) : Prop := l.Pairwise (· < ·) ∧ ∀ x, x ∈ l ↔ f x ≠ none
def St.ListsS {α : Type} (f : List UInt8 → Option α) (l : List (List UInt8)) : Prop := l.Pairwise (· < ·) ∧ ∀ x, x ∈ l ↔ f x ≠ none
def OwnZ (w : World) (base : Nat) (v : Value) (l : List Int) : Prop := w.ownsRow base 3 1 v l.length (l.map (.int .i64 ·))

theorem keysI_lists {w : World} {b nn : Nat} {D0 : DataW Value} {f : Int → Option Value} (hown : w.ownsMap Tryd.prog 3 heldE b nn D0) (hat0 : ∀ k zd, D0.atKey (.int .i64 k) zd = heldV (f k) zd) {ss : List Int} (h : ss.Perm (intKeys D0)) :
    St.ListsI f (ss.mergeSort fun x y => decide (x ≤ y)) := by
  obtain ⟨es, hD, hpw, _⟩ := hown.entries intK
  obtain ⟨es', hD', hko⟩ := hown.keysOf
  obtain rfl : es = es' := by rw [hD] at hD'; simpa using hD'
  subst hD
  have hk : ∀ p ∈ es, ∃ x, p.1 = .int .i64 x := fun p hp => by
    obtain ⟨v, hv⟩ := hko p hp
    obtain ⟨x, _, hx, _⟩ := Maps.keyOf_int_inv Tryd.underlying3 hv
    exact ⟨x, hx⟩
  have hnd : (intKeys (.map es)).Nodup := by
    show (es.map fun p => Go.intOf p.1).Nodup
    refine List.pairwise_map.2 (hpw.imp_of_mem fun {p q} hp hq hne e => hne ?_)
    obtain ⟨x, hx⟩ := hk p hp
    obtain ⟨y, hy⟩ := hk q hq
    rw [hx, hy] at e ⊢
    exact congrArg _ e
  have hmem : ∀ x, x ∈ intKeys (.map es) ↔ f x ≠ none := fun x => by
    have h1 := hasV (mk := fun k : Int => Lit.int .i64 k) hat0 x
    have h2 : f x ≠ none ↔ Maps.has (.map es) (Lit.int .i64 x) = true := by rw [h1]; cases f x <;> simp
    rw [h2, has_eq, List.any_eq_true]
    show x ∈ es.map (fun p => Go.intOf p.1) ↔ _
    rw [List.mem_map]
    constructor
    · rintro ⟨p, hp, rfl⟩
      obtain ⟨y, hy⟩ := hk p hp
      exact ⟨p, hp, by rw [hy]; simp [Lit.sameKey, Go.intOf]⟩
    · rintro ⟨p, hp, hs⟩
      obtain ⟨y, hy⟩ := hk p hp
      rw [hy] at hs
      exact ⟨p, hp, by rw [hy]; simpa [Lit.sameKey, Go.intOf] using hs⟩
  have hp2 : (ss.mergeSort fun x y => decide (x ≤ y)).Perm (intKeys (.map es)) := (List.mergeSort_perm ss _).trans h
  refine ⟨?_, fun x => (hp2.mem_iff).trans (hmem x)⟩
  have hle : (ss.mergeSort fun x y => decide (x ≤ y)).Pairwise (fun a b => decide (a ≤ b) = true) :=
    List.pairwise_mergeSort (fun a b c h1 h2 => by simp only [decide_eq_true_eq] at *; omega) (fun a b => by simp only [Bool.or_eq_true, decide_eq_true_eq]; omega) ss
  have hne : (ss.mergeSort fun x y => decide (x ≤ y)).Nodup := hp2.nodup_iff.2 hnd
  refine (hle.and hne).imp fun {a b} hab => ?_
  have h1 : a ≤ b := of_decide_eq_true hab.1
  have h2 := hab.2
  omega
theorem keysS_lists {w : World} {b nn : Nat} {D0 : DataW Value} {f : List UInt8 → Option Value} (hown : w.ownsMap Tryd.prog 9 heldE b nn D0) (hat0 : ∀ k zd, D0.atKey (.string k) zd = heldV (f k) zd) {ss : List (List UInt8)} (h : ss.Perm (strKeys D0)) :
    St.ListsS f (ss.mergeSort fun x y => decide (x ≤ y)) := by
  obtain ⟨es, hD, hpw, _⟩ := hown.entries strK
  obtain ⟨es', hD', hko⟩ := hown.keysOf
  obtain rfl : es = es' := by rw [hD] at hD'; simpa using hD'
  subst hD
  have hk : ∀ p ∈ es, ∃ x, p.1 = .string x := fun p hp => by
    obtain ⟨v, hv⟩ := hko p hp
    obtain ⟨x, _, hx, _⟩ := Maps.keyOf_str Tryd.underlying9 hv
    exact ⟨x, hx⟩
  have hnd : (strKeys (.map es)).Nodup := by
    show (es.map fun p => strOf p.1).Nodup
    refine List.pairwise_map.2 (hpw.imp_of_mem fun {p q} hp hq hne e => hne ?_)
    obtain ⟨x, hx⟩ := hk p hp
    obtain ⟨y, hy⟩ := hk q hq
    rw [hx, hy] at e ⊢
    exact congrArg _ e
  have hmem : ∀ x, x ∈ strKeys (.map es) ↔ f x ≠ none := fun x => by
    have h1 := hasV (mk := fun k : List UInt8 => Lit.string k) hat0 x
    have h2 : f x ≠ none ↔ Maps.has (.map es) (Lit.string x) = true := by rw [h1]; cases f x <;> simp
    rw [h2, has_eq, List.any_eq_true]
    show x ∈ es.map (fun p => strOf p.1) ↔ _
    rw [List.mem_map]
    constructor
    · rintro ⟨p, hp, rfl⟩
      obtain ⟨y, hy⟩ := hk p hp
      exact ⟨p, hp, by rw [hy]; simp [Lit.sameKey, strOf]⟩
    · rintro ⟨p, hp, hs⟩
      obtain ⟨y, hy⟩ := hk p hp
      rw [hy] at hs
      exact ⟨p, hp, by rw [hy]; simpa [Lit.sameKey, strOf] using hs⟩
  have hp2 : (ss.mergeSort fun x y => decide (x ≤ y)).Perm (strKeys (.map es)) := (List.mergeSort_perm ss _).trans h
  refine ⟨?_, fun x => (hp2.mem_iff).trans (hmem x)⟩
  have hle : (ss.mergeSort fun x y => decide (x ≤ y)).Pairwise (fun a b => decide (a ≤ b) = true) :=
    List.pairwise_mergeSort (fun a b c h1 h2 => by simp only [decide_eq_true_eq] at *; exact List.le_trans h1 h2) (fun a b => by simp only [Bool.or_eq_true, decide_eq_true_eq]; exact List.le_total a b) ss
  have hne : (ss.mergeSort fun x y => decide (x ≤ y)).Nodup := hp2.nodup_iff.2 hnd
  refine (hle.and hne).imp fun {a b} hab => ?_
  have h1 : a ≤ b := of_decide_eq_true hab.1
  rcases Nm.tx_tri a b with e | e | e
  · exact e
  · exact absurd e hab.2
  · exact absurd e (List.not_lt.2 h1)

set_option maxRecDepth 100000 in
theorem StS.names {w0 w : World} {S D : Nat → Prop} {sb n : Nat} {s : St.S} (h : StS w0 S D sb s n w) (hn : n ≤ 1000000) :
    Calls Tryd.prog 29 #[.pointer (some ⟨sb, 0, none⟩)] w fun e w' => ∃ v l, e = .returned v ∧ St.ListsS s.objs l ∧ OwnT w' w.heap.size v l ∧ Below w.heap.size w w' := by
  obtain ⟨ob, ub, sv, ov, pb, pv, hL⟩ := h.st
  obtain ⟨D0, hown, hat0⟩ := hL.objs.ex
  have hsz := hown.size_le
  have c : w.cell? ⟨sb, 0, none⟩ = some (.map (some ob)) := box_cell hL.box 0
  have hS := callsIn_wide.1 (lay_slices_Sorted_keysO ob n D0 heldE w hown (by simp only [maxLen]; omega) (by omega))
  have hK := fun (mb : Option Nat) (W : World) => callsIn_wide.1 (lay_maps_KeysO mb W)
  have hov : ∀ x, ov x ≠ none ↔ s.objs x ≠ none := fun x => by
    have := hL.oat x
    cases h1 : ov x <;> cases h2 : s.objs x <;> simp_all [Both]
  have HL := hide (fun (ss : List (List UInt8)) (hp : ss.Perm (strKeys D0)) => (show St.ListsS s.objs (ss.mergeSort fun x y => decide (x ≤ y)) from ⟨(keysS_lists hown hat0 hp).1, fun x => ((keysS_lists hown hat0 hp).2 x).trans (hov x)⟩))
  have HS := hide hS
  have HK := hide hK
  clear h hL hS hK hown hat0 hsz hov
  go_enter Tryd.func29, Tryd.ntmps29
  go_wp2_with (first
    | (go_at_call 55; refine (HK.out _ _).mono ?_; rintro e w1 ⟨rfl, rfl⟩)
    | (go_at_call 54; refine HS.out.mono ?_; rintro e w2 ⟨v, ss, rfl, hp, hrow, -, hb2⟩; have HRO := hide hrow; have HB := hide hb2; have HP := hide hp; clear hrow hb2 hp)
    | fail)
  go_ret
  have hlen : (ss.mergeSort fun x y => decide (x ≤ y)).length = ss.length := by simp
  refine ⟨_, _, rfl, HL.out ss HP.out, ?_, (balloc (Below.refl _ _) _).trans (HB.out.mono (by simp))⟩
  refine OwnT.mono (base := (w.alloc (.cells #[.map (some ob)] 67)).heap.size) ?_ (by simp)
  unfold OwnT
  rw [hlen]
  exact HRO.out
theorem OwnZ.mono {w : World} {base base' : Nat} {v : Value} {l : List Int} (h : OwnZ w base v l) (hb : base' ≤ base) : OwnZ w base' v l := by
  obtain ⟨h1, h2⟩ := h
  refine ⟨h1, ?_⟩
  rcases h2 with h2 | ⟨g, cap, cur, hv, hg, r⟩
  · exact .inl h2
  · exact .inr ⟨g, cap, cur, hv, by omega, r⟩
set_option maxRecDepth 100000 in
theorem StS.openOf {w0 w : World} {S D : Nat → Prop} {sb n : Nat} {s : St.S} (h : StS w0 S D sb s n w) (hn : n ≤ 1000000) :
    Calls Tryd.prog 19 #[.pointer (some ⟨sb, 0, none⟩)] w fun e w' => ∃ v l, e = .returned v ∧ St.ListsI s.ups l ∧ OwnZ w' w.heap.size v l ∧ Below w.heap.size w w' := by
  obtain ⟨ob, ub, sv, ov, pb, pv, hL⟩ := h.st
  obtain ⟨D0, hown, hat0⟩ := hL.ups.ex
  have hsz := hown.size_le
  have c : w.cell? ⟨sb, 1, none⟩ = some (.map (some ub)) := box_cell hL.box 1
  have hS := callsIn_wide.1 (lay_slices_Sorted_keysI ub n D0 heldE w hown (by simp only [maxLen]; omega) (by omega))
  have hK := fun (mb : Option Nat) (W : World) => callsIn_wide.1 (lay_maps_KeysI mb W)
  have hov : ∀ x, upV pb s x ≠ none ↔ s.ups x ≠ none := fun x => by simp [upV]
  have HL := hide (fun (ss : List Int) (hp : ss.Perm (intKeys D0)) => (show St.ListsI s.ups (ss.mergeSort fun x y => decide (x ≤ y)) from ⟨(keysI_lists hown hat0 hp).1, fun x => ((keysI_lists hown hat0 hp).2 x).trans (hov x)⟩))
  have HS := hide hS
  have HK := hide hK
  clear h hL hS hK hown hat0 hsz hov
  go_enter Tryd.func19, Tryd.ntmps19
  go_wp2_with (first
    | (go_at_call 47; refine (HK.out _ _).mono ?_; rintro e w1 ⟨rfl, rfl⟩)
    | (go_at_call 46; refine HS.out.mono ?_; rintro e w2 ⟨v, ss, rfl, hp, hrow, -, hb2⟩; have HRO := hide hrow; have HB := hide hb2; have HP := hide hp; clear hrow hb2 hp)
    | fail)
  go_ret
  have hlen : (ss.mergeSort fun x y => decide (x ≤ y)).length = ss.length := by simp
  refine ⟨_, _, rfl, HL.out ss HP.out, ?_, (balloc (Below.refl _ _) _).trans (HB.out.mono (by simp))⟩
  refine OwnZ.mono (base := (w.alloc (.cells #[.map (some ub)] 68)).heap.size) ?_ (by simp)
  unfold OwnZ
  rw [hlen]
  exact HRO.out
end Go.Proofs.YtipmmmmobopbmaaDoor

namespace Go.Proofs.YtipmmmmobopbmaaDoor
open Go.RowKit Go.Maps Go.ChangeShapes Go.WideShapes Go.ChangeAt

set_option maxRecDepth 100000 in
set_option maxHeartbeats 400000 in
theorem few50_any (A : Option Addr) (cap : Nat) (ps : List Part) (w : World) (hr : ReadsAll w A ps) (hc : ps.length ≤ 9223372036854775807) (good : Bool) (hg : good = true ↔ (ps.length ≤ 12 ∧ ∀ q ∈ ps, q.l.length ≤ 50)) :
    Calls Tryd.prog 10 #[.slice A ps.length cap, .int .i64 12, .int .i64 50] w fun e w' => e = .returned (.bool good) ∧ w = w' := by
  have HR := hide hr
  have HG := hide hg
  clear hr hg
  by_cases h12 : 12 < ps.length
  · have hgf : good = false := by
      cases good
      · rfl
      · have := (HG.out.1 rfl).1; omega
    subst hgf
    go_enter Tryd.func10, Tryd.ntmps10
    go_wp2_with fail
    go_ret
    exact ⟨rfl, rfl⟩
  · go_enter Tryd.func10, Tryd.ntmps10
    go_wp2_with fail
    go_loop [7] (fun i => ∃ k : Nat, k ≤ ps.length ∧ i = .int .i64 k ∧ ∀ q ∈ ps.take k, q.l.length ≤ 50) (fun i => ps.length - (intOf i).toNat)
    case atStart => exact ⟨0, Nat.zero_le _, rfl, fun q hq => by simp at hq⟩
    case round =>
      obtain ⟨k, hk, rfl, hq⟩ := hrel
      have HQ := hide hq
      clear hq
      by_cases hlt : k < ps.length
      · rcases HR.out with rfl | ⟨b, off, rfl, hb, hcl⟩
        · simp at hlt
        obtain ⟨hcell, hlen, -⟩ := hcl k hlt
        have HTK := hide (List.take_succ_eq_append_getElem (l := ps) hlt)
        have HIN := hide (List.getElem_mem hlt)
        unfold Part.val at hcell
        clear hcl
        generalize ps[k] = q at *
        by_cases h50 : 50 < q.l.length
        · have hgf : good = false := by
            cases good
            · rfl
            · have := (HG.out.1 rfl).2 q HIN.out; omega
          subst hgf
          go_wp2_with fail
          go_ret
          exact ⟨rfl, rfl⟩
        · have H50 := hide h50
          go_wp2_with fail
          go_round
          case rel => exact ⟨k + 1, by omega, by go_num, fun x hx => by
            rw [HTK.out] at hx
            rcases List.mem_append.1 hx with h | h
            · exact HQ.out x h
            · obtain rfl := List.mem_singleton.1 h
              have := H50.out; omega⟩
          case measure => simp [intOf]; omega
      · obtain rfl : k = ps.length := by omega
        have hgt : good = true := by
          refine HG.out.2 ⟨by omega, ?_⟩
          have := HQ.out
          rwa [List.take_length] at this
        subst hgt
        go_wp2_with fail
        go_ret
        exact ⟨rfl, rfl⟩
theorem ReadsAll.at_ {w : World} {A : Option Addr} {ps : List Part} (h : ReadsAll w A ps) (k : Nat) (hk : k < ps.length) : ∃ b off, A = some ⟨b, off, none⟩ ∧ b < w.heap.size ∧ w.cell? ⟨b, off + k, none⟩ = some ps[k].val ∧ Reads w ps[k].a ps[k].l := by
  rcases h with h | ⟨b, off, e, hlt, hc⟩
  · rw [h] at hk; simp at hk
  · exact ⟨b, off, e, hlt, (hc k hk).1, (hc k hk).2.2⟩
theorem textArgs_of {H : Type} {enc : TypeId × Value → H} {W : World} {base : Nat} {held : Bool} {a : Option Addr} {len cap : Nat} {d : DataW H} {p : List MemPlace}
    (h : DataW.Trod enc Tryd.prog W base (fun _ => true) held 22 (.slice a len cap) d p) : ∃ ps : List Part, ps.length = len ∧ len ≤ cap ∧ cap ≤ 9223372036854775807 ∧ ReadsAll W a ps ∧ ∀ k (h : k < ps.length), ps[k].l.length ≤ ps[k].cap ∧ ps[k].cap ≤ 9223372036854775807 ∧ (ps[k].a = none → ps[k].cap = 0) := by
  obtain ⟨fuel, hf⟩ := h
  rcases Go.Deep.open_int_rows Tryd.underlying22 Tryd.underlying35 Tryd.underlying5 cells_bytes cells_u8 hf with ⟨hcs, _⟩ | ⟨x, l, c, A, L, C, Z, hcs, _, hl, hm, _, hrow⟩
  · simp [Value.cells] at hcs
    obtain ⟨rfl, rfl, rfl⟩ := hcs
    exact ⟨[], rfl, Nat.le_refl _, by omega, .inl rfl, fun k h => by simp at h⟩
  · simp [Value.cells] at hcs
    obtain ⟨rfl, rfl, rfl⟩ := hcs
    refine ⟨(List.range len).map fun r => ⟨A r, C r, ((Z r).take (L r)).map fun z => UInt8.ofNat z.toNat⟩, by simp, hl, by simpa [maxLen] using hm, ?_, fun k hk => ?_⟩
    rotate_left
    · have hk' : k < len := by simpa using hk
      obtain ⟨r1, r2, r3, r4, r5, r6, r7⟩ := hrow k (by omega)
      have hlen : (((Z k).take (L k)).map fun z => UInt8.ofNat z.toNat).length = L k := by simp; omega
      simp only [List.getElem_map, List.getElem_range]
      refine ⟨by omega, by simpa [maxLen] using r3, fun e => ?_⟩
      have := r6 e; omega
    by_cases h0 : len = 0
    · subst h0; exact .inl (by simp)
    · obtain ⟨b, off, spot⟩ := x
      have hc := (hrow 0 (by omega)).1
      have hspot : spot = none := by simpa [Addr.add] using World.cell?_spot hc
      subst hspot
      refine .inr ⟨b, off, rfl, ?_, fun k hk => ?_⟩
      · rcases Nat.lt_or_ge b W.heap.size with h | h
        · exact h
        · exfalso
          simp [World.cell?, Addr.add, Array.getElem?_eq_none h] at hc
      · have hk' : k < len := by simpa using hk
        obtain ⟨r1, r2, r3, r4, r5, r6, r7⟩ := hrow k (by omega)
        have hlen : (((Z k).take (L k)).map fun z => UInt8.ofNat z.toNat).length = L k := by simp; omega
        rw [Addr.add_lit] at r1
        simp only [List.getElem_map, List.getElem_range]
        refine ⟨?_, ?_, ?_⟩
        · rw [r1]; unfold Part.val; simp only; rw [hlen]
        · rw [hlen]; have : C k ≤ maxLen := r3; unfold maxLen at this; omega
        · cases hA : A k with
          | none =>
            refine .inl (List.eq_nil_of_length_eq_zero ?_)
            rw [hlen]; have := r6 hA; omega
          | some a' => exact reads_of_ints r2 r4 r5 (r7 a' hA).2
set_option maxHeartbeats 400000 in
theorem sameInts_any (A A' : Option Addr) (cap cap' n n' : Nat) (l m : List Int) (w : World) (hn : l.length = n) (hn' : m.length = n') (hl : n ≤ 1000000) (hl' : n' ≤ 1000000) (hr : IntsArg w A cap l) (hr' : IntsArg w A' cap' m) :
    Calls Tryd.prog 18 #[.slice A n cap, .slice A' n' cap'] w fun e w' => e = .returned (.bool (decide (l = m))) ∧ ∃ k, w' = w.drewN k := by
  by_cases hlen : n = n'
  · subst hlen
    have HR := hide hr
    have HR' := hide hr'
    have HN := hide hn
    have HN' := hide hn'
    clear hr hr' hn hn'
    go_enter Tryd.func18, Tryd.ntmps18
    go_wp2
    go_loopw [5] (fun i wr => ∃ k : Nat, k ≤ n ∧ i = .int .i64 k ∧ l.take k = m.take k ∧ ∃ q, wr = w.drewN q) (fun i _ => n - (intOf i).toNat)
    case atStart => exact ⟨0, Nat.zero_le _, rfl, by simp, 0, rfl⟩
    case round =>
      obtain ⟨k, hk, rfl, htk, q, rfl⟩ := hrel
      have HTK := hide htk
      clear htk
      by_cases hlt : k < n
      · have hkl : k < l.length := by rw [HN.out]; exact hlt
        have hkm : k < m.length := by rw [HN'.out]; exact hlt
        obtain ⟨b, off, rfl, hcell⟩ := HR.out.get k hkl
        obtain ⟨b', off', rfl, hcell'⟩ := HR'.out.get k hkm
        have HL : Hid (l.take (k + 1) = l.take k ++ [l.getD k 0]) := by
          show _ = _; rw [List.take_succ_eq_append_getElem hkl]; simp [List.getD, hkl]
        have HM : Hid (m.take (k + 1) = m.take k ++ [m.getD k 0]) := by
          show _ = _; rw [List.take_succ_eq_append_getElem hkm]; simp [List.getD, hkm]
        clear hkl hkm
        generalize l.getD k 0 = x at *
        generalize m.getD k 0 = y at *
        by_cases hxy : x = y
        · subst hxy
          go_wp2
          go_quiet (fail)
          go_wp2
          go_roundw
          case rel => exact ⟨k + 1, by omega, by go_num, by rw [HL.out, HM.out, HTK.out], _, rfl⟩
          case measure => simp [intOf]; omega
        · have hne : (x == y) = false := beq_eq_false_iff_ne.2 hxy
          have HD : Hid (decide (l = m) = false) := by
            show _ = _
            rw [decide_eq_false_iff_not]
            intro e
            have h2 := HM.out
            rw [← e, HL.out, e] at h2
            have h3 := List.append_cancel_left h2
            simp at h3
            exact hxy h3
          clear hxy
          go_wp2
          go_quiet (fail)
          go_wp2
          go_ret
          exact ⟨by rw [HD.out]; rfl, _, rfl⟩
      · have HE : Hid (decide (l = m) = true) := by
          show _ = _
          rw [decide_eq_true_iff]
          have hkn : k = n := by omega
          have := HTK.out
          rw [hkn] at this
          rwa [show l.take n = l from by rw [← HN.out, List.take_length], show m.take n = m from by rw [← HN'.out, List.take_length]] at this
        go_wp2
        go_ret
        exact ⟨by rw [HE.out]; rfl, _, rfl⟩
  · have hd : decide (l = m) = false := by
      rw [decide_eq_false_iff_not]
      intro e; rw [e] at hn; omega
    rw [hd]
    clear hd hn hn' hr hr'
    go_enter Tryd.func18, Tryd.ntmps18
    go_wp2
    go_ret
    exact ⟨rfl, 0, rfl⟩
theorem OwnZ.ints {w : World} {base : Nat} {v : Value} {l : List Int} (h : OwnZ w base v l) (hz : ∀ z ∈ l, -9223372036854775808 ≤ z ∧ z ≤ 9223372036854775807) : ∃ A c, v = .slice A l.length c ∧ IntsArg w A c l := by
  rcases h.2 with ⟨e, h0⟩ | ⟨g, cap, cur, e, hg, hh, hc, hm, hs, ht⟩
  · exact ⟨none, 0, by rw [e, h0], ⟨by omega, by omega, fun _ => rfl, fun j hj => by omega, hz⟩⟩
  · refine ⟨_, cap, e, ⟨hc, by simpa [maxLen] using hm, fun e => (by cases e), fun j hj => ⟨g, 0, rfl, ?_⟩, hz⟩⟩
    have hc := World.ownsRow.cells (g := g) h (by rw [e]; rfl) j (.int .i64 (l.getD j 0)) (by simp [List.getD, hj])
    rwa [Addr.add_lit, Nat.zero_add] at *
theorem own_z {w : World} {base n : Nat} {v : Value} {l : List Int} (h : OwnZ w base v l) (hn : l.length = n) (hz : ∀ z ∈ l, -9223372036854775808 ≤ z ∧ z ≤ 9223372036854775807) : ∃ A c, v = .slice A n c ∧ IntsArg w A c l := by
  subst hn; exact h.ints hz
theorem St.lists_nil {α : Type} {f : Int → Option α} {l : List Int} (h : St.ListsI f l) (hf : ∀ x, f x = none) : l = [] :=
  List.eq_nil_iff_forall_not_mem.2 fun x hx => (h.2 x).1 hx (hf x)
theorem St.lists_one {α : Type} {f : Int → Option α} {l : List Int} (h : St.ListsI f l) (z : Int) (h1 : f z ≠ none) (hf : ∀ x, x ≠ z → f x = none) : l = [z] := by
  obtain ⟨hp, hm⟩ := h
  match l, hp, hm with
  | [], _, hm => exact absurd ((hm z).2 h1) (by simp)
  | [a], _, hm =>
    have : a = z := by
      by_cases e : a = z
      · exact e
      · exact absurd (hf a e) ((hm a).1 (by simp))
    rw [this]
  | a :: b :: t, hp, hm =>
    have e1 : a = z := Classical.byContradiction fun e => (hm a).1 (by simp) (hf a e)
    have e2 : b = z := Classical.byContradiction fun e => (hm b).1 (by simp) (hf b e)
    have := (List.pairwise_cons.1 hp).1 b (by simp)
    omega
theorem St.ask_free {α : Type} (s : St.S) (h : s.script = []) (z : α) (f : St.S → (α × Option Nat) × St.S) : s.ask z f = f s.took := by
  have ho : s.out = 0 := by simp [St.S.out, h]
  unfold St.S.ask
  rw [ho, if_neg (by omega), if_neg (by omega)]
theorem below_drew_q {w w' : World} (h : ∃ k, w' = w.drewN k) : Below w.heap.size w w' := by
  obtain ⟨q, rfl⟩ := h; exact below_drewN (Below.refl _ _) q
theorem StS.setB {w0 w : World} {S D : Nat → Prop} {sb n : Nat} {s : St.S} (h : StS w0 S D sb s n w) (b i : Nat) (v : Value) (hS : ¬ S b) (hD : ¬ D b) (h0 : w0.heap.size ≤ b) : StS w0 S D sb s n (w.setCell ⟨b, i, none⟩ v) :=
  ⟨h.st.kept (by simp) fun k hk _ => Below.heap_setCell _ _ _ _ (by show k ≠ b; rintro rfl; rcases hk with hk | hk; exact hS hk; exact hD hk), h.lo, h.below.setCell (p := ⟨b, i, none⟩) h0 v, h.calls, h.failed⟩
/-- One upload, open, with these parts of it. -/
structure St.AtP (k : St.Nm) (f : Int → Option (List UInt8)) (s : St.S) : Prop where
  script : s.script = []
  up : s.ups 1 = some ⟨k, f⟩
  ups : ∀ x, x ≠ 1 → s.ups x = none
  obj : s.objs k = none
structure St.AtQ (k : St.Nm) (b : Option (List UInt8)) (s : St.S) : Prop where
  script : s.script = []
  ups : ∀ x, s.ups x = none
  obj : s.objs k = b
theorem St.start_p (k : St.Nm) (hv : Dk.valid k = true) : (St.S.new.start k).1 = (1, none) ∧ St.AtP k (fun _ => none) (St.S.new.start k).2 := by
  unfold St.S.start
  rw [St.ask_free _ rfl]
  unfold St.S.startF
  rw [if_pos hv]
  exact ⟨rfl, rfl, by simp [St.upd, St.S.took, St.S.new], fun x hx => by simp [St.upd, St.S.took, St.S.new, hx], rfl⟩
theorem St.took_plain {s : St.S} (h : s.script = []) : s.took.script = [] ∧ s.took.ups = s.ups ∧ s.took.objs = s.objs := ⟨by simp [St.S.took, h], rfl, rfl⟩
theorem St.AtP.part {k : St.Nm} {f : Int → Option (List UInt8)} {s : St.S} (h : St.AtP k f s) (n : Int) (hn : 0 ≤ n ∧ n < 256) (b : List UInt8) : (s.part 1 n b).1.2 = none ∧ St.AtP k (St.upd f n (some b)) (s.part 1 n b).2 := by
  obtain ⟨h1, h2, h3⟩ := St.took_plain h.script
  unfold St.S.part
  rw [St.ask_free _ h.script]
  unfold St.S.partF
  rw [h2, h.up]
  simp only
  rw [if_neg (by omega)]
  exact ⟨rfl, h1, by simp [St.upd], fun x hx => by simp [St.upd, hx]; exact h.ups x hx, by rw [← h.obj, ← h3]⟩
theorem St.AtP.comp_bad {k : St.Nm} {f : Int → Option (List UInt8)} {s : St.S} (h : St.AtP k f s) (n : Nat) (hn : n ≤ 256) (hj : St.joinN f n = none) : (s.comp 1 n).1.2 = some 4 ∧ St.AtP k f (s.comp 1 n).2 := by
  obtain ⟨h1, h2, h3⟩ := St.took_plain h.script
  unfold St.S.comp
  rw [St.ask_free _ h.script]
  unfold St.S.compF
  rw [h2, h.up]
  simp only
  rw [if_neg (by omega), Int.toNat_natCast, hj]
  exact ⟨rfl, h1, h2 ▸ h.up, h2 ▸ h.ups, h3 ▸ h.obj⟩
theorem St.AtP.comp {k : St.Nm} {f : Int → Option (List UInt8)} {s : St.S} (h : St.AtP k f s) (n : Nat) (hn : n ≤ 256) (b : List UInt8) (hj : St.joinN f n = some b) : (s.comp 1 n).1.2 = none ∧ St.AtQ k (some b) (s.comp 1 n).2 := by
  obtain ⟨h1, h2, h3⟩ := St.took_plain h.script
  unfold St.S.comp
  rw [St.ask_free _ h.script]
  unfold St.S.compF
  rw [h2, h.up]
  simp only
  rw [if_neg (by omega), Int.toNat_natCast, hj]
  refine ⟨rfl, h1, fun x => ?_, by simp [St.upd]⟩
  by_cases e : x = 1
  · simp [St.upd, e]
  · simp [St.upd, e]; exact h.ups x e
theorem St.AtP.abort {k : St.Nm} {f : Int → Option (List UInt8)} {s : St.S} (h : St.AtP k f s) : (s.abort 1).1.2 = none ∧ St.AtQ k none (s.abort 1).2 := by
  obtain ⟨h1, h2, h3⟩ := St.took_plain h.script
  unfold St.S.abort
  rw [St.ask_free _ h.script]
  unfold St.S.abortF
  rw [h2, h.up]
  refine ⟨rfl, h1, fun x => ?_, h3 ▸ h.obj⟩
  by_cases e : x = 1
  · simp [St.upd, e]
  · simp [St.upd, e]; exact h.ups x e
theorem St.AtQ.part {k : St.Nm} {o : Option (List UInt8)} {s : St.S} (h : St.AtQ k o s) (z n : Int) (b : List UInt8) : (s.part z n b).1.2 = some 6 ∧ St.AtQ k o (s.part z n b).2 := by
  obtain ⟨h1, h2, h3⟩ := St.took_plain h.script
  unfold St.S.part
  rw [St.ask_free _ h.script]
  unfold St.S.partF
  rw [h2, h.ups z]
  exact ⟨rfl, h1, h2 ▸ h.ups, h3 ▸ h.obj⟩
theorem St.AtQ.comp {k : St.Nm} {o : Option (List UInt8)} {s : St.S} (h : St.AtQ k o s) (z n : Int) : (s.comp z n).1.2 = some 6 ∧ St.AtQ k o (s.comp z n).2 := by
  obtain ⟨h1, h2, h3⟩ := St.took_plain h.script
  unfold St.S.comp
  rw [St.ask_free _ h.script]
  unfold St.S.compF
  rw [h2, h.ups z]
  exact ⟨rfl, h1, h2 ▸ h.ups, h3 ▸ h.obj⟩
theorem St.joinN_len {f : Int → Option (List UInt8)} (B : Nat) (hf : ∀ x b, f x = some b → b.length ≤ B) : ∀ (n : Nat) (b : List UInt8), St.joinN f n = some b → b.length ≤ B * n
  | 0, b, h => by cases h; simp
  | n + 1, b, h => by
    unfold St.joinN at h
    cases h1 : St.joinN f n with
    | none => simp [h1] at h
    | some a =>
      cases h2 : f n with
      | none => simp [h1, h2] at h
      | some c =>
        simp [h1, h2] at h
        subst h
        have := St.joinN_len B hf n a h1
        have := hf _ _ h2
        rw [List.length_append, Nat.mul_succ]; omega
/-- The parts that so many rounds laid. -/
def partsP (ls : List (List UInt8)) (ks : Nat → Nat) : Nat → Int → Option (List UInt8)
  | 0 => fun _ => none
  | j + 1 => St.upd (partsP ls ks j) (ks j : Nat) (some (ls.getD (ks j) []))
theorem partsP_some (ls : List (List UInt8)) (ks : Nat → Nat) : ∀ (j : Nat) (x : Nat) (b : List UInt8), partsP ls ks j x = some b → b = ls.getD x []
  | 0, x, b, h => by cases h
  | j + 1, x, b, h => by
    unfold partsP St.upd at h
    split at h
    · next e => have : x = ks j := by omega
                subst this; exact (Option.some.inj h).symm
    · exact partsP_some ls ks j x b h
theorem partsP_len (ls : List (List UInt8)) (ks : Nat → Nat) (B : Nat) (hB : ∀ l ∈ ls, l.length ≤ B) : ∀ (j : Nat) (x : Int) (b : List UInt8), partsP ls ks j x = some b → b.length ≤ B
  | 0, x, b, h => by cases h
  | j + 1, x, b, h => by
    unfold partsP St.upd at h
    split at h
    · have := Option.some.inj h
      subst this
      by_cases hk : ks j < ls.length
      · have := hB _ (List.getElem_mem hk); simpa [List.getD, hk] using this
      · simp [List.getD, hk]
    · exact partsP_len ls ks B hB j x b h
theorem upd_upd {κ α : Type} [DecidableEq κ] (f : κ → Option α) (k : κ) (u v : Option α) : St.upd (St.upd f k u) k v = St.upd f k v := by
  funext x; unfold St.upd; split <;> rfl
/-- Whether one of the first is missing. -/
def missP (f : Int → Option (List UInt8)) : Nat → Bool
  | 0 => false
  | i + 1 => missP f i || (f (i : Nat)).isNone
theorem missP_true {f : Int → Option (List UInt8)} : ∀ {n : Nat}, missP f n = true → St.joinN f n = none
  | 0, h => by cases h
  | n + 1, h => by
    unfold missP at h
    unfold St.joinN
    rcases Bool.or_eq_true_iff.1 h with h | h
    · rw [missP_true h]
    · have : f (n : Nat) = none := by simpa using h
      rw [this]; split <;> simp_all
theorem missP_false {f : Int → Option (List UInt8)} {ps : List Part} : ∀ {n : Nat}, n ≤ ps.length → (∀ (x : Nat) b, f x = some b → b = (ps.map Part.l).getD x []) → missP f n = false → St.joinN f n = some (flat (ps.take n))
  | 0, _, _, _ => by simp [St.joinN, flat]
  | n + 1, hn, hf, h => by
    unfold missP at h
    obtain ⟨h1, h2⟩ := Bool.or_eq_false_iff.1 h
    have ih := missP_false (n := n) (by omega) hf h1
    cases h3 : f (n : Nat) with
    | none => simp [h3] at h2
    | some b =>
      have hb := hf n b h3
      unfold St.joinN
      rw [ih, h3]
      simp only
      have e : ps.take (n + 1) = ps.take n ++ [ps[n]] := List.take_succ_eq_append_getElem (by omega)
      have e2 : flat (ps.take n ++ [ps[n]]) = flat (ps.take n) ++ ps[n].l := by unfold flat; rw [List.flatMap_append]; simp
      rw [e, e2, hb]
      simp [List.getD, show n < ps.length by omega]
end Go.Proofs.YtipmmmmobopbmaaDoor

namespace Go.Proofs.YtipmmmmobopbmaaDoor
open Go.RowKit Go.Maps

theorem int_infoZ : (Tryd.prog.info? 3).map (fun i => (i.zero, i.size, i.bytes)) = some (some (.int .i64 0), 1, 8) := by kernel_rfl
section
variable {w : World} {ops : Array Oper} {rest : List Oper} {o : Oper} {a : Act} {Q : Exit → Act → World → Prop}
/-- append(s, z), s the call's own numbers. -/
theorem wpList_appZ (hgd : o.guard = none) (s x : Operand) (ho : o.op = .call { callee := .builtin .append, args := #[s, x], argTypes := #[23, 23] })
    (base : Nat) (v : Value) (l : List Int) (z : Int) (hs : a.eval s = v) (hown : OwnZ w base v l) (ad : Addr) (hx : a.eval x = .slice (some ad) 1 1) (hr : w.cell? (ad.add 0) = some (.int .i64 z))
    (hlen : l.length ≤ 1000000) (hbase : base ≤ w.heap.size)
    (h : ∀ v' w', OwnZ w' base v' (l ++ [z]) → w.grownBy w' v.ownBlock → (v'.ownBlock = v.ownBlock ∨ v'.ownBlock = some w.heap.size) → wpList Tryd.prog ops Q rest (a.put o.dst v') w') : wpList Tryd.prog ops Q (o :: rest) a w := by
  obtain ⟨i, hi, hz, hs1, hby⟩ := info_parts int_infoZ
  refine wpList_plain hgd fun K hK => ?_
  obtain ⟨v', w', hrun, h2, h3, _, h5⟩ := run_append_own_at (P := Tryd.prog) w base 23 o.type 3 i _ 1 8 Tryd.underlying23 hi hz hs1 hby rfl (by omega) v l.length (l.map (.int .i64 ·)) hown ad 1 1 [.int .i64 z] (by simp) (fun j u hu => by
      match j, hu with
      | 0, hu => simp only [List.getElem?_cons_zero, Option.some.injEq] at hu; subst hu; exact hr
      | j + 1, hu => simp at hu) (fun u hu => by simp only [List.mem_singleton] at hu; subst hu; rfl)
    (by simp only [maxLen]; omega) (by omega) hbase
  unfold Oper.wp execOp
  simp only [ho, resolve, invoke, builtin, Sem.run_bind, Sem.run_pure, Result.andThen_ok, List.map_toArray, List.map_cons, List.map_nil, hs, hx, hrun]
  refine hK _ _ (h v' w' ?_ h3 h5)
  unfold OwnZ
  rw [List.length_append, List.map_append]
  exact h2
end
/-- A row of numbers of the call's own, apart from a store. -/
structure Zr (S D : Nat → Prop) (B : Nat) (v : Value) (l : List Int) (w : World) : Prop where
  own : OwnZ w B v l
  ns : ∀ g, v.ownBlock = some g → ¬ S g ∧ ¬ D g
section
variable {S D S' D' : Nat → Prop} {B : Nat} {v : Value} {l : List Int} {w w' : World}
theorem Zr.lt (h : Zr S D B v l w) : ∀ g, v.ownBlock = some g → B ≤ g ∧ g < w.heap.size := World.ownsRow.lt h.own
theorem Zr.below (h : Zr S D B v l w) (hw : Below w.heap.size w w') : Zr S D B v l w' := ⟨ownsRow_same h.own fun g hg => hw.block g (h.lt g hg).2, h.ns⟩
theorem Zr.go (h : Zr S D B v l w) (hg : StGo S D S' D' w w') : Zr S' D' B v l w' :=
  ⟨ownsRow_same h.own fun g e => hg.chg.block g (h.lt g e).2 (h.ns g e).1, fun g e => ⟨fun hk => by
    rcases hg.s _ hk with h1 | h1
    · exact (h.ns g e).1 h1
    · have := (h.lt g e).2; omega, fun hk => by
    rcases hg.d _ hk with h1 | h1
    · exact (h.ns g e).2 h1
    · have := (h.lt g e).2; omega⟩⟩
theorem Zr.at_ (h : Zr S D B v l w) (n : Nat) (hn : l.length = n) : ∃ A c, v = .slice A n c ∧ ∀ k, k < n → ∃ g, A = some ⟨g, 0, none⟩ ∧ n ≤ c ∧ w.cell? ⟨g, k, none⟩ = some (.int .i64 (l.getD k 0)) := by
  subst hn
  rcases h.own.2 with ⟨e, e2⟩ | ⟨g, cap, cur, e, _, hh, hcap, _⟩
  · exact ⟨none, 0, by rw [e, e2], fun k hk => by omega⟩
  · refine ⟨_, cap, e, fun k hk => ⟨g, rfl, by omega, ?_⟩⟩
    have hc := World.ownsRow.cells (g := g) h.own (by rw [e]; rfl) k (.int .i64 (l.getD k 0)) (by simp [List.getD, hk])
    rwa [Addr.add_lit, Nat.zero_add] at hc
end
namespace St
structure AtU (k : Nm) (last : Int) (U : Int → Option Up) (O : Option (List UInt8)) (s : S) : Prop where
  script : s.script = []
  last : s.last = last
  ups : s.ups = U
  obj : s.objs k = O
variable {k : Nm} {last : Int} {U : Int → Option Up} {O : Option (List UInt8)} {s : S}
theorem AtU.start (h : AtU k last U O s) (hv : Dk.valid k = true) : (s.start k).1 = (last + 1, none) ∧ AtU k (last + 1) (upd U (last + 1) (some ⟨k, fun _ => none⟩)) O (s.start k).2 := by
  obtain ⟨h1, h2, h3⟩ := took_plain h.script
  have h4 : s.took.last = s.last := rfl
  unfold S.start
  rw [ask_free _ h.script]
  unfold S.startF
  rw [if_pos hv]
  exact ⟨by rw [h4, h.last], h1, by rw [h4, h.last], by rw [h4, h.last, h2, h.ups], by rw [← h.obj, ← h3]⟩
theorem AtU.part (h : AtU k last U O s) (id n : Int) (hn : 0 ≤ n ∧ n < 256) (b : List UInt8) (u : Up) (hu : U id = some u) : (s.part id n b).1.2 = none ∧ AtU k last (upd U id (some { u with parts := upd u.parts n (some b) })) O (s.part id n b).2 := by
  obtain ⟨h1, h2, h3⟩ := took_plain h.script
  have h4 : s.took.last = s.last := rfl
  unfold S.part
  rw [ask_free _ h.script]
  unfold S.partF
  rw [h2, h.ups, hu]
  simp only
  rw [if_neg (by omega)]
  exact ⟨rfl, h1, by rw [← h.last, ← h4], rfl, by rw [← h.obj, ← h3]⟩
theorem AtU.comp (h : AtU k last U O s) (id : Int) (n : Nat) (hn : n ≤ 256) (b : List UInt8) (u : Up) (hu : U id = some u) (hk : u.name = k) (hj : joinN u.parts n = some b) : (s.comp id n).1.2 = none ∧ AtU k last (upd U id none) (some b) (s.comp id n).2 := by
  obtain ⟨h1, h2, h3⟩ := took_plain h.script
  have h4 : s.took.last = s.last := rfl
  unfold S.comp
  rw [ask_free _ h.script]
  unfold S.compF
  rw [h2, h.ups, hu]
  simp only
  rw [if_neg (by omega), Int.toNat_natCast, hj]
  exact ⟨rfl, h1, by rw [← h.last, ← h4], rfl, by rw [hk]; simp [upd]⟩
/-- The one part of each. -/
def pA (a : List UInt8) (j : Nat) : Int → Option (List UInt8) := upd (fun _ => none) 0 (some (a ++ [UInt8.ofNat j]))
def UA (k : Nm) (a : List UInt8) : Nat → Int → Option Up
  | 0 => fun _ => none
  | j + 1 => upd (upd (UA k a j) ((j : Int) + 1) (some ⟨k, fun _ => none⟩)) ((j : Int) + 1) (some ⟨k, pA a j⟩)
theorem UA_at (k : Nm) (a : List UInt8) : ∀ (n i : Nat), i < n → UA k a n ((i : Int) + 1) = some ⟨k, pA a i⟩
  | 0, i, h => by omega
  | n + 1, i, h => by
    unfold UA
    by_cases e : i = n
    · subst e; simp [upd]
    · have e2 : ¬ (i : Int) + 1 = (n : Int) + 1 := by omega
      simp only [upd, if_neg e2]
      exact UA_at k a n i (by omega)
theorem UA_none (k : Nm) (a : List UInt8) : ∀ (n : Nat) (x : Int), ¬ (1 ≤ x ∧ x ≤ n) → UA k a n x = none
  | 0, x, _ => rfl
  | n + 1, x, h => by
    unfold UA
    have e2 : ¬ x = (n : Int) + 1 := by omega
    simp only [upd, if_neg e2]
    exact UA_none k a n x (by omega)
def idsL : Nat → List Int
  | 0 => []
  | j + 1 => idsL j ++ [(j : Int) + 1]
theorem idsL_len : ∀ n, (idsL n).length = n
  | 0 => rfl
  | n + 1 => by simp [idsL, idsL_len n]
theorem idsL_get : ∀ n i, i < n → (idsL n).getD i 0 = (i : Int) + 1
  | 0, i, h => by omega
  | n + 1, i, h => by
    unfold idsL
    by_cases e : i = n
    · subst e; simp [List.getD, idsL_len]
    · have := idsL_get n i (by omega)
      rw [← this]
      simp [List.getD, List.getElem?_append, idsL_len, show i < n by omega]
def leftZ (k j : Nat) : Nat → List Int
  | 0 => []
  | i + 1 => leftZ k j i ++ (if i ≠ k ∧ i ≠ j then [(i : Int) + 1] else [])
theorem leftZ_mem (k j : Nat) : ∀ (n : Nat) (x : Int), x ∈ leftZ k j n ↔ (1 ≤ x ∧ x ≤ n ∧ x ≠ (k : Int) + 1 ∧ x ≠ (j : Int) + 1)
  | 0, x => by simp [leftZ]; omega
  | n + 1, x => by
    unfold leftZ
    rw [List.mem_append, leftZ_mem k j n x]
    split
    · simp only [List.mem_singleton]; omega
    · simp only [List.not_mem_nil, or_false]; omega
theorem leftZ_rise (k j : Nat) : ∀ n : Nat, (leftZ k j n).Pairwise (· < ·)
  | 0 => List.Pairwise.nil
  | n + 1 => by
    unfold leftZ
    rw [List.pairwise_append]
    refine ⟨leftZ_rise k j n, by split <;> simp, fun x hx y hy => ?_⟩
    have := (leftZ_mem k j n x).1 hx
    split at hy
    · simp at hy; omega
    · simp at hy
theorem leftZ_len (k j : Nat) : ∀ n : Nat, (leftZ k j n).length ≤ n
  | 0 => Nat.le_refl _
  | n + 1 => by
    have := leftZ_len k j n
    unfold leftZ
    rw [List.length_append]; split <;> simp <;> omega
theorem rise_eq : ∀ (l m : List Int), l.Pairwise (· < ·) → m.Pairwise (· < ·) → (∀ x, x ∈ l ↔ x ∈ m) → l = m
  | [], [], _, _, _ => rfl
  | [], b :: m, _, _, h => absurd ((h b).2 (by simp)) (by simp)
  | a :: l, [], _, _, h => absurd ((h a).1 (by simp)) (by simp)
  | a :: l, b :: m, hl, hm, h => by
    obtain ⟨l1, l2⟩ := List.pairwise_cons.1 hl
    obtain ⟨m1, m2⟩ := List.pairwise_cons.1 hm
    have e : a = b := by
      rcases List.mem_cons.1 ((h a).1 (by simp)) with h1 | h1
      · exact h1
      · rcases List.mem_cons.1 ((h b).2 (by simp)) with h2 | h2
        · exact h2.symm
        · have := m1 a h1; have := l1 b h2; omega
    subst e
    rw [rise_eq l m l2 m2 fun x => ⟨fun hx => ?_, fun hx => ?_⟩]
    · rcases List.mem_cons.1 ((h x).1 (List.mem_cons_of_mem _ hx)) with h1 | h1
      · have := l1 x hx; omega
      · exact h1
    · rcases List.mem_cons.1 ((h x).2 (List.mem_cons_of_mem _ hx)) with h1 | h1
      · have := m1 x hx; omega
      · exact h1
theorem pA_join1 (a : List UInt8) (j : Nat) : joinN (pA a j) 1 = some (a ++ [UInt8.ofNat j]) := by simp [joinN, pA, upd]
theorem pA_join2 (a b : List UInt8) (j : Nat) : joinN (upd (pA a j) 1 (some b)) 2 = some (a ++ [UInt8.ofNat j] ++ b) := by simp [joinN, pA, upd]
end St
end Go.Proofs.YtipmmmmobopbmaaDoor

namespace Go.Proofs.YtipmmmmobopbmaaDoor
open Go.RowKit Go.Maps
attribute [local go_sem] BtoNat x8 and8_15

section
variable {w : World} {ops : Array Oper} {rest : List Oper} {o : Oper} {a : Act} {Q : Exit → Act → World → Prop}
/-- An operation that its guard asks for. -/
theorem wpList_want {P : Program} (hw : Region.wanted o (yielded ops a.tmps) = true)
    (h : ∀ K : Act → World → Prop, (∀ a w, wpList P ops Q rest a w → K a w) → o.wp P a w K Q) : wpList P ops Q (o :: rest) a w :=
  wpList_step fun K hK => by simp only [hw, if_true]; exact h K hK
/-- append(s, x...), guarded. -/
theorem wpList_appW (hgd : Region.wanted o (yielded ops a.tmps) = true) (s x : Operand) (ho : o.op = .call { callee := .builtin .append, args := #[s, x], argTypes := #[35, 35] })
    (base : Nat) (v : Value) (l m : List UInt8) (hs : a.eval s = v) (hown : Own w base v l) (A : Option Addr) (n c : Nat) (hx : a.eval x = .slice A n c) (hn : m.length = n) (hr : Reads w A m)
    (hlen : l.length + n ≤ 1073741824) (hbase : base ≤ w.heap.size)
    (h : ∀ v' w', Own w' base v' (l ++ m) → w.grownBy w' v.ownBlock → (v'.ownBlock = v.ownBlock ∨ v'.ownBlock = some w.heap.size) → wpList Tryd.prog ops Q rest (a.put o.dst v') w') : wpList Tryd.prog ops Q (o :: rest) a w := by
  subst hn
  obtain ⟨i, hi, hz, hs1, hby⟩ := info_parts byte_info
  refine wpList_want hgd fun K hK => ?_
  have key : ∃ v' w', (Builtin.append_ #[35, 35] o.type #[v, .slice A m.length c]).run Tryd.prog w = .ok v' w' ∧ Own w' base v' (l ++ m) ∧ w.grownBy w' v.ownBlock ∧ (v'.ownBlock = v.ownBlock ∨ v'.ownBlock = some w.heap.size) := by
    cases A with
    | none =>
      have h0 : m = [] := by
        rcases hr with h | ⟨_, _, h, _⟩
        · exact h
        · cases h
      subst h0
      refine ⟨v, w, ?_, by simpa using hown, World.grownBy.refl w _, .inl rfl⟩
      have u := Tryd.underlying35
      rcases hown.2 with ⟨rfl, _⟩ | ⟨g, cap, cur, rfl, _, _, hnc, _⟩
      · simp [Builtin.append_, run_underlying u, sizeOf, typeInfo, hi, Builtin.lenOf, Builtin.firstCells]
      · simp [Builtin.append_, run_underlying u, sizeOf, typeInfo, hi, Builtin.lenOf, Builtin.firstCells, hnc, storeCells]
    | some ad =>
      obtain ⟨v', w', hrun, h2, h3, _, h5⟩ := run_append_own_at (P := Tryd.prog) w base 35 o.type 5 i _ 1 1 Tryd.underlying35 hi hz hs1 hby rfl (by omega) v l.length (cells l) hown ad m.length c (cells m) (by rw [cells_len]; omega) hr.news (cells_one m)
        (by simp only [maxLen]; omega) (by omega) hbase
      refine ⟨v', w', hrun, ?_, h3, h5⟩
      unfold Own
      rw [List.length_append, show cells (l ++ m) = cells l ++ cells m from by simp [cells]]
      exact h2
  obtain ⟨v', w', hrun, h2, h3, h4⟩ := key
  unfold Oper.wp execOp
  simp only [ho, resolve, invoke, builtin, Sem.run_bind, Sem.run_pure, Result.andThen_ok, List.map_toArray, List.map_cons, List.map_nil, hs, hx, hrun]
  exact hK _ _ (h v' w' h2 h3 h4)
end
theorem StS.grown {w0 w w' : World} {S D : Nat → Prop} {sb n : Nat} {s : St.S} {row : Option Nat} (h : StS w0 S D sb s n w) (hg : w.grownBy w' row) (hr : ∀ g, row = some g → (¬ S g ∧ ¬ D g) ∧ w0.heap.size ≤ g) : StS w0 S D sb s n w' :=
  ⟨h.st.kept hg.size (fun k hk hlt => hg.block k hlt (fun e => by
    have := hr k e.symm
    rcases hk with hk | hk
    · exact this.1.1 hk
    · exact this.1.2 hk)), h.lo, h.below.grown hg h.below.size (fun k e => (hr k e).2), h.calls, h.failed⟩
theorem Zr.cell {S D : Nat → Prop} {B g n c : Nat} {l : List Int} {w : World} (h : Zr S D B (.slice (some ⟨g, 0, none⟩) n c) l w) (hn : l.length = n) (i : Nat) (hi : i < n) : w.cell? ⟨g, i, none⟩ = some (.int .i64 (l.getD i 0)) := by
  obtain ⟨A, c', e, hc⟩ := h.at_ n hn
  obtain ⟨g', e2, -, h2⟩ := hc i hi
  subst e2
  injection e with e _ _
  injection e with e
  injection e with e _ _
  rw [e]; exact h2
theorem Zr.id {S D : Nat → Prop} {B g n c : Nat} {w : World} (h : Zr S D B (.slice (some ⟨g, 0, none⟩) n c) (St.idsL n) w) (i : Nat) (hi : i < n) : w.cell? ⟨g, i, none⟩ = some (.int .i64 ((i : Int) + 1)) := by
  rw [h.cell (St.idsL_len n) i hi, St.idsL_get n i hi]
namespace St
theorem pA_len (a : List UInt8) (j B : Nat) (hB : a.length + 1 ≤ B) (x : Int) (b : List UInt8) (h : pA a j x = some b) : b.length ≤ B := by
  unfold pA upd at h
  split at h
  · obtain rfl := Option.some.inj h
    simpa using hB
  · cases h
theorem upd_len {f : Int → Option (List UInt8)} {B : Nat} (hf : ∀ x b, f x = some b → b.length ≤ B) (k : Int) (c : List UInt8) (hc : c.length ≤ B) (x : Int) (b : List UInt8) (h : upd f k (some c) x = some b) : b.length ≤ B := by
  unfold upd at h
  split at h
  · obtain rfl := Option.some.inj h
    exact hc
  · exact hf x b h
theorem hsum_of {s : S} {id : Int} {u0 : Up} (hu : s.ups id = some u0) (hf : ∀ x b, u0.parts x = some b → b.length ≤ 51) : ∀ u, s.ups id = some u → ∀ k b, k ≤ 256 → joinN u.parts k = some b → b.length ≤ 1000000000 := fun u h k b hk hb => by
  rw [hu] at h
  obtain rfl := Option.some.inj h
  have := joinN_len 51 hf k b hb
  omega
theorem U4_mem (k : Nm) (a : List UInt8) (n kk jj : Nat) (X : Option Up) (x : Int) : (upd (upd (upd (UA k a n) ((kk : Int) + 1) none) ((jj : Int) + 1) X) ((jj : Int) + 1) none) x ≠ none ↔ x ∈ leftZ kk jj n := by
  rw [leftZ_mem]
  by_cases h1 : x = (jj : Int) + 1
  · simp [upd, h1]
  · by_cases h2 : x = (kk : Int) + 1
    · simp [upd, h2]
      omega
    · simp only [upd, if_neg h1, if_neg h2]
      by_cases h3 : 1 ≤ x ∧ x ≤ n
      · obtain ⟨i, rfl⟩ : ∃ i : Nat, x = (i : Int) + 1 := ⟨(x - 1).toNat, by omega⟩
        rw [UA_at k a n i (by omega)]
        simp; omega
      · rw [UA_none k a n x h3]
        simp; omega
end St
theorem byte_cells' (j : Nat) (hj : j < 256) : (cells [UInt8.ofNat j]).toArray = #[.int .u8 (j : Int)] := by
  have h1 : ((UInt8.ofNat j).toNat : Int) = (j : Int) := by rw [UInt8.toNat_ofNat']; omega
  simp only [cells, List.map_cons, List.map_nil, byteV, B, h1]
theorem Zr.put {S D : Nat → Prop} {B : Nat} {v v' : Value} {l : List Int} {w w' : World} (h : Zr S D B v l w) (l' : List Int) (ho : OwnZ w' B v' l') (hS : ∀ k, S k ∨ D k → k < w.heap.size) (hv : v'.ownBlock = v.ownBlock ∨ v'.ownBlock = some w.heap.size) : Zr S D B v' l' w' :=
  ⟨ho, fun g hg => by
    rcases hv with e | e
    · exact h.ns g (e ▸ hg)
    · rw [e] at hg; cases hg
      exact ⟨fun hk => by have := hS _ (.inl hk); omega, fun hk => by have := hS _ (.inr hk); omega⟩⟩

set_option maxRecDepth 100000 in
set_option maxHeartbeats 3000000 in
theorem apart_walk (w : World) (p : Nat → Addr) (hs : Sents w p) (n0 at0 : Int) (hn0 : -9223372036854775808 ≤ n0 ∧ n0 ≤ 9223372036854775807) (ha0 : -9223372036854775808 ≤ at0 ∧ at0 ≤ 9223372036854775807) (A : Option Addr) (ca La : Nat) (a : List UInt8) (ha : Arg w A ca a) (hLa : a.length = La) (C : Option Addr) (cb Lb : Nat) (b : List UInt8) (hb : Arg w C cb b) (hLb : b.length = Lb) :
    Calls Tryd.prog 7 #[.int .i64 n0, .int .i64 at0, .slice A La ca, .slice C Lb cb] w fun e w' => e = .returned (.bool true) ∧ Below w.heap.size w w' := by
  have HS := hide hs
  have HA := hide ha
  have HB := hide hb
  have HLA := hide hLa
  have HLB := hide hLb
  have HF := hide (stFirst_any w p hs)
  have HAT := hide ha0
  have HN7 := hide (fun W => num_at n0 7 7 W (by omega) (by omega) (by omega) hn0.1 hn0.2)
  have hn7 := num_lt n0 7 (by omega)
  have hma := ha.max
  have hla := ha.le
  have hmb := hb.max
  have hlb := hb.le
  rw [hLa] at hla
  rw [hLb] at hlb
  clear hs ha hb hLa hLb hn0 ha0
  obtain ⟨N, hN⟩ : ∃ N, N = num n0 7 + 2 := ⟨_, rfl⟩
  have hwN : IntKind.i64.wrap ((num n0 7 : Int) + 2) = (N : Int) := by rw [IntWalk.i64_in _ (by omega)]; omega
  have hNb : 2 ≤ N ∧ N ≤ 8 := by omega
  generalize num n0 7 = m7 at *
  clear hN hn7
  by_cases hfa : 50 < La
  · go_enter Tryd.func7, Tryd.ntmps7
    go_wp2_with (first
      | (go_at_call 9; refine HF.out.mono ?_; rintro e w1 ⟨rfl, hb⟩; have HB1 := hide hb; clear hb)
      | (go_at_call 13; refine (HN7.out w1).mono ?_; rintro e w1' ⟨rfl, rfl⟩)
      | fail)
    go_ret
    exact ⟨rfl, HB1.out⟩
  · by_cases hfb : 50 < Lb
    · go_enter Tryd.func7, Tryd.ntmps7
      go_wp2_with (first
        | (go_at_call 9; refine HF.out.mono ?_; rintro e w1 ⟨rfl, hb⟩; have HB1 := hide hb; clear hb)
        | (go_at_call 13; refine (HN7.out w1).mono ?_; rintro e w1' ⟨rfl, rfl⟩)
        | fail)
      go_ret
      exact ⟨rfl, HB1.out⟩
    · have HV := hide (show Dk.valid [111] = true by kernel_rfl)
      have kc := fun (w : World) (C : Array Value) (n c : Nat) => Lib.run_convert_bytes_const (P := Tryd.prog) w 35 5 C n c Tryd.underlying35 Tryd.underlying5
      go_enter Tryd.func7, Tryd.ntmps7
      go_wp2_with (first
        | (go_at_call 9; refine HF.out.mono ?_; rintro e w1 ⟨rfl, hb⟩; have HB1 := hide hb; clear hb)
        | (go_at_call 13; refine (HN7.out w1).mono ?_; rintro e w1' ⟨rfl, rfl⟩)
        | (go_at_call 11; refine (stNew_any w w1 HB1.out).mono ?_; rintro e w2 ⟨sb, S, rfl, h, -, -⟩; have H2 := hide h; clear h)
        | fail)
      go_loopw [11, 12] (fun v i wr => ∃ (j : Nat) (S D : Nat → Prop) (s : St.S), j ≤ N ∧ i = .int .i64 j ∧ StS w S D sb s (2 * j) wr ∧ St.AtU [111] j (St.UA [111] a j) none s ∧ Zr S D w.heap.size v (St.idsL j) wr) (fun _ i _ => N - (intOf i).toNat)
      case atStart => exact ⟨0, _, _, _, Nat.zero_le _, rfl, H2.out, ⟨rfl, rfl, rfl, rfl⟩, ⟨World.ownsRow_nil _ _ _ 1, fun g e => by cases e⟩⟩
      case round =>
        obtain ⟨j, S4, D4, s4, hj, rfl, h4, hu4, hz4⟩ := hrel
        have H4 := hide h4
        have HU4 := hide hu4
        have HZ4 := hide hz4
        clear h4 hu4 hz4 H2
        by_cases hlt : j < N
        · have HJC := hide (byte_cells' j (by omega))
          have hw1 : IntKind.i64.wrap ((j : Int) + 1) = (j : Int) + 1 := IntWalk.i64_in _ (by omega)
          by_cases hj0 : j = 0
          · subst hj0
            obtain ⟨Ai, ci, rfl, -⟩ := HZ4.out.at_ 0 rfl
            go_wp2_with (first
              | (go_at_call 12; refine (StS.start H4.out p HS.out (by omega) [111] (by simp)).mono ?_; rintro e w5 ⟨rfl, S5, D5, h, hgo⟩; have H5 := hide h; have HU5 := hide (HU4.out.start HV.out).2; have HZ5 := hide (HZ4.out.go hgo); rw [(HU4.out.start HV.out).1]; clear h hgo H4 HZ4; unfold errR)
              | (go_at_call 34; refine (bytes_any A ca La a w5 HLA.out (by omega) (HA.out.below H5.out.below (Nat.le_refl _)).reads).mono ?_; rintro e w6 ⟨v6, rfl, ho, hb⟩; have HO6 := hide ho; have HB6 := hide hb; clear ho hb)
              | (at_builtin; refine wpList_appW rfl (.tmp 77) (.tmp 80) rfl w5.heap.size v6 a [UInt8.ofNat 0] rfl (HO6.out.alloc _) (some ⟨w6.heap.size, 0, none⟩) 1 1 rfl rfl (Reads.made _ _ _ _ _ _ rfl HJC.out) (by have := HLA.out; omega) (by have := HB6.out.size; simp; omega) ?_; intro v7 w7 hown7 hg7 hv7; obtain ⟨A7, c7, rfl, ha7⟩ := own_n (n := La + 1) hown7 (by simp [HLA.out]); have HA7 := hide ha7; have HO7 := hide hown7.lt; have HB7 := hide ((balloc HB6.out _).grown hg7 (by have := HB6.out.size; simp; omega) (fun g hg => (HO6.out.lt g hg).1)); clear hown7 hg7 hv7 ha7)
              | (go_at_call 14; refine (StS.part (H5.out.grow HB7.out) p HS.out (by omega) (((0 : Nat) : Int) + 1) (by omega) 0 (by omega) A7 (La + 1) c7 (a ++ [UInt8.ofNat 0]) HA7.out (by simp [HLA.out]) (by omega) (fun x o e _ hx => by subst e; have h1 := HO7.out x rfl; have h2 := H5.out.lt _ (.inl hx); omega)).mono ?_; rintro e w8 ⟨rfl, S8, D8, h, hgo⟩; have H8 := hide h; have HU8 := hide (HU5.out.part (((0 : Nat) : Int) + 1) 0 (by omega) (a ++ [UInt8.ofNat 0]) ⟨[111], fun _ => none⟩ (St.upd_same _ _ _)).2; have HZ8 := hide ((HZ5.out.below HB7.out).go hgo); rw [(HU5.out.part (((0 : Nat) : Int) + 1) 0 (by omega) (a ++ [UInt8.ofNat 0]) ⟨[111], fun _ => none⟩ (St.upd_same _ _ _)).1]; clear h hgo H5 HZ5; unfold errR)
              | (at_builtin; refine wpList_appZ rfl (.tmp 85) (.tmp 87) rfl w.heap.size _ (St.idsL 0) (((0 : Nat) : Int) + 1) rfl (HZ8.out.below (balloc (Below.refl _ _) _)).own ⟨w8.heap.size, 0, none⟩ rfl (by rw [Addr.add_lit, World.cell?_alloc_mark]; rfl) (by rw [St.idsL_len]; omega) (by have := H8.out.below.size; simp; omega) ?_; intro v9 w9 hown9 hg9 hv9; have HZ9 := hide (Zr.put (HZ8.out.below (balloc (Below.refl _ _) _)) _ hown9 (StS.lt (H8.out.grow (balloc (Below.refl _ _) _))) hv9); have H9 := hide (StS.grown (H8.out.grow (balloc (Below.refl _ _) _)) hg9 (fun g e => ⟨HZ8.out.ns g e, (HZ8.out.lt g e).1⟩)); clear hown9 hg9 hv9 H8 HZ8)
              | fail)
            go_roundw
            case rel => exact ⟨0 + 1, S8, D8, _, by omega, by go_num, H9.out.mono (by omega), ⟨HU8.out.script, by rw [HU8.out.last]; simp, HU8.out.ups, HU8.out.obj⟩, HZ9.out⟩
            case measure => simp [intOf]; omega
          · obtain ⟨t, rfl⟩ : ∃ t, j = t + 1 := ⟨j - 1, by omega⟩
            obtain ⟨Ai, ci, rfl, hget⟩ := HZ4.out.at_ (t + 1) (St.idsL_len _)
            obtain ⟨g, rfl, hci, hcell⟩ := hget t (by omega)
            rw [St.idsL_get _ _ (by omega)] at hcell
            have HCI := hide hcell
            have hsub : IntKind.i64.wrap (((t + 1 : Nat) : Int) - 1) = (t : Int) := by rw [IntWalk.i64_in _ (by omega)]; omega
            have hcmp : ¬ (((t + 1 : Nat) : Int) + 1 ≤ (t : Int) + 1) := by omega
            clear hget hcell hj0
            go_wp2_with (first
              | (go_at_call 12; refine (StS.start H4.out p HS.out (by omega) [111] (by simp)).mono ?_; rintro e w5 ⟨rfl, S5, D5, h, hgo⟩; have H5 := hide h; have HU5 := hide (HU4.out.start HV.out).2; have HZ5 := hide (HZ4.out.go hgo); have hc5 := hgo.chg.cell HCI.out (HZ4.out.ns g rfl).1; rw [(HU4.out.start HV.out).1]; clear h hgo H4 HZ4; unfold errR)
              | (go_at_call 34; refine (bytes_any A ca La a w5 HLA.out (by omega) (HA.out.below H5.out.below (Nat.le_refl _)).reads).mono ?_; rintro e w6 ⟨v6, rfl, ho, hb⟩; have HO6 := hide ho; have HB6 := hide hb; clear ho hb)
              | (at_builtin; refine wpList_appW (by simp [Region.wanted, yielded]; omega) (.tmp 77) (.tmp 80) rfl w5.heap.size v6 a [UInt8.ofNat (t + 1)] rfl (HO6.out.alloc _) (some ⟨w6.heap.size, 0, none⟩) 1 1 rfl rfl (Reads.made _ _ _ _ _ _ rfl HJC.out) (by have := HLA.out; omega) (by have := HB6.out.size; simp; omega) ?_; intro v7 w7 hown7 hg7 hv7; obtain ⟨A7, c7, rfl, ha7⟩ := own_n (n := La + 1) hown7 (by simp [HLA.out]); have HA7 := hide ha7; have HO7 := hide hown7.lt; have HB7 := hide ((balloc HB6.out _).grown hg7 (by have := HB6.out.size; simp; omega) (fun g hg => (HO6.out.lt g hg).1)); clear hown7 hg7 hv7 ha7)
              | (go_at_call 14; refine (StS.part (H5.out.grow HB7.out) p HS.out (by omega) ((((t + 1) : Nat) : Int) + 1) (by omega) 0 (by omega) A7 (La + 1) c7 (a ++ [UInt8.ofNat (t + 1)]) HA7.out (by simp [HLA.out]) (by omega) (fun x o e _ hx => by subst e; have h1 := HO7.out x rfl; have h2 := H5.out.lt _ (.inl hx); omega)).mono ?_; rintro e w8 ⟨rfl, S8, D8, h, hgo⟩; have H8 := hide h; have HU8 := hide (HU5.out.part ((((t + 1) : Nat) : Int) + 1) 0 (by omega) (a ++ [UInt8.ofNat (t + 1)]) ⟨[111], fun _ => none⟩ (St.upd_same _ _ _)).2; have HZ8 := hide ((HZ5.out.below HB7.out).go hgo); rw [(HU5.out.part ((((t + 1) : Nat) : Int) + 1) 0 (by omega) (a ++ [UInt8.ofNat (t + 1)]) ⟨[111], fun _ => none⟩ (St.upd_same _ _ _)).1]; clear h hgo H5 HZ5; unfold errR)
              | (at_builtin; refine wpList_appZ rfl (.tmp 85) (.tmp 87) rfl w.heap.size _ (St.idsL (t + 1)) ((((t + 1) : Nat) : Int) + 1) rfl (HZ8.out.below (balloc (Below.refl _ _) _)).own ⟨w8.heap.size, 0, none⟩ rfl (by rw [Addr.add_lit, World.cell?_alloc_mark]; rfl) (by rw [St.idsL_len]; omega) (by have := H8.out.below.size; simp; omega) ?_; intro v9 w9 hown9 hg9 hv9; have HZ9 := hide (Zr.put (HZ8.out.below (balloc (Below.refl _ _) _)) _ hown9 (StS.lt (H8.out.grow (balloc (Below.refl _ _) _))) hv9); have H9 := hide (StS.grown (H8.out.grow (balloc (Below.refl _ _) _)) hg9 (fun g e => ⟨HZ8.out.ns g e, (HZ8.out.lt g e).1⟩)); clear hown9 hg9 hv9 H8 HZ8)
              | fail)
            go_roundw
            case rel => exact ⟨(t + 1) + 1, S8, D8, _, by omega, by go_num, H9.out.mono (by omega), ⟨HU8.out.script, by rw [HU8.out.last]; simp, HU8.out.ups, HU8.out.obj⟩, HZ9.out⟩
            case measure => simp [intOf]; omega
        · obtain rfl : N = j := by omega
          obtain ⟨Ai, ci, rfl, hget⟩ := HZ4.out.at_ N (St.idsL_len _)
          obtain ⟨g, rfl, hci, -⟩ := hget 0 (by omega)
          have hkk := num_lt at0 N (by omega)
          have HNK := hide (num_at at0 N N wr rfl (by omega) (by omega) HAT.out.1 HAT.out.2)
          generalize num at0 N = kk at *
          obtain ⟨jj, hjj⟩ : ∃ jj, jj = if kk + 1 < N then kk + 1 else 0 := ⟨_, rfl⟩
          have hjn : jj < N := by rw [hjj]; split <;> omega
          have hjk : jj ≠ kk := by rw [hjj]; split <;> omega
          have hwk : IntKind.i64.wrap ((kk : Int) + 1) = (kk : Int) + 1 := IntWalk.i64_in _ (by omega)
          have hrem : ((kk : Int) + 1).tmod (N : Int) = (jj : Int) := by
            rw [hjj]
            split
            · rw [Int.tmod_eq_of_lt (by omega) (by omega)]; simp
            · have e : (kk : Int) + 1 = (N : Int) := by omega
              rw [e, Int.tmod_self]; rfl
          have HCK := hide (byte_cells' kk (by omega))
          have HCJ := hide (byte_cells' jj (by omega))
          have HUK := hide (St.UA_at [111] a N kk hkk)
          have HUJ : Hid (St.upd (St.UA [111] a N) ((kk : Int) + 1) none ((jj : Int) + 1) = some ⟨[111], St.pA a jj⟩) := hide (by rw [St.upd_other _ _ _ _ (by omega)]; exact St.UA_at _ _ _ _ hjn)
          have hck := HZ4.out.id kk hkk
          have HLEN : Hid (∀ z : UInt8, (a ++ [z] ++ b).length = La + 1 + Lb) := hide (fun z => by rw [List.length_append, List.length_append, HLA.out, HLB.out]; rfl)
          clear hjj hget hlt
          go_wp2_with (first
            | (go_at_call 13; refine HNK.out.mono ?_; rintro e w4 ⟨rfl, rfl⟩)
            | (go_at_call 15; refine (StS.comp H10.out p HS.out (by omega) ((jj : Int) + 1) (by omega) ((2 : Nat) : Int) (St.hsum_of (by rw [HU10.out.ups]; exact St.upd_same _ _ _) (St.upd_len (St.pA_len a jj 51 (by have := HLA.out; omega)) 1 b (by have := HLB.out; omega)))).mono ?_; rintro e w11 ⟨rfl, S11, D11, h, hgo⟩; have H11 := hide h; have HC2 := hide (HU10.out.comp ((jj : Int) + 1) 2 (by omega) (a ++ [UInt8.ofNat jj] ++ b) ⟨[111], St.upd (St.pA a jj) 1 (some b)⟩ (St.upd_same _ _ _) rfl (St.pA_join2 a b jj)); have HU11 := hide HC2.out.2; have HZ11 := hide (HZ10.out.go hgo); rw [HC2.out.1]; clear h hgo H10 HZ10; unfold errR)
            | (go_at_call 15; refine (StS.comp H4.out p HS.out (by omega) ((kk : Int) + 1) (by omega) ((1 : Nat) : Int) (St.hsum_of (by rw [HU4.out.ups]; exact HUK.out) (St.pA_len a kk 51 (by have := HLA.out; omega)))).mono ?_; rintro e w5 ⟨rfl, S5, D5, h, hgo⟩; have H5 := hide h; have HC1 := hide (HU4.out.comp ((kk : Int) + 1) 1 (by omega) (a ++ [UInt8.ofNat kk]) ⟨[111], St.pA a kk⟩ HUK.out rfl (St.pA_join1 a kk)); have HU5 := hide HC1.out.2; have HZ5 := hide (HZ4.out.go hgo); rw [HC1.out.1]; clear h hgo H4 HZ4; unfold errR)
            | (go_at_call 16; refine (StS.bytes H11.out [111] (by simp)).mono ?_; rintro e w12 ⟨v, rfl, ho, hb⟩; have H12 := hide (H11.out.grow hb); have HZ12 := hide (HZ11.out.below hb); rw [HU11.out.obj] at ho ⊢; simp only [Option.getD_some, Option.isSome_some] at ho ⊢; obtain ⟨A12, c12, rfl, ha12⟩ := own_n (n := La + 1 + Lb) ho (HLEN.out _); have HA12 := hide ha12; clear ho hb ha12 H11 HZ11)
            | (go_at_call 16; refine (StS.bytes H5.out [111] (by simp)).mono ?_; rintro e w6 ⟨v, rfl, ho, hb⟩; have H6 := hide (H5.out.grow hb); have HZ6 := hide (HZ5.out.below hb); rw [HU5.out.obj] at ho ⊢; simp only [Option.getD_some, Option.isSome_some] at ho ⊢; obtain ⟨A6, c6, rfl, ha6⟩ := own_n (n := La + 1) ho (by simp [HLA.out]); have HA6 := hide ha6; clear ho hb ha6 H5 HZ5)
            | (go_at_call 34; refine (bytes_any A ca La a w12 HLA.out (by omega) (HA.out.below H12.out.below (Nat.le_refl _)).reads).mono ?_; rintro e w13 ⟨v13, rfl, ho, hb⟩; have HO13 := hide ho; have HB13 := hide hb; clear ho hb)
            | (go_at_call 34; refine (bytes_any A ca La a w6 HLA.out (by omega) (HA.out.below H6.out.below (Nat.le_refl _)).reads).mono ?_; rintro e w7 ⟨v7, rfl, ho, hb⟩; have HO7 := hide ho; have HB7 := hide hb; clear ho hb)
            | (at_builtin; refine wpList_appW (by first | rfl | simp [Region.wanted, yielded]) (.tmp 113) (.tmp 116) rfl w6.heap.size v7 a [UInt8.ofNat kk] rfl (HO7.out.alloc _) (some ⟨w7.heap.size, 0, none⟩) 1 1 rfl rfl (Reads.made _ _ _ _ _ _ rfl HCK.out) (by have := HLA.out; omega) (by have := HB7.out.size; simp; omega) ?_; intro v8 w8 hown8 hg8 hv8; obtain ⟨A8, c8, rfl, ha8⟩ := own_n (n := La + 1) hown8 (by simp [HLA.out]); have HA8 := hide ha8; have HB8 := hide ((balloc HB7.out _).grown hg8 (by have := HB7.out.size; simp; omega) (fun g hg => (HO7.out.lt g hg).1)); clear hown8 hg8 hv8 ha8)
            | (go_at_call 21; refine (sameBytes_any A6 A8 c6 c8 (La + 1) (La + 1) (a ++ [UInt8.ofNat kk]) (a ++ [UInt8.ofNat kk]) w8 (by simp [HLA.out]) (by simp [HLA.out]) (by omega) (by omega) (HA6.out.below HB8.out (Nat.le_refl _)).reads HA8.out.reads).mono ?_; rintro e w9 ⟨rfl, hq⟩; have HB9 := hide (HB8.out.trans ((below_drew_q hq).mono HB8.out.size)); have H9 := hide (H6.out.grow HB9.out); have HZ9 := hide (HZ6.out.below HB9.out); have hc9 := HZ9.out.id jj hjn; rw [decide_eq_true (rfl : a ++ [UInt8.ofNat kk] = a ++ [UInt8.ofNat kk])]; clear hq H6 HZ6)
            | (go_at_call 14; refine (StS.part H9.out p HS.out (by omega) ((jj : Int) + 1) (by omega) 1 (by omega) C Lb cb b (HB.out.below H9.out.below (Nat.le_refl _)) HLB.out (by omega) (fun x o e hne hx => by have h1 := H9.out.lo _ (.inl hx); have h2 := HB.out.lt x o e hne; omega)).mono ?_; rintro e w10 ⟨rfl, S10, D10, h, hgo⟩; have H10 := hide h; have HP1 := hide (HU5.out.part ((jj : Int) + 1) 1 (by omega) b ⟨[111], St.pA a jj⟩ HUJ.out); have HU10 := hide HP1.out.2; have HZ10 := hide (HZ9.out.go hgo); have hc10 := HZ10.out.id jj hjn; rw [HP1.out.1]; clear h hgo H9 HZ9; unfold errR)
            | (at_builtin; refine wpList_app rfl (.tmp 146) (.tmp 149) rfl w12.heap.size v13 a [UInt8.ofNat jj] rfl (HO13.out.alloc _) (some ⟨w13.heap.size, 0, none⟩) 1 1 rfl rfl (Reads.made _ _ _ _ _ _ rfl HCJ.out) (by have := HLA.out; omega) (by have := HB13.out.size; simp; omega) ?_; intro v14 w14 hown14 hg14 hv14; have HO14 := hide hown14; have HB14 := hide ((balloc HB13.out _).grown hg14 (by have := HB13.out.size; simp; omega) (fun g hg => (HO13.out.lt g hg).1)); clear hown14 hg14 hv14)
            | (at_builtin; refine wpList_app rfl (.tmp 150) (.tmp 151) rfl w12.heap.size v14 (a ++ [UInt8.ofNat jj]) b rfl HO14.out C Lb cb rfl HLB.out (HB.out.below (H12.out.grow HB14.out).below (Nat.le_refl _)).reads (by simp [HLA.out]; omega) HB14.out.size ?_; intro v15 w15 hown15 hg15 hv15; have HB15 := hide (HB14.out.grown hg15 HB14.out.size (fun g hg => (HO14.out.lt g hg).1)); obtain ⟨A15, c15, rfl, ha15⟩ := own_n (n := La + 1 + Lb) hown15 (HLEN.out _); have HA15 := hide ha15; have H15 := hide (H12.out.grow HB15.out); have HZ15 := hide (HZ12.out.below HB15.out); have HD15 := hide (HA12.out.below HB15.out (Nat.le_refl _)); clear hown15 hg15 hv15 ha15 H12 HZ12)
            | fail)
          go_loopw [22, 23] (fun v i wx => ∃ t : Nat, t ≤ N ∧ i = .int .i64 t ∧ OwnZ wx w15.heap.size v (St.leftZ kk jj t) ∧ Below w15.heap.size w15 wx) (fun _ i _ => N - (intOf i).toNat)
          case atStart => exact ⟨0, Nat.zero_le _, rfl, World.ownsRow_nil _ _ _ 1, Below.refl _ _⟩
          case round =>
            obtain ⟨t, ht, rfl, ho, hbx⟩ := hrel
            have HO := hide ho
            have HBX := hide hbx
            have HLL := hide (St.leftZ_len kk jj t)
            clear ho hbx
            by_cases hlt : t < N
            · have hct := (HZ15.out.below HBX.out).id t hlt
              have HLF : Hid (St.leftZ kk jj (t + 1) = St.leftZ kk jj t ++ (if t ≠ kk ∧ t ≠ jj then [(t : Int) + 1] else [])) := hide rfl
              by_cases ht1 : t = kk
              · have HE : Hid (St.leftZ kk jj (t + 1) = St.leftZ kk jj t) := hide (by rw [HLF.out, if_neg (fun h => h.1 ht1), List.append_nil])
                have hb1 : ((t : Int) != (kk : Int)) = false := by rw [bne_eq_false_iff_eq]; omega
                clear ht1
                go_wp2_with fail
                go_roundw
                case rel => exact ⟨t + 1, by omega, by go_num, by rw [HE.out]; exact HO.out, HBX.out⟩
                case measure => simp [intOf]; omega
              · have hb1 : ((t : Int) != (kk : Int)) = true := by rw [bne_iff_ne]; omega
                by_cases ht2 : t = jj
                · have HE : Hid (St.leftZ kk jj (t + 1) = St.leftZ kk jj t) := hide (by rw [HLF.out, if_neg (fun h => h.2 ht2), List.append_nil])
                  have hb2 : ((t : Int) != (jj : Int)) = false := by rw [bne_eq_false_iff_eq]; omega
                  clear ht1 ht2
                  go_wp2_with fail
                  go_roundw
                  case rel => exact ⟨t + 1, by omega, by go_num, by rw [HE.out]; exact HO.out, HBX.out⟩
                  case measure => simp [intOf]; omega
                · have HE : Hid (St.leftZ kk jj (t + 1) = St.leftZ kk jj t ++ [(t : Int) + 1]) := hide (by rw [HLF.out, if_pos ⟨ht1, ht2⟩])
                  have hb2 : ((t : Int) != (jj : Int)) = true := by rw [bne_iff_ne]; omega
                  clear ht1 ht2
                  go_wp2_with (at_builtin; refine wpList_appZ rfl (.tmp 166) (.tmp 171) rfl w15.heap.size _ (St.leftZ kk jj t) ((t : Int) + 1) rfl (World.ownsRow.alloc HO.out _) ⟨wr.heap.size, 0, none⟩ rfl (by rw [Addr.add_lit, World.cell?_alloc_mark]; rfl) (by have := HLL.out; omega) (by have := HBX.out.size; simp; omega) ?_; intro v5 w5 hown5 hg5 hv5)
                  have HOW := hide hown5
                  have HBN := hide ((balloc HBX.out _).grown hg5 (by have := HBX.out.size; simp; omega) (fun g hg => (World.ownsRow.lt HO.out g hg).1))
                  clear hown5 hg5 hv5
                  go_wp2_with fail
                  go_roundw
                  case rel => exact ⟨t + 1, by omega, by go_num, by rw [HE.out]; exact HOW.out, HBN.out⟩
                  case measure => simp [intOf]; omega
            · obtain rfl : N = t := by omega
              have HFIT : Hid (∀ z ∈ St.leftZ kk jj N, -9223372036854775808 ≤ z ∧ z ≤ 9223372036854775807) := hide (fun z hz => by have := (St.leftZ_mem kk jj N z).1 hz; omega)
              have HLS := hide (fun (l : List Int) (hl : St.ListsI (St.upd (St.upd (St.upd (St.UA [111] a N) ((kk : Int) + 1) none) ((jj : Int) + 1) (some ⟨[111], St.upd (St.pA a jj) 1 (some b)⟩)) ((jj : Int) + 1) none) l) => St.rise_eq l _ hl.1 (St.leftZ_rise kk jj N) fun x => (hl.2 x).trans (St.U4_mem [111] a N kk jj _ x))
              obtain ⟨L, hL⟩ : ∃ L, L = (St.leftZ kk jj N).length := ⟨_, rfl⟩
              have HLE := hide hL.symm
              have HL2 : Hid (L ≤ 8) := hide (by have := HLL.out; omega)
              have H16 := hide (H15.out.grow HBX.out)
              have HX16 := hide (HA15.out.below HBX.out (Nat.le_refl _))
              have HY16 := hide (HD15.out.below HBX.out (Nat.le_refl _))
              generalize St.leftZ kk jj N = l0 at *
              obtain ⟨Al, cl, rfl, hal⟩ := own_z (n := L) HO.out HLE.out HFIT.out
              have HAL := hide hal
              clear hal hL HO HLL H15
              go_wp2_with (first
                | (go_at_call 21; refine (sameBytes_any A12 A15 c12 c15 (La + 1 + Lb) (La + 1 + Lb) (a ++ [UInt8.ofNat jj] ++ b) (a ++ [UInt8.ofNat jj] ++ b) wr (HLEN.out _) (HLEN.out _) (by omega) (by omega) HY16.out.reads HX16.out.reads).mono ?_; rintro e w17 ⟨rfl, hq⟩; have HB17 := hide (below_drew_q hq); have H17 := hide (H16.out.grow HB17.out); have HAL17 := hide (HAL.out.below HB17.out (Nat.le_refl _)); rw [decide_eq_true (rfl : a ++ [UInt8.ofNat jj] ++ b = a ++ [UInt8.ofNat jj] ++ b)]; clear hq H16)
                | (go_at_call 19; refine (StS.openOf H17.out (by omega)).mono ?_; rintro e w18 ⟨v, l, rfl, hl, ho, hb⟩; obtain rfl := HLS.out l (by have h := hl; rw [HU11.out.ups] at h; exact h); obtain ⟨A18, c18, rfl, ha18⟩ := own_z (n := L) ho HLE.out HFIT.out; have HA18 := hide ha18; have H18 := hide (H17.out.grow hb); have HAL18 := hide (HAL17.out.below hb (Nat.le_refl _)); clear hl ho hb ha18 H17)
                | (go_at_call 18; refine (sameInts_any A18 Al c18 cl L L l l w18 HLE.out HLE.out (by have := HL2.out; omega) (by have := HL2.out; omega) HA18.out HAL18.out).mono ?_; rintro e w19 ⟨rfl, hq⟩; have H19 := hide (H18.out.grow (below_drew_q hq)); rw [decide_eq_true (rfl : l = l)]; clear hq H18)
                | fail)
              go_ret
              exact ⟨rfl, H19.out.below⟩
end Go.Proofs.YtipmmmmobopbmaaDoor

namespace Go.Proofs.YtipmmmmobopbmaaDoor.ApartLaw
open Go.Proofs.YtipmmmmobopbmaaDoor
open Go.RowKit Go.ChangeShapes Go.WideShapes Go.ChangeAt

set_option maxRecDepth 100000 in
theorem lifted (os : Os) (started : os.Started) (H : Type) (enc : TypeId × Value → H) :
    ReturnsInHanded {} Tryd.checked os 7 .any (fun w args => (Rows.storeApartSpec.pre enc Tryd.prog Tryd.f7 [] false w args ∧ laidMetH Tryd.prog laidErr w) ∧ sizedMet enc Tryd.prog Tryd.f7 (OpenSpec.ofChange Rows.storeApartSpec) false w args)
      (Rows.storeApartSpec.post enc Tryd.prog Tryd.f7 false true false false) := by
  refine returnsInHanded_of_change_and (C := Tryd.checked) (X := fun w _ => laidMetH Tryd.prog laidErr w) (fun _ _ _ hh h => h.of_heap hh) own started (by kernel_rfl) Tryd.func7
    (ChangeSpec.witness_shaped (enc := enc) (C := Tryd.checked) (os := os) (X := fun w _ => laidMetH Tryd.prog laidErr w) false (World.doorLaid Tryd.prog 400 os) #[.int .i64 0, .int .i64 0, .slice none 0 0, .slice none 0 0] 8 rfl (World.shaped_of_RefB (by kernel_rfl) (by kernel_rfl)) (by kernel_rfl) (by kernel_rfl) (by kernel_rfl) (door_met_err os _)) ?_
  intro W base args ds gs before hval0 hW _ _ hL _
  have hval : ∀ (j : Nat) t v, Tryd.f7.params[j]? = some t → args[j]? = some v → Value.okWide Tryd.prog W .any base t v := hval0
  have hW' := hW
  obtain ⟨p, q, hA0, hV, rfl, hfz, hnd⟩ := hW
  have hA : DataW.TrodAll enc Tryd.prog W 0 (fun _ => true) true Tryd.f7.params.toList args.toList ds p := hA0
  rw [Tryd.params7] at hA hval
  obtain ⟨v0, vs0, d0, ds0, p0, q0, hargs, rfl, rfl, h0, r0⟩ := trodAll_cons hA
  obtain ⟨v1, vs1, d1, ds1, p1, q1, rfl, rfl, rfl, h1, r1⟩ := trodAll_cons r0
  obtain ⟨v2, vs2, d2, ds2, p2, q2, rfl, rfl, rfl, h2, r2⟩ := trodAll_cons r1
  obtain ⟨v3, vs3, d3, ds3, p3, q3, rfl, rfl, rfl, h3, r3⟩ := trodAll_cons r2
  obtain ⟨rfl, rfl, rfl⟩ := trodAll_nil r3
  obtain rfl : args = #[v0, v1, v2, v3] := by cases args; simp_all
  obtain ⟨rfl, rfl⟩ := trodVars_none hV
  obtain ⟨a0, rfl, rfl, rfl, w0⟩ := open_int Tryd.underlying3 (hval 0 3 v0 rfl rfl) h0
  have hb0 := bounds_i64 w0
  obtain ⟨a1, rfl, rfl, rfl, w1⟩ := open_int Tryd.underlying3 (hval 1 3 v1 rfl rfl) h1
  have hb1 := bounds_i64 w1
  obtain ⟨a2, len2, cap2, rfl⟩ := okWide_slice Tryd.underlying35 (hval 2 35 v2 rfl rfl)
  have k2 := h2
  have lt2 : ∀ x ∈ p2, x.block < W.heap.size := by obtain ⟨m, hm⟩ := k2; exact DataW.trod_lt m _ _ _ hm
  obtain ⟨l2, rfl, w2⟩ := arg_of h2
  obtain ⟨a3, len3, cap3, rfl⟩ := okWide_slice Tryd.underlying35 (hval 3 35 v3 rfl rfl)
  have k3 := h3
  have lt3 : ∀ x ∈ p3, x.block < W.heap.size := by obtain ⟨m, hm⟩ := k3; exact DataW.trod_lt m _ _ _ hm
  obtain ⟨l3, rfl, w3⟩ := arg_of h3
  clear hA0 hval0
  obtain ⟨ps, hsent⟩ := sents_of_err hL
  refine (apart_walk W ps hsent a0 a1 hb0 hb1 a2 cap2 _ l2 w2 rfl a3 cap3 _ l3 w3 rfl).mono fun e W' ⟨he, bel⟩ => ?_
  subst he
  exact ⟨_, rfl, _, _, _, [], _, [], hW', trodAll_mk1 (shut_bool Tryd.underlying4 _), (trodAll_cons_mk (shut_int Tryd.underlying3 w0) (trodAll_cons_mk (shut_int Tryd.underlying3 w1) (trodAll_cons_mk (Below.trod laidOut (by kernel_rfl) (of_decide_eq_true (by kernel_rfl)) k2 bel lt2) (trodAll_cons_mk (Below.trod laidOut (by kernel_rfl) (of_decide_eq_true (by kernel_rfl)) k3 bel lt3) trodAll_mk0)))), rfl, bel.frame _, fun h => by cases h⟩

theorem row : Rows.StoreApartSaid :=
  OpenClaim.holds_of_wide 7 Tryd.f7 rfl rfl rfl rfl rfl rfl rfl ⟨rfl, rfl, rfl, rfl, rfl⟩ rfl rfl rfl rfl rfl (by kernel_rfl) Tryd.func7 (by kernel_rfl)
    (of_decide_eq_true (by kernel_rfl)) (by unfold Func.isWrapper; first | (rw [if_pos (by decide +kernel)]; kernel_rfl) | (rw [if_neg (by decide +kernel)]; exact ⟨rfl, rfl⟩))
    (fun os started H enc _ => lifted os started H enc)

theorem proved : Rows.StoreApartCardSaid :=
  Claim7.holds_tied_plain_at .later [] _ true _ true
    row (fun _ h => by cases h) (by kernel_rfl) (fun _ h => by cases h) storeApart_row_tie rfl ⟨rfl, rfl⟩ (by kernel_rfl) rfl
    (fun f fn hf hfn => by
      obtain rfl : f = 7 := Option.some.inj ((show Tryd.prog.funcNamed "cordwood/cordwoodlaw11.StoreApart" = some 7 by kernel_rfl).symm.trans hf) |>.symm
      obtain rfl : fn = Tryd.f7 := (Option.some.inj (Tryd.func7.symm.trans hfn)).symm
      exact ⟨by kernel_rfl, fun j t ht => by
        rw [Tryd.params7] at ht
        have hm : t ∈ [3, 3, 35, 35] := by simpa using Array.mem_of_getElem? ht
        have hall : ([3, 3, 35, 35].all fun u => !Tryd.prog.wantsStandIn u) = true := by kernel_rfl
        exact (show Tryd.prog.wantsStandIn t = false by simpa using List.all_eq_true.1 hall t hm)⟩)
    (by kernel_rfl)
end Go.Proofs.YtipmmmmobopbmaaDoor.ApartLaw
