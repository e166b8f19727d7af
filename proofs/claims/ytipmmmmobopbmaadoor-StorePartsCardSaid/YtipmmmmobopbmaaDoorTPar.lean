/-
  A store's names and uploads: Names, Open.
  What StoreParts asks beside the store: its bounds, its rows of numbers, and the parts that it laid, plainly.
  StoreParts, walked.
  StoreParts, proved.
-/
import Derived.Test.YtipmmmmobopbmaaDoorT8
import Derived.Test.YtipmmmmobopbmaaDoorT4
import Derived.Test.YtipmmmmobopbmaaDoorT9
import Derived.Test.YtipmmmmobopbmaaDoorT1
import Derived.LoopTactic
import Derived.Deep.LoopGhost
import Derived.Test.YtipmmmmobopbmaaDoorT2
namespace Go.Proofs.YtipmmmmobopbmaaDoor
open Go.RowKit Go.Maps Go.Sort

/-- These are the numbers, or the names, at which there is anything, rising. -/
def St.ListsI {α : Type} (f : Int → Option α) (l : List Int) : Prop := l.Pairwise (· < ·) ∧ ∀ x, x ∈ l ↔ f x ≠ none
def St.ListsS {α : Type} (f : List UInt8 → Option α) (l : List (List UInt8)) : Prop := l.Pairwise (· < ·) ∧ ∀ x, x ∈ l ↔ f x ≠ none
def OwnZ (w : World) (base : Nat) (v : Value) (l : List Int) : Prop := w.ownsRow base 3 1 v l.length (l.map (.int .i64 ·))

theorem keysI_lists {w : World} {b nn : Nat} {D0 : DataW Value} {f : Int → Option Value} (hown : w.ownsMap Tryd.prog 3 heldE b nn D0) (hat0 : ∀ k zd, D0.atKey (.int .i64 k) zd = heldV (f k) zd) {ss : List Int} (h : ss.Perm (intKeys D0)) :
    St.ListsI f (ss.mergeSort fun x y => decide (x ≤ y)) := by
  obtain ⟨es, hD, hpw, _⟩ := hown.entries intK
  obtain ⟨es', hD', hko⟩ := hown.keysOf
  obtain rfl : es = es' := by rw [hD] at hD'; simpa using hD'
  subst hD
  have hk : ∀ p ∈ es, ∃ x, p.1 = .int .i64 x := fun p hp => by
    obtain ⟨v, hv⟩ := hko p hp
    obtain ⟨x, _, hx, _⟩ := Maps.keyOf_int_inv Tryd.underlying3 hv
    exact ⟨x, hx⟩
  have hnd : (intKeys (.map es)).Nodup := by
    show (es.map fun p => Go.intOf p.1).Nodup
    refine List.pairwise_map.2 (hpw.imp_of_mem fun {p q} hp hq hne e => hne ?_)
    obtain ⟨x, hx⟩ := hk p hp
    obtain ⟨y, hy⟩ := hk q hq
    rw [hx, hy] at e ⊢
    exact congrArg _ e
  have hmem : ∀ x, x ∈ intKeys (.map es) ↔ f x ≠ none := fun x => by
    have h1 := hasV (mk := fun k : Int => Lit.int .i64 k) hat0 x
    have h2 : f x ≠ none ↔ Maps.has (.map es) (Lit.int .i64 x) = true := by rw [h1]; cases f x <;> simp
    rw [h2, has_eq, List.any_eq_true]
    show x ∈ es.map (fun p => Go.intOf p.1) ↔ _
    rw [List.mem_map]
    constructor
    · rintro ⟨p, hp, rfl⟩
      obtain ⟨y, hy⟩ := hk p hp
      exact ⟨p, hp, by rw [hy]; simp [Lit.sameKey, Go.intOf]⟩
    · rintro ⟨p, hp, hs⟩
      obtain ⟨y, hy⟩ := hk p hp
      rw [hy] at hs
      exact ⟨p, hp, by rw [hy]; simpa [Lit.sameKey, Go.intOf] using hs⟩
  have hp2 : (ss.mergeSort fun x y => decide (x ≤ y)).Perm (intKeys (.map es)) := (List.mergeSort_perm ss _).trans h
  refine ⟨?_, fun x => (hp2.mem_iff).trans (hmem x)⟩
  have hle : (ss.mergeSort fun x y => decide (x ≤ y)).Pairwise (fun a b => decide (a ≤ b) = true) :=
    List.pairwise_mergeSort (fun a b c h1 h2 => by simp only [decide_eq_true_eq] at *; omega) (fun a b => by simp only [Bool.or_eq_true, decide_eq_true_eq]; omega) ss
  have hne : (ss.mergeSort fun x y => decide (x ≤ y)).Nodup := hp2.nodup_iff.2 hnd
  refine (hle.and hne).imp fun {a b} hab => ?_
  have h1 : a ≤ b := of_decide_eq_true hab.1
  have h2 := hab.2
  omega
theorem keysS_lists {w : World} {b nn : Nat} {D0 : DataW Value} {f : List UInt8 → Option Value} (hown : w.ownsMap Tryd.prog 9 heldE b nn D0) (hat0 : ∀ k zd, D0.atKey (.string k) zd = heldV (f k) zd) {ss : List (List UInt8)} (h : ss.Perm (strKeys D0)) :
    St.ListsS f (ss.mergeSort fun x y => decide (x ≤ y)) := by
  obtain ⟨es, hD, hpw, _⟩ := hown.entries strK
  obtain ⟨es', hD', hko⟩ := hown.keysOf
  obtain rfl : es = es' := by rw [hD] at hD'; simpa using hD'
  subst hD
  have hk : ∀ p ∈ es, ∃ x, p.1 = .string x := fun p hp => by
    obtain ⟨v, hv⟩ := hko p hp
    obtain ⟨x, _, hx, _⟩ := Maps.keyOf_str Tryd.underlying9 hv
    exact ⟨x, hx⟩
  have hnd : (strKeys (.map es)).Nodup := by
    show (es.map fun p => strOf p.1).Nodup
    refine List.pairwise_map.2 (hpw.imp_of_mem fun {p q} hp hq hne e => hne ?_)
    obtain ⟨x, hx⟩ := hk p hp
    obtain ⟨y, hy⟩ := hk q hq
    rw [hx, hy] at e ⊢
    exact congrArg _ e
  have hmem : ∀ x, x ∈ strKeys (.map es) ↔ f x ≠ none := fun x => by
    have h1 := hasV (mk := fun k : List UInt8 => Lit.string k) hat0 x
    have h2 : f x ≠ none ↔ Maps.has (.map es) (Lit.string x) = true := by rw [h1]; cases f x <;> simp
    rw [h2, has_eq, List.any_eq_true]
    show x ∈ es.map (fun p => strOf p.1) ↔ _
    rw [List.mem_map]
    constructor
    · rintro ⟨p, hp, rfl⟩
      obtain ⟨y, hy⟩ := hk p hp
      exact ⟨p, hp, by rw [hy]; simp [Lit.sameKey, strOf]⟩
    · rintro ⟨p, hp, hs⟩
      obtain ⟨y, hy⟩ := hk p hp
      rw [hy] at hs
      exact ⟨p, hp, by rw [hy]; simpa [Lit.sameKey, strOf] using hs⟩
  have hp2 : (ss.mergeSort fun x y => decide (x ≤ y)).Perm (strKeys (.map es)) := (List.mergeSort_perm ss _).trans h
  refine ⟨?_, fun x => (hp2.mem_iff).trans (hmem x)⟩
  have hle : (ss.mergeSort fun x y => decide (x ≤ y)).Pairwise (fun a b => decide (a ≤ b) = true) :=
    List.pairwise_mergeSort (fun a b c h1 h2 => by simp only [decide_eq_true_eq] at *; exact List.le_trans h1 h2) (fun a b => by simp only [Bool.or_eq_true, decide_eq_true_eq]; exact List.le_total a b) ss
  have hne : (ss.mergeSort fun x y => decide (x ≤ y)).Nodup := hp2.nodup_iff.2 hnd
  refine (hle.and hne).imp fun {a b} hab => ?_
  have h1 : a ≤ b := of_decide_eq_true hab.1
  rcases Nm.tx_tri a b with e | e | e
  · exact e
  · exact absurd e hab.2
  · exact absurd e (List.not_lt.2 h1)

set_option maxRecDepth 100000 in
theorem StS.names {w0 w : World} {S D : Nat → Prop} {sb n : Nat} {s : St.S} (h : StS w0 S D sb s n w) (hn : n ≤ 1000000) :
    Calls Tryd.prog 29 #[.pointer (some ⟨sb, 0, none⟩)] w fun e w' => ∃ v l, e = .returned v ∧ St.ListsS s.objs l ∧ OwnT w' w.heap.size v l ∧ Below w.heap.size w w' := by
  obtain ⟨ob, ub, sv, ov, pb, pv, hL⟩ := h.st
  obtain ⟨D0, hown, hat0⟩ := hL.objs.ex
  have hsz := hown.size_le
  have c : w.cell? ⟨sb, 0, none⟩ = some (.map (some ob)) := box_cell hL.box 0
  have hS := callsIn_wide.1 (lay_slices_Sorted_keysO ob n D0 heldE w hown (by simp only [maxLen]; omega) (by omega))
  have hK := fun (mb : Option Nat) (W : World) => callsIn_wide.1 (lay_maps_KeysO mb W)
  have hov : ∀ x, ov x ≠ none ↔ s.objs x ≠ none := fun x => by
    have := hL.oat x
    cases h1 : ov x <;> cases h2 : s.objs x <;> simp_all [Both]
  have HL := hide (fun (ss : List (List UInt8)) (hp : ss.Perm (strKeys D0)) => (show St.ListsS s.objs (ss.mergeSort fun x y => decide (x ≤ y)) from ⟨(keysS_lists hown hat0 hp).1, fun x => ((keysS_lists hown hat0 hp).2 x).trans (hov x)⟩))
  have HS := hide hS
  have HK := hide hK
  clear h hL hS hK hown hat0 hsz hov
  go_enter Tryd.func29, Tryd.ntmps29
  go_wp2_with (first
    | (go_at_call 55; refine (HK.out _ _).mono ?_; rintro e w1 ⟨rfl, rfl⟩)
    | (go_at_call 54; refine HS.out.mono ?_; rintro e w2 ⟨v, ss, rfl, hp, hrow, -, hb2⟩; have HRO := hide hrow; have HB := hide hb2; have HP := hide hp; clear hrow hb2 hp)
    | fail)
  go_ret
  have hlen : (ss.mergeSort fun x y => decide (x ≤ y)).length = ss.length := by simp
  refine ⟨_, _, rfl, HL.out ss HP.out, ?_, (balloc (Below.refl _ _) _).trans (HB.out.mono (by simp))⟩
  refine OwnT.mono (base := (w.alloc (.cells #[.map (some ob)] 67)).heap.size) ?_ (by simp)
  unfold OwnT
  rw [hlen]
  exact HRO.out
theorem OwnZ.mono {w : World} {base base' : Nat} {v : Value} {l : List Int} (h : OwnZ w base v l) (hb : base' ≤ base) : OwnZ w base' v l := by
  obtain ⟨h1, h2⟩ := h
  refine ⟨h1, ?_⟩
  rcases h2 with h2 | ⟨g, cap, cur, hv, hg, r⟩
  · exact .inl h2
  · exact .inr ⟨g, cap, cur, hv, by omega, r⟩
set_option maxRecDepth 100000 in
theorem StS.openOf {w0 w : World} {S D : Nat → Prop} {sb n : Nat} {s : St.S} (h : StS w0 S D sb s n w) (hn : n ≤ 1000000) :
    Calls Tryd.prog 19 #[.pointer (some ⟨sb, 0, none⟩)] w fun e w' => ∃ v l, e = .returned v ∧ St.ListsI s.ups l ∧ OwnZ w' w.heap.size v l ∧ Below w.heap.size w w' := by
  obtain ⟨ob, ub, sv, ov, pb, pv, hL⟩ := h.st
  obtain ⟨D0, hown, hat0⟩ := hL.ups.ex
  have hsz := hown.size_le
  have c : w.cell? ⟨sb, 1, none⟩ = some (.map (some ub)) := box_cell hL.box 1
  have hS := callsIn_wide.1 (lay_slices_Sorted_keysI ub n D0 heldE w hown (by simp only [maxLen]; omega) (by omega))
  have hK := fun (mb : Option Nat) (W : World) => callsIn_wide.1 (lay_maps_KeysI mb W)
  have hov : ∀ x, upV pb s x ≠ none ↔ s.ups x ≠ none := fun x => by simp [upV]
  have HL := hide (fun (ss : List Int) (hp : ss.Perm (intKeys D0)) => (show St.ListsI s.ups (ss.mergeSort fun x y => decide (x ≤ y)) from ⟨(keysI_lists hown hat0 hp).1, fun x => ((keysI_lists hown hat0 hp).2 x).trans (hov x)⟩))
  have HS := hide hS
  have HK := hide hK
  clear h hL hS hK hown hat0 hsz hov
  go_enter Tryd.func19, Tryd.ntmps19
  go_wp2_with (first
    | (go_at_call 47; refine (HK.out _ _).mono ?_; rintro e w1 ⟨rfl, rfl⟩)
    | (go_at_call 46; refine HS.out.mono ?_; rintro e w2 ⟨v, ss, rfl, hp, hrow, -, hb2⟩; have HRO := hide hrow; have HB := hide hb2; have HP := hide hp; clear hrow hb2 hp)
    | fail)
  go_ret
  have hlen : (ss.mergeSort fun x y => decide (x ≤ y)).length = ss.length := by simp
  refine ⟨_, _, rfl, HL.out ss HP.out, ?_, (balloc (Below.refl _ _) _).trans (HB.out.mono (by simp))⟩
  refine OwnZ.mono (base := (w.alloc (.cells #[.map (some ub)] 68)).heap.size) ?_ (by simp)
  unfold OwnZ
  rw [hlen]
  exact HRO.out
end Go.Proofs.YtipmmmmobopbmaaDoor

namespace Go.Proofs.YtipmmmmobopbmaaDoor
open Go.RowKit Go.Maps Go.ChangeShapes Go.WideShapes Go.ChangeAt

set_option maxRecDepth 100000 in
set_option maxHeartbeats 400000 in
theorem few50_any (A : Option Addr) (cap : Nat) (ps : List Part) (w : World) (hr : ReadsAll w A ps) (hc : ps.length ≤ 9223372036854775807) (good : Bool) (hg : good = true ↔ (ps.length ≤ 12 ∧ ∀ q ∈ ps, q.l.length ≤ 50)) :
    Calls Tryd.prog 10 #[.slice A ps.length cap, .int .i64 12, .int .i64 50] w fun e w' => e = .returned (.bool good) ∧ w = w' := by
  have HR := hide hr
  have HG := hide hg
  clear hr hg
  by_cases h12 : 12 < ps.length
  · have hgf : good = false := by
      cases good
      · rfl
      · have := (HG.out.1 rfl).1; omega
    subst hgf
    go_enter Tryd.func10, Tryd.ntmps10
    go_wp2_with fail
    go_ret
    exact ⟨rfl, rfl⟩
  · go_enter Tryd.func10, Tryd.ntmps10
    go_wp2_with fail
    go_loop [7] (fun i => ∃ k : Nat, k ≤ ps.length ∧ i = .int .i64 k ∧ ∀ q ∈ ps.take k, q.l.length ≤ 50) (fun i => ps.length - (intOf i).toNat)
    case atStart => exact ⟨0, Nat.zero_le _, rfl, fun q hq => by simp at hq⟩
    case round =>
      obtain ⟨k, hk, rfl, hq⟩ := hrel
      have HQ := hide hq
      clear hq
      by_cases hlt : k < ps.length
      · rcases HR.out with rfl | ⟨b, off, rfl, hb, hcl⟩
        · simp at hlt
        obtain ⟨hcell, hlen, -⟩ := hcl k hlt
        have HTK := hide (List.take_succ_eq_append_getElem (l := ps) hlt)
        have HIN := hide (List.getElem_mem hlt)
        unfold Part.val at hcell
        clear hcl
        generalize ps[k] = q at *
        by_cases h50 : 50 < q.l.length
        · have hgf : good = false := by
            cases good
            · rfl
            · have := (HG.out.1 rfl).2 q HIN.out; omega
          subst hgf
          go_wp2_with fail
          go_ret
          exact ⟨rfl, rfl⟩
        · have H50 := hide h50
          go_wp2_with fail
          go_round
          case rel => exact ⟨k + 1, by omega, by go_num, fun x hx => by
            rw [HTK.out] at hx
            rcases List.mem_append.1 hx with h | h
            · exact HQ.out x h
            · obtain rfl := List.mem_singleton.1 h
              have := H50.out; omega⟩
          case measure => simp [intOf]; omega
      · obtain rfl : k = ps.length := by omega
        have hgt : good = true := by
          refine HG.out.2 ⟨by omega, ?_⟩
          have := HQ.out
          rwa [List.take_length] at this
        subst hgt
        go_wp2_with fail
        go_ret
        exact ⟨rfl, rfl⟩
theorem ReadsAll.at_ {w : World} {A : Option Addr} {ps : List Part} (h : ReadsAll w A ps) (k : Nat) (hk : k < ps.length) : ∃ b off, A = some ⟨b, off, none⟩ ∧ b < w.heap.size ∧ w.cell? ⟨b, off + k, none⟩ = some ps[k].val ∧ Reads w ps[k].a ps[k].l := by
  rcases h with h | ⟨b, off, e, hlt, hc⟩
  · rw [h] at hk; simp at hk
  · exact ⟨b, off, e, hlt, (hc k hk).1, (hc k hk).2.2⟩
theorem textArgs_of {H : Type} {enc : TypeId × Value → H} {W : World} {base : Nat} {held : Bool} {a : Option Addr} {len cap : Nat} {d : DataW H} {p : List MemPlace}
    (h : DataW.Trod enc Tryd.prog W base (fun _ => true) held 22 (.slice a len cap) d p) : ∃ ps : List Part, ps.length = len ∧ len ≤ cap ∧ cap ≤ 9223372036854775807 ∧ ReadsAll W a ps ∧ ∀ k (h : k < ps.length), ps[k].l.length ≤ ps[k].cap ∧ ps[k].cap ≤ 9223372036854775807 ∧ (ps[k].a = none → ps[k].cap = 0) := by
  obtain ⟨fuel, hf⟩ := h
  rcases Go.Deep.open_int_rows Tryd.underlying22 Tryd.underlying35 Tryd.underlying5 cells_bytes cells_u8 hf with ⟨hcs, _⟩ | ⟨x, l, c, A, L, C, Z, hcs, _, hl, hm, _, hrow⟩
  · simp [Value.cells] at hcs
    obtain ⟨rfl, rfl, rfl⟩ := hcs
    exact ⟨[], rfl, Nat.le_refl _, by omega, .inl rfl, fun k h => by simp at h⟩
  · simp [Value.cells] at hcs
    obtain ⟨rfl, rfl, rfl⟩ := hcs
    refine ⟨(List.range len).map fun r => ⟨A r, C r, ((Z r).take (L r)).map fun z => UInt8.ofNat z.toNat⟩, by simp, hl, by simpa [maxLen] using hm, ?_, fun k hk => ?_⟩
    rotate_left
    · have hk' : k < len := by simpa using hk
      obtain ⟨r1, r2, r3, r4, r5, r6, r7⟩ := hrow k (by omega)
      have hlen : (((Z k).take (L k)).map fun z => UInt8.ofNat z.toNat).length = L k := by simp; omega
      simp only [List.getElem_map, List.getElem_range]
      refine ⟨by omega, by simpa [maxLen] using r3, fun e => ?_⟩
      have := r6 e; omega
    by_cases h0 : len = 0
    · subst h0; exact .inl (by simp)
    · obtain ⟨b, off, spot⟩ := x
      have hc := (hrow 0 (by omega)).1
      have hspot : spot = none := by simpa [Addr.add] using World.cell?_spot hc
      subst hspot
      refine .inr ⟨b, off, rfl, ?_, fun k hk => ?_⟩
      · rcases Nat.lt_or_ge b W.heap.size with h | h
        · exact h
        · exfalso
          simp [World.cell?, Addr.add, Array.getElem?_eq_none h] at hc
      · have hk' : k < len := by simpa using hk
        obtain ⟨r1, r2, r3, r4, r5, r6, r7⟩ := hrow k (by omega)
        have hlen : (((Z k).take (L k)).map fun z => UInt8.ofNat z.toNat).length = L k := by simp; omega
        rw [Addr.add_lit] at r1
        simp only [List.getElem_map, List.getElem_range]
        refine ⟨?_, ?_, ?_⟩
        · rw [r1]; unfold Part.val; simp only; rw [hlen]
        · rw [hlen]; have : C k ≤ maxLen := r3; unfold maxLen at this; omega
        · cases hA : A k with
          | none =>
            refine .inl (List.eq_nil_of_length_eq_zero ?_)
            rw [hlen]; have := r6 hA; omega
          | some a' => exact reads_of_ints r2 r4 r5 (r7 a' hA).2
set_option maxHeartbeats 400000 in
theorem sameInts_any (A A' : Option Addr) (cap cap' n n' : Nat) (l m : List Int) (w : World) (hn : l.length = n) (hn' : m.length = n') (hl : n ≤ 1000000) (hl' : n' ≤ 1000000) (hr : IntsArg w A cap l) (hr' : IntsArg w A' cap' m) :
    Calls Tryd.prog 18 #[.slice A n cap, .slice A' n' cap'] w fun e w' => e = .returned (.bool (decide (l = m))) ∧ ∃ k, w' = w.drewN k := by
  by_cases hlen : n = n'
  · subst hlen
    have HR := hide hr
    have HR' := hide hr'
    have HN := hide hn
    have HN' := hide hn'
    clear hr hr' hn hn'
    go_enter Tryd.func18, Tryd.ntmps18
    go_wp2
    go_loopw [5] (fun i wr => ∃ k : Nat, k ≤ n ∧ i = .int .i64 k ∧ l.take k = m.take k ∧ ∃ q, wr = w.drewN q) (fun i _ => n - (intOf i).toNat)
    case atStart => exact ⟨0, Nat.zero_le _, rfl, by simp, 0, rfl⟩
    case round =>
      obtain ⟨k, hk, rfl, htk, q, rfl⟩ := hrel
      have HTK := hide htk
      clear htk
      by_cases hlt : k < n
      · have hkl : k < l.length := by rw [HN.out]; exact hlt
        have hkm : k < m.length := by rw [HN'.out]; exact hlt
        obtain ⟨b, off, rfl, hcell⟩ := HR.out.get k hkl
        obtain ⟨b', off', rfl, hcell'⟩ := HR'.out.get k hkm
        have HL : Hid (l.take (k + 1) = l.take k ++ [l.getD k 0]) := by
          show _ = _; rw [List.take_succ_eq_append_getElem hkl]; simp [List.getD, hkl]
        have HM : Hid (m.take (k + 1) = m.take k ++ [m.getD k 0]) := by
          show _ = _; rw [List.take_succ_eq_append_getElem hkm]; simp [List.getD, hkm]
        clear hkl hkm
        generalize l.getD k 0 = x at *
        generalize m.getD k 0 = y at *
        by_cases hxy : x = y
        · subst hxy
          go_wp2
          go_quiet (fail)
          go_wp2
          go_roundw
          case rel => exact ⟨k + 1, by omega, by go_num, by rw [HL.out, HM.out, HTK.out], _, rfl⟩
          case measure => simp [intOf]; omega
        · have hne : (x == y) = false := beq_eq_false_iff_ne.2 hxy
          have HD : Hid (decide (l = m) = false) := by
            show _ = _
            rw [decide_eq_false_iff_not]
            intro e
            have h2 := HM.out
            rw [← e, HL.out, e] at h2
            have h3 := List.append_cancel_left h2
            simp at h3
            exact hxy h3
          clear hxy
          go_wp2
          go_quiet (fail)
          go_wp2
          go_ret
          exact ⟨by rw [HD.out]; rfl, _, rfl⟩
      · have HE : Hid (decide (l = m) = true) := by
          show _ = _
          rw [decide_eq_true_iff]
          have hkn : k = n := by omega
          have := HTK.out
          rw [hkn] at this
          rwa [show l.take n = l from by rw [← HN.out, List.take_length], show m.take n = m from by rw [← HN'.out, List.take_length]] at this
        go_wp2
        go_ret
        exact ⟨by rw [HE.out]; rfl, _, rfl⟩
  · have hd : decide (l = m) = false := by
      rw [decide_eq_false_iff_not]
      intro e; rw [e] at hn; omega
    rw [hd]
    clear hd hn hn' hr hr'
    go_enter Tryd.func18, Tryd.ntmps18
    go_wp2
    go_ret
    exact ⟨rfl, 0, rfl⟩
theorem OwnZ.ints {w : World} {base : Nat} {v : Value} {l : List Int} (h : OwnZ w base v l) (hz : ∀ z ∈ l, -9223372036854775808 ≤ z ∧ z ≤ 9223372036854775807) : ∃ A c, v = .slice A l.length c ∧ IntsArg w A c l := by
  rcases h.2 with ⟨e, h0⟩ | ⟨g, cap, cur, e, hg, hh, hc, hm, hs, ht⟩
  · exact ⟨none, 0, by rw [e, h0], ⟨by omega, by omega, fun _ => rfl, fun j hj => by omega, hz⟩⟩
  · refine ⟨_, cap, e, ⟨hc, by simpa [maxLen] using hm, fun e => (by cases e), fun j hj => ⟨g, 0, rfl, ?_⟩, hz⟩⟩
    have hc := World.ownsRow.cells (g := g) h (by rw [e]; rfl) j (.int .i64 (l.getD j 0)) (by simp [List.getD, hj])
    rwa [Addr.add_lit, Nat.zero_add] at *
theorem own_z {w : World} {base n : Nat} {v : Value} {l : List Int} (h : OwnZ w base v l) (hn : l.length = n) (hz : ∀ z ∈ l, -9223372036854775808 ≤ z ∧ z ≤ 9223372036854775807) : ∃ A c, v = .slice A n c ∧ IntsArg w A c l := by
  subst hn; exact h.ints hz
theorem St.lists_nil {α : Type} {f : Int → Option α} {l : List Int} (h : St.ListsI f l) (hf : ∀ x, f x = none) : l = [] :=
  List.eq_nil_iff_forall_not_mem.2 fun x hx => (h.2 x).1 hx (hf x)
theorem St.lists_one {α : Type} {f : Int → Option α} {l : List Int} (h : St.ListsI f l) (z : Int) (h1 : f z ≠ none) (hf : ∀ x, x ≠ z → f x = none) : l = [z] := by
  obtain ⟨hp, hm⟩ := h
  match l, hp, hm with
  | [], _, hm => exact absurd ((hm z).2 h1) (by simp)
  | [a], _, hm =>
    have : a = z := by
      by_cases e : a = z
      · exact e
      · exact absurd (hf a e) ((hm a).1 (by simp))
    rw [this]
  | a :: b :: t, hp, hm =>
    have e1 : a = z := Classical.byContradiction fun e => (hm a).1 (by simp) (hf a e)
    have e2 : b = z := Classical.byContradiction fun e => (hm b).1 (by simp) (hf b e)
    have := (List.pairwise_cons.1 hp).1 b (by simp)
    omega
theorem St.ask_free {α : Type} (s : St.S) (h : s.script = []) (z : α) (f : St.S → (α × Option Nat) × St.S) : s.ask z f = f s.took := by
  have ho : s.out = 0 := by simp [St.S.out, h]
  unfold St.S.ask
  rw [ho, if_neg (by omega), if_neg (by omega)]
theorem below_drew_q {w w' : World} (h : ∃ k, w' = w.drewN k) : Below w.heap.size w w' := by
  obtain ⟨q, rfl⟩ := h; exact below_drewN (Below.refl _ _) q
theorem StS.setB {w0 w : World} {S D : Nat → Prop} {sb n : Nat} {s : St.S} (h : StS w0 S D sb s n w) (b i : Nat) (v : Value) (hS : ¬ S b) (hD : ¬ D b) (h0 : w0.heap.size ≤ b) : StS w0 S D sb s n (w.setCell ⟨b, i, none⟩ v) :=
  ⟨h.st.kept (by simp) fun k hk _ => Below.heap_setCell _ _ _ _ (by show k ≠ b; rintro rfl; rcases hk with hk | hk; exact hS hk; exact hD hk), h.lo, h.below.setCell (p := ⟨b, i, none⟩) h0 v, h.calls, h.failed⟩
/-- One upload, open, with these parts of it. -/
structure St.AtP (k : St.Nm) (f : Int → Option (List UInt8)) (s : St.S) : Prop where
  script : s.script = []
  up : s.ups 1 = some ⟨k, f⟩
  ups : ∀ x, x ≠ 1 → s.ups x = none
  obj : s.objs k = none
structure St.AtQ (k : St.Nm) (b : Option (List UInt8)) (s : St.S) : Prop where
  script : s.script = []
  ups : ∀ x, s.ups x = none
  obj : s.objs k = b
theorem St.start_p (k : St.Nm) (hv : Dk.valid k = true) : (St.S.new.start k).1 = (1, none) ∧ St.AtP k (fun _ => none) (St.S.new.start k).2 := by
  unfold St.S.start
  rw [St.ask_free _ rfl]
  unfold St.S.startF
  rw [if_pos hv]
  exact ⟨rfl, rfl, by simp [St.upd, St.S.took, St.S.new], fun x hx => by simp [St.upd, St.S.took, St.S.new, hx], rfl⟩
theorem St.took_plain {s : St.S} (h : s.script = []) : s.took.script = [] ∧ s.took.ups = s.ups ∧ s.took.objs = s.objs := ⟨by simp [St.S.took, h], rfl, rfl⟩
theorem St.AtP.part {k : St.Nm} {f : Int → Option (List UInt8)} {s : St.S} (h : St.AtP k f s) (n : Int) (hn : 0 ≤ n ∧ n < 256) (b : List UInt8) : (s.part 1 n b).1.2 = none ∧ St.AtP k (St.upd f n (some b)) (s.part 1 n b).2 := by
  obtain ⟨h1, h2, h3⟩ := St.took_plain h.script
  unfold St.S.part
  rw [St.ask_free _ h.script]
  unfold St.S.partF
  rw [h2, h.up]
  simp only
  rw [if_neg (by omega)]
  exact ⟨rfl, h1, by simp [St.upd], fun x hx => by simp [St.upd, hx]; exact h.ups x hx, by rw [← h.obj, ← h3]⟩
theorem St.AtP.comp_bad {k : St.Nm} {f : Int → Option (List UInt8)} {s : St.S} (h : St.AtP k f s) (n : Nat) (hn : n ≤ 256) (hj : St.joinN f n = none) : (s.comp 1 n).1.2 = some 4 ∧ St.AtP k f (s.comp 1 n).2 := by
  obtain ⟨h1, h2, h3⟩ := St.took_plain h.script
  unfold St.S.comp
  rw [St.ask_free _ h.script]
  unfold St.S.compF
  rw [h2, h.up]
  simp only
  rw [if_neg (by omega), Int.toNat_natCast, hj]
  exact ⟨rfl, h1, h2 ▸ h.up, h2 ▸ h.ups, h3 ▸ h.obj⟩
theorem St.AtP.comp {k : St.Nm} {f : Int → Option (List UInt8)} {s : St.S} (h : St.AtP k f s) (n : Nat) (hn : n ≤ 256) (b : List UInt8) (hj : St.joinN f n = some b) : (s.comp 1 n).1.2 = none ∧ St.AtQ k (some b) (s.comp 1 n).2 := by
  obtain ⟨h1, h2, h3⟩ := St.took_plain h.script
  unfold St.S.comp
  rw [St.ask_free _ h.script]
  unfold St.S.compF
  rw [h2, h.up]
  simp only
  rw [if_neg (by omega), Int.toNat_natCast, hj]
  refine ⟨rfl, h1, fun x => ?_, by simp [St.upd]⟩
  by_cases e : x = 1
  · simp [St.upd, e]
  · simp [St.upd, e]; exact h.ups x e
theorem St.AtP.abort {k : St.Nm} {f : Int → Option (List UInt8)} {s : St.S} (h : St.AtP k f s) : (s.abort 1).1.2 = none ∧ St.AtQ k none (s.abort 1).2 := by
  obtain ⟨h1, h2, h3⟩ := St.took_plain h.script
  unfold St.S.abort
  rw [St.ask_free _ h.script]
  unfold St.S.abortF
  rw [h2, h.up]
  refine ⟨rfl, h1, fun x => ?_, h3 ▸ h.obj⟩
  by_cases e : x = 1
  · simp [St.upd, e]
  · simp [St.upd, e]; exact h.ups x e
theorem St.AtQ.part {k : St.Nm} {o : Option (List UInt8)} {s : St.S} (h : St.AtQ k o s) (z n : Int) (b : List UInt8) : (s.part z n b).1.2 = some 6 ∧ St.AtQ k o (s.part z n b).2 := by
  obtain ⟨h1, h2, h3⟩ := St.took_plain h.script
  unfold St.S.part
  rw [St.ask_free _ h.script]
  unfold St.S.partF
  rw [h2, h.ups z]
  exact ⟨rfl, h1, h2 ▸ h.ups, h3 ▸ h.obj⟩
theorem St.AtQ.comp {k : St.Nm} {o : Option (List UInt8)} {s : St.S} (h : St.AtQ k o s) (z n : Int) : (s.comp z n).1.2 = some 6 ∧ St.AtQ k o (s.comp z n).2 := by
  obtain ⟨h1, h2, h3⟩ := St.took_plain h.script
  unfold St.S.comp
  rw [St.ask_free _ h.script]
  unfold St.S.compF
  rw [h2, h.ups z]
  exact ⟨rfl, h1, h2 ▸ h.ups, h3 ▸ h.obj⟩
theorem St.joinN_len {f : Int → Option (List UInt8)} (B : Nat) (hf : ∀ x b, f x = some b → b.length ≤ B) : ∀ (n : Nat) (b : List UInt8), St.joinN f n = some b → b.length ≤ B * n
  | 0, b, h => by cases h; simp
  | n + 1, b, h => by
    unfold St.joinN at h
    cases h1 : St.joinN f n with
    | none => simp [h1] at h
    | some a =>
      cases h2 : f n with
      | none => simp [h1, h2] at h
      | some c =>
        simp [h1, h2] at h
        subst h
        have := St.joinN_len B hf n a h1
        have := hf _ _ h2
        rw [List.length_append, Nat.mul_succ]; omega
/-- The parts that so many rounds laid. -/
def partsP (ls : List (List UInt8)) (ks : Nat → Nat) : Nat → Int → Option (List UInt8)
  | 0 => fun _ => none
  | j + 1 => St.upd (partsP ls ks j) (ks j : Nat) (some (ls.getD (ks j) []))
theorem partsP_some (ls : List (List UInt8)) (ks : Nat → Nat) : ∀ (j : Nat) (x : Nat) (b : List UInt8), partsP ls ks j x = some b → b = ls.getD x []
  | 0, x, b, h => by cases h
  | j + 1, x, b, h => by
    unfold partsP St.upd at h
    split at h
    · next e => have : x = ks j := by omega
                subst this; exact (Option.some.inj h).symm
    · exact partsP_some ls ks j x b h
theorem partsP_len (ls : List (List UInt8)) (ks : Nat → Nat) (B : Nat) (hB : ∀ l ∈ ls, l.length ≤ B) : ∀ (j : Nat) (x : Int) (b : List UInt8), partsP ls ks j x = some b → b.length ≤ B
  | 0, x, b, h => by cases h
  | j + 1, x, b, h => by
    unfold partsP St.upd at h
    split at h
    · have := Option.some.inj h
      subst this
      by_cases hk : ks j < ls.length
      · have := hB _ (List.getElem_mem hk); simpa [List.getD, hk] using this
      · simp [List.getD, hk]
    · exact partsP_len ls ks B hB j x b h
theorem upd_upd {κ α : Type} [DecidableEq κ] (f : κ → Option α) (k : κ) (u v : Option α) : St.upd (St.upd f k u) k v = St.upd f k v := by
  funext x; unfold St.upd; split <;> rfl
/-- Whether one of the first is missing. -/
def missP (f : Int → Option (List UInt8)) : Nat → Bool
  | 0 => false
  | i + 1 => missP f i || (f (i : Nat)).isNone
theorem missP_true {f : Int → Option (List UInt8)} : ∀ {n : Nat}, missP f n = true → St.joinN f n = none
  | 0, h => by cases h
  | n + 1, h => by
    unfold missP at h
    unfold St.joinN
    rcases Bool.or_eq_true_iff.1 h with h | h
    · rw [missP_true h]
    · have : f (n : Nat) = none := by simpa using h
      rw [this]; split <;> simp_all
theorem missP_false {f : Int → Option (List UInt8)} {ps : List Part} : ∀ {n : Nat}, n ≤ ps.length → (∀ (x : Nat) b, f x = some b → b = (ps.map Part.l).getD x []) → missP f n = false → St.joinN f n = some (flat (ps.take n))
  | 0, _, _, _ => by simp [St.joinN, flat]
  | n + 1, hn, hf, h => by
    unfold missP at h
    obtain ⟨h1, h2⟩ := Bool.or_eq_false_iff.1 h
    have ih := missP_false (n := n) (by omega) hf h1
    cases h3 : f (n : Nat) with
    | none => simp [h3] at h2
    | some b =>
      have hb := hf n b h3
      unfold St.joinN
      rw [ih, h3]
      simp only
      have e : ps.take (n + 1) = ps.take n ++ [ps[n]] := List.take_succ_eq_append_getElem (by omega)
      have e2 : flat (ps.take n ++ [ps[n]]) = flat (ps.take n) ++ ps[n].l := by unfold flat; rw [List.flatMap_append]; simp
      rw [e, e2, hb]
      simp [List.getD, show n < ps.length by omega]
end Go.Proofs.YtipmmmmobopbmaaDoor

namespace Go.Proofs.YtipmmmmobopbmaaDoor
open Go.RowKit Go.Maps
attribute [local go_sem] BtoNat x8 and8_15

/-- The row of what the statement laid. -/
structure Hv (S D : Nat → Prop) (hb n : Nat) (f : Int → Option (List UInt8)) (w : World) : Prop where
  s : ¬ S hb
  d : ¬ D hb
  top : hb < w.heap.size
  c : ∀ i, i < n → w.cell? ⟨hb, i, none⟩ = some (.bool (f (i : Nat)).isSome)
  fz : ∀ i, w.frozen? ⟨hb, i, none⟩ = false
section
variable {S D S' D' : Nat → Prop} {hb n : Nat} {f : Int → Option (List UInt8)} {w w' : World}
theorem Hv.below (h : Hv S D hb n f w) (hw : Below w.heap.size w w') : Hv S D hb n f w' :=
  ⟨h.s, h.d, Nat.lt_of_lt_of_le h.top hw.size, fun i hi => (hw.cell (p := ⟨hb, i, none⟩) h.top).trans (h.c i hi), fun i => (World.frozen?_of_block (a := ⟨hb, i, none⟩) (hw.block hb h.top)).trans (h.fz i)⟩
theorem Hv.go (h : Hv S D hb n f w) (hg : StGo S D S' D' w w') : Hv S' D' hb n f w' :=
  ⟨fun hk => by rcases hg.s _ hk with h1 | h1; exact h.s h1; have := h.top; omega,
   fun hk => by rcases hg.d _ hk with h1 | h1; exact h.d h1; have := h.top; omega,
   Nat.lt_of_lt_of_le h.top hg.chg.size, fun i hi => hg.chg.cell (h.c i hi) h.s, fun i => (World.frozen?_of_block (a := ⟨hb, i, none⟩) (hg.chg.block hb h.top h.s)).trans (h.fz i)⟩
theorem Hv.put (h : Hv S D hb n f w) (k : Nat) (hk : k < n) (b : List UInt8) : Hv S D hb n (St.upd f (k : Nat) (some b)) (w.setCell ⟨hb, k, none⟩ (.bool true)) := by
  refine ⟨h.s, h.d, by simpa using h.top, fun i hi => ?_, fun i => (World.frozen?_setCell _ _ _ _).trans (h.fz i)⟩
  by_cases e : i = k
  · subst e
    rw [World.cell?_setCell_same _ _ _ (h.c i hi)]
    simp [St.upd]
  · rw [World.cell?_setCell_other _ _ _ _ (by intro e2; injection e2 with _ e2 _; exact e e2.symm), h.c i hi]
    unfold St.upd
    rw [if_neg (by omega)]
end
theorem madeCells_getB (z : Array Value) (n i : Nat) (h : i < n) : (madeCells z n)[i]? = some (z[i % z.size]!) := by
  unfold madeCells
  rw [Array.getElem?_map, Array.getElem?_range]
  simp [h]
theorem bool_infoM : (Tryd.prog.info? 4).map (fun i => (i.zero, i.size, i.bytes)) = some (some (.bool false), 1, 1) := by kernel_rfl
theorem Reads.belowB {C : Nat} {w w' : World} {A : Option Addr} {b : List UInt8} (h : Reads w A b) (hb : Below C w w') (hC : w.heap.size ≤ C) : Reads w' A b := by
  rcases h with h | ⟨x, o, e, hlt, hc⟩
  · exact .inl h
  · exact .inr ⟨x, o, e, Nat.lt_of_lt_of_le hlt hb.size, fun j hj => (hb.cell (p := ⟨x, o + j, none⟩) (by show x < C; omega)).trans (hc j hj)⟩
theorem ReadsAll.belowB {w w' : World} {C : Nat} {A : Option Addr} {ps : List Part} (h : ReadsAll w A ps) (hb : Below C w w') (hC : w.heap.size ≤ C) : ReadsAll w' A ps := by
  rcases h with h | ⟨b, off, e, hlt, hc⟩
  · exact .inl h
  · exact .inr ⟨b, off, e, Nat.lt_of_lt_of_le hlt hb.size, fun k hk => ⟨(hb.cell (p := ⟨b, off + k, none⟩) (by show b < C; omega)).trans (hc k hk).1, (hc k hk).2.1, (hc k hk).2.2.belowB hb hC⟩⟩
theorem make_boolsN (n : Nat) (hn : n ≤ 1000) : ∃ CS : Array Value, (∀ k, k < n → CS[k]? = some (.bool false)) ∧
    ∀ W, (Instr.makeSlice 32 (.int .i64 n) (.int .i64 n)).run Tryd.prog W = .ok (.slice (some ⟨W.heap.size, 0, none⟩) n n) (W.alloc (.cells CS 4)) := by
  obtain ⟨i, hi, hz, hs1, hby⟩ := info_parts bool_infoM
  refine ⟨madeCells #[.bool false] (n * 1), fun k hk => ?_, fun W => ?_⟩
  · rw [madeCells_getB _ _ _ (by omega)]
    have e : k % (#[.bool false] : Array Value).size = 0 := by
      show k % 1 = 0
      omega
    rw [e]
    rfl
  · have h := run_make (P := Tryd.prog) W 32 4 i _ Tryd.underlying32 hi hz .i64 .i64 n n (by omega) (by omega) (by rw [hby]; omega) (by omega)
    rw [h, hs1]
    rfl
theorem Hv.new {S D : Nat → Prop} {n : Nat} {w : World} {CS : Array Value} (t : TypeId) (hS : ∀ k, S k ∨ D k → k < w.heap.size) (hc : ∀ k, k < n → CS[k]? = some (.bool false)) : Hv S D w.heap.size n (fun _ => none) (w.alloc (.cells CS t)) :=
  ⟨fun h => by have := hS _ (.inl h); omega, fun h => by have := hS _ (.inr h); omega, by simp, fun i hi => by rw [World.cell?_alloc_mark, hc i hi]; rfl, fun i => by
    have e : (w.alloc (.cells CS t)).heap[w.heap.size]? = some (.cells CS t) := heap_alloc_new _ _
    exact box_free e i⟩
theorem flat_take_len {ps : List Part} (B : Nat) (h : ∀ q ∈ ps, q.l.length ≤ B) : ∀ t, (flat (ps.take t)).length ≤ B * t
  | 0 => by simp [flat]
  | t + 1 => by
    by_cases ht : t < ps.length
    · have e : ps.take (t + 1) = ps.take t ++ [ps[t]] := List.take_succ_eq_append_getElem ht
      have e2 : flat (ps.take t ++ [ps[t]]) = flat (ps.take t) ++ ps[t].l := by unfold flat; rw [List.flatMap_append]; simp
      have h1 := flat_take_len B h t
      have h2 := h _ (List.getElem_mem ht)
      rw [e, e2, List.length_append, Nat.mul_succ]; omega
    · have e : ps.take (t + 1) = ps.take t := by rw [List.take_of_length_le (by omega), List.take_of_length_le (by omega)]
      have h1 := flat_take_len B h t
      rw [e, Nat.mul_succ]; omega
theorem flat_step {ps : List Part} {t : Nat} (ht : t < ps.length) : flat (ps.take (t + 1)) = flat (ps.take t) ++ ps[t].l := by
  rw [List.take_succ_eq_append_getElem ht]; unfold flat; rw [List.flatMap_append]; simp

set_option maxRecDepth 100000 in
set_option maxHeartbeats 2000000 in
theorem parts_walk (w : World) (p : Nat → Addr) (hs : Sents w p) (A : Option Addr) (cap n : Nat) (ps : List Part) (hn : ps.length = n) (hm : n ≤ 9223372036854775807) (hr : ReadsAll w A ps)
    (hq : ∀ k (h : k < ps.length), ps[k].l.length ≤ ps[k].cap ∧ ps[k].cap ≤ 9223372036854775807 ∧ (ps[k].a = none → ps[k].cap = 0)) (Z : Option Addr) (cz nz : Nat) (zs : List Int) (hz : IntsArg w Z cz zs) (hnz : zs.length = nz) (hmz : nz ≤ 9223372036854775807) :
    Calls Tryd.prog 3 #[.slice A n cap, .slice Z nz cz] w fun e w' => e = .returned (.bool true) ∧ Below w.heap.size w w' := by
  have HS := hide hs
  have HPS := hide hr
  have HQ := hide hq
  have HN := hide hn
  have HZ := hide hz
  have HNZ := hide hnz
  have HF := hide (stFirst_any w p hs)
  have HFEW : Hid (∀ W, Below w.heap.size w W → ∀ good : Bool, (good = true ↔ (n ≤ 12 ∧ ∀ q ∈ ps, q.l.length ≤ 50)) → Calls Tryd.prog 10 #[.slice A n cap, .int .i64 12, .int .i64 50] W fun e w' => e = .returned (.bool good) ∧ W = w') :=
    hide (fun W hb good hg => by subst hn; exact few50_any A cap ps W (hr.belowB hb (Nat.le_refl _)) hm good hg)
  clear hs hr hq hn hz hnz
  by_cases hgood : n ≤ 12 ∧ ∀ q ∈ ps, q.l.length ≤ 50
  · have HG := hide hgood
    obtain ⟨h12, -⟩ := hgood
    have HFG := hide (fun W hb => HFEW.out W hb true ⟨fun _ => HG.out, fun _ => rfl⟩)
    clear HFEW
    by_cases hfar : 30 < nz
    · go_enter Tryd.func3, Tryd.ntmps3
      go_wp2_with (first
        | (go_at_call 9; refine HF.out.mono ?_; rintro e w1 ⟨rfl, hb⟩; have HB1 := hide hb; clear hb)
        | (go_at_call 10; refine (HFG.out w1 HB1.out).mono ?_; rintro e w1' ⟨rfl, rfl⟩)
        | fail)
      go_ret
      exact ⟨rfl, HB1.out⟩
    · by_cases h0 : n = 0
      · subst h0
        go_enter Tryd.func3, Tryd.ntmps3
        go_wp2_with (first
          | (go_at_call 9; refine HF.out.mono ?_; rintro e w1 ⟨rfl, hb⟩; have HB1 := hide hb; clear hb)
          | (go_at_call 10; refine (HFG.out w1 HB1.out).mono ?_; rintro e w1' ⟨rfl, rfl⟩)
          | fail)
        go_ret
        exact ⟨rfl, HB1.out⟩
      · obtain ⟨CS, hcs, hmk⟩ := make_boolsN n (by omega)
        have HCS := hide hcs
        have HST := hide (St.start_p [98, 105, 103] (by kernel_rfl))
        have HL50 : Hid (∀ l ∈ ps.map Part.l, l.length ≤ 50) := hide (fun l hl => by obtain ⟨q, hq, rfl⟩ := List.mem_map.1 hl; exact HG.out.2 q hq)
        have HQA : Hid (∀ k (h : k < ps.length), Arg w ps[k].a ps[k].cap ps[k].l) := hide (fun k h => ⟨(HQ.out k h).1, (HQ.out k h).2.1, (HQ.out k h).2.2, by obtain ⟨_, _, _, _, _, hr⟩ := HPS.out.at_ k h; exact hr⟩)
        have kc := fun (w : World) (C : Array Value) (n c : Nat) => Lib.run_convert_bytes_const (P := Tryd.prog) w 35 5 C n c Tryd.underlying35 Tryd.underlying5
        clear hcs HQ
        have hf0 : ((n : Int) == 0) = false := by rw [beq_eq_false_iff_ne]; omega
        have hf1 : ¬ (30 : Int) < (nz : Int) := by omega
        go_enter Tryd.func3, Tryd.ntmps3
        go_wp2_with (first
          | (go_at_call 9; refine HF.out.mono ?_; rintro e w1 ⟨rfl, hb⟩; have HB1 := hide hb; clear hb)
          | (go_at_call 10; refine (HFG.out w1 HB1.out).mono ?_; rintro e w1' ⟨rfl, rfl⟩)
          | (go_at_call 11; refine (stNew_any w w1 HB1.out).mono ?_; rintro e w2 ⟨sb, S, rfl, h, -, -⟩; have H2 := hide h; clear h)
          | (go_at_call 12; refine (StS.start H2.out p HS.out (by omega) [98, 105, 103] (by simp)).mono ?_; rintro e w3 ⟨rfl, S3, D3, h, -⟩; have H3 := hide h; rw [HST.out.1]; clear h H2; unfold errR)
          | fail)
        have HV3 := hide (Hv.new 4 (StS.lt H3.out) HCS.out)
        have H4 := hide (H3.out.grow (balloc (Below.refl _ _) (.cells CS 4)))
        have HBL : Hid (w.heap.size ≤ w3.heap.size) := hide H3.out.below.size
        clear HCS H3
        generalize w3.heap.size = hb at *
        go_loopw [10] (fun i wr => ∃ (j : Nat) (S D : Nat → Prop) (s : St.S), j ≤ nz ∧ i = .int .i64 j ∧ StS w S D sb s (2 * j + 1) wr ∧ St.AtP [98, 105, 103] (partsP (ps.map Part.l) (fun t => num (zs.getD t 0) n) j) s ∧ Hv S D hb n (partsP (ps.map Part.l) (fun t => num (zs.getD t 0) n) j) wr) (fun i _ => nz - (intOf i).toNat)
        case atStart => exact ⟨0, _, _, _, Nat.zero_le _, rfl, H4.out, HST.out.2, HV3.out⟩
        case round =>
          obtain ⟨j, S4, D4, s4, hj, rfl, h4, hp4, hv4⟩ := hrel
          have H4' := hide h4
          have HP4 := hide hp4
          have HV4 := hide hv4
          clear h4 hp4 hv4 H4 HV3 HST
          by_cases hlt : j < nz
          · obtain ⟨b0, o0, hZ, hcw⟩ := HZ.out.get j (by have := HNZ.out; omega)
            subst hZ
            have hcz : wr.cell? ⟨b0, o0 + j, none⟩ = some (.int .i64 (zs.getD j 0)) := (H4'.out.below.cell (p := ⟨b0, o0 + j, none⟩) (World.block_lt_of_cell? _ _ hcw)).trans hcw
            have hzb : -9223372036854775808 ≤ zs.getD j 0 ∧ zs.getD j 0 ≤ 9223372036854775807 := HZ.out.fit _ (by have := HNZ.out; simp [List.getD, show j < zs.length by omega])
            have HPJ : Hid (partsP (ps.map Part.l) (fun t => num (zs.getD t 0) n) (j + 1) = St.upd (partsP (ps.map Part.l) (fun t => num (zs.getD t 0) n) j) (num (zs.getD j 0) n : Nat) (some ((ps.map Part.l).getD (num (zs.getD j 0) n) []))) := hide rfl
            have hkn := num_lt (zs.getD j 0) n (by omega)
            have HNUM := hide (num_at (zs.getD j 0) n n wr rfl (by omega) (by omega) hzb.1 hzb.2)
            clear hcw hzb
            generalize zs.getD j 0 = z at *
            generalize num z n = kk at *
            generalize partsP (ps.map Part.l) (fun t => num (zs.getD t 0) n) j = f4 at *
            have hkl : kk < ps.length := by rw [HN.out]; exact hkn
            obtain ⟨pb, po, rfl, hpb, hpc, -⟩ := HPS.out.at_ kk hkl
            have HKA := hide (HQA.out kk hkl)
            have HLG : Hid ((ps.map Part.l).getD kk [] = ps[kk].l) := hide (by simp [List.getD, hkl])
            have hql := HG.out.2 _ (List.getElem_mem hkl)
            have HCP : Hid (∀ W, Below w.heap.size w W → W.cell? ⟨pb, po + kk, none⟩ = some ps[kk].val) := hide (fun W hb => (hb.cell (p := ⟨pb, po + kk, none⟩) hpb).trans hpc)
            clear hpc
            generalize ps[kk] = q at *
            unfold Part.val at HCP
            go_wp2_with (first
              | (go_at_call 13; refine HNUM.out.mono ?_; rintro e w4 ⟨rfl, rfl⟩)
              | (go_at_call 14; refine (StS.part H5.out p HS.out (by omega) 1 (by omega) kk (by omega) q.a q.l.length q.cap q.l (HKA.out.below H5.out.below (Nat.le_refl _)) rfl (by omega) (fun x o e hne hx => by have h1 := H5.out.lo _ (.inl hx); have h2 := HKA.out.lt x o e hne; omega)).mono ?_; rintro e w6 ⟨rfl, S6, D6, h, hgo⟩; have H6 := hide h; have HP6 := hide (HP5.out.part kk (by omega) q.l).2; have HV6 := hide (HV5.out.go hgo); have hc6 := HV6.out.c kk hkn; have hf6 := HV6.out.fz kk; rw [(HP5.out.part kk (by omega) q.l).1]; clear h hgo H5 HP5 HV5; unfold errR)
              | (go_at_call 14; refine (StS.part (H4'.out.grow (balloc (Below.refl _ _) _)) p HS.out (by omega) 1 (by omega) kk (by omega) (some ⟨wr.heap.size, 0, none⟩) 5 5 [111, 116, 104, 101, 114] (Arg.made wr [111, 116, 104, 101, 114] _ _ _ 5 rfl rfl (by omega)) rfl (by omega) (fun x o e _ hx => by injection e with e; injection e with e _ _; subst e; have := H4'.out.lt _ (.inl hx); omega)).mono ?_; rintro e w5 ⟨rfl, S5, D5, h, hgo⟩; have H5 := hide h; have HP5 := hide (HP4.out.part kk (by omega) [111, 116, 104, 101, 114]).2; have HV5 := hide ((HV4.out.below (balloc (Below.refl _ _) _)).go hgo); have hc5 := HCP.out _ H5.out.below; rw [(HP4.out.part kk (by omega) [111, 116, 104, 101, 114]).1]; clear h hgo H4' HV4; unfold errR)
              | fail)
            go_roundw
            case rel =>
              have hup : ∀ b, St.upd (St.upd f4 (kk : Int) (some b)) (kk : Int) (some q.l) = St.upd f4 (kk : Int) (some ((ps.map Part.l).getD kk [])) := fun b => by rw [upd_upd, HLG.out]
              refine ⟨j + 1, S6, D6, _, by omega, by go_num, (StS.setB H6.out hb kk _ HV6.out.s HV6.out.d ?_).mono (by omega), ?_, ?_⟩
              · exact HBL.out
              · rw [HPJ.out, ← hup]; exact HP6.out
              · rw [HPJ.out, HLG.out]; exact HV6.out.put kk hkn q.l
            case measure => simp [intOf]; omega
          · have HFS := hide (partsP_some (ps.map Part.l) (fun t => num (zs.getD t 0) n) j)
            have HFL := hide (partsP_len (ps.map Part.l) (fun t => num (zs.getD t 0) n) 50 HL50.out j)
            have HSUM : Hid (∀ u, s4.ups 1 = some u → ∀ k b, k ≤ 256 → St.joinN u.parts k = some b → b.length ≤ 1000000000) := hide (fun u hu k b hk hb => by
              rw [HP4.out.up] at hu
              obtain rfl := Option.some.inj hu
              have := St.joinN_len 50 HFL.out k b hb
              omega)
            have hj30 : j ≤ 30 := by omega
            clear HL50 HFL
            generalize partsP (ps.map Part.l) (fun t => num (zs.getD t 0) n) j = f4 at *
            generalize wr = wL at *
            go_wp2_with fail
            clear hlt
            go_loopw [12, 13, 14] (fun m v i wx => ∃ t : Nat, t ≤ n ∧ i = .int .i64 t ∧ m = .bool (missP f4 t) ∧ Own wx wL.heap.size v (flat (ps.take t)) ∧ Below wL.heap.size wL wx) (fun _ _ i _ => n - (intOf i).toNat)
            case atStart => exact ⟨0, Nat.zero_le _, rfl, rfl, by simp [flat]; exact Own.nil _ _, Below.refl _ _⟩
            case round =>
              obtain ⟨t, ht, rfl, rfl, ho, hbx⟩ := hrel
              have HO := hide ho
              have HBX := hide hbx
              have HFT := hide (flat_take_len 50 HG.out.2 t)
              clear ho hbx
              by_cases hlt : t < n
              · have hkl : t < ps.length := by rw [HN.out]; exact hlt
                have H4x := hide (H4'.out.below.trans (HBX.out.mono H4'.out.below.size))
                have hch := (HV4.out.below HBX.out).c t hlt
                obtain ⟨pb, po, rfl, hpb, hpc, -⟩ := HPS.out.at_ t hkl
                have HKA := hide ((HQA.out t hkl).below H4x.out (Nat.le_refl _))
                have hcp : wr.cell? ⟨pb, po + t, none⟩ = some ps[t].val := (H4x.out.cell (p := ⟨pb, po + t, none⟩) hpb).trans hpc
                have hql := HG.out.2 _ (List.getElem_mem hkl)
                have HFP := hide (flat_step hkl)
                have HMP : Hid (missP f4 (t + 1) = (missP f4 t || (f4 (t : Nat)).isNone)) := hide rfl
                clear hpc
                generalize ps[t] = q at *
                generalize missP f4 t = m0 at *
                generalize flat (ps.take t) = l0 at *
                have HNS : Hid ((f4 (t : Nat)).isNone = !(f4 (t : Nat)).isSome) := hide (by cases f4 (t : Nat) <;> rfl)
                generalize (f4 (t : Nat)).isSome = s0 at *
                unfold Part.val at hcp
                cases m0 <;> cases s0
                all_goals
                  go_wp2_with (at_builtin; refine wpList_app rfl (.tmp 102) (.tmp 106) rfl wL.heap.size _ l0 q.l rfl HO.out q.a q.l.length q.cap rfl rfl HKA.out.reads (by have := HFT.out; omega) HBX.out.size ?_; intro v5 w5 hown5 hg5 hv5)
                  have HOW := hide hown5
                  have HBN := hide (HBX.out.grown hg5 HBX.out.size (fun g hg => (HO.out.lt g hg).1))
                  clear hown5 hg5 hv5
                  go_wp2_with fail
                  go_roundw
                  case rel => exact ⟨t + 1, by omega, by go_num, by rw [HMP.out, HNS.out]; rfl, by rw [HFP.out]; exact HOW.out, HBN.out⟩
                  case measure => simp [intOf]; omega
              · obtain rfl : n = t := by omega
                have HX := hide (H4'.out.grow HBX.out)
                cases hms : missP f4 n
                · have HJ := hide (missP_false (Nat.le_of_eq HN.out.symm) HFS.out hms)
                  obtain ⟨L, hL⟩ : ∃ L, L = (flat (ps.take n)).length := ⟨_, rfl⟩
                  have HL := hide hL.symm
                  have HL2 : Hid (L ≤ 600) := hide (by have := HFT.out; omega)
                  generalize flat (ps.take n) = l0 at *
                  obtain ⟨Aw, cw, rfl, haw⟩ := own_n (n := L) HO.out HL.out
                  have HAW := hide haw
                  have HNS : Hid (∀ a, Aw = some a → ¬ S4 a.block ∧ a.block < wr.heap.size) := hide (fun a e => by
                    subst e
                    have h1 := HO.out.lt a.block rfl
                    exact ⟨fun hS => by have := H4'.out.lt _ (.inl hS); omega, h1.2⟩)
                  clear hms haw hL HO HFS HFT
                  go_wp2_with (first
                    | (go_at_call 17; refine (is_sent w9 p (HS.out.below H9.out.below) 6 (by omega) 107).mono ?_; rintro e w10 ⟨rfl, hb⟩; have H10 := hide (H9.out.grow hb); clear hb)
                    | (go_at_call 14; refine (StS.part H8.out p HS.out (by omega) 1 (by omega) 0 (by omega) none 0 0 [] ⟨by simp, by omega, fun _ => rfl, .inl rfl⟩ rfl (by omega) (fun x o e _ _ => by cases e)).mono ?_; rintro e w9 ⟨rfl, S9, D9, h, -⟩; have H9 := hide h; rw [(HQ5.out.part 1 0 []).1]; clear h H8; unfold errR)
                    | (go_at_call 19; refine (StS.openOf H7.out (by omega)).mono ?_; rintro e w8 ⟨v, l, rfl, hl, ho, hb⟩; obtain rfl := St.lists_nil hl HQ5.out.ups; obtain ⟨A8, c8, rfl, -⟩ := own_z (n := 0) ho rfl (by simp); have H8 := hide (H7.out.grow hb); clear hl ho hb H7)
                    | (go_at_call 21; refine (sameBytes_any A6 Aw c6 cw L L l0 l0 w6 HL.out HL.out (by have := HL2.out; omega) (by have := HL2.out; omega) HA6.out.reads HAW6.out.reads).mono ?_; rintro e w7 ⟨rfl, hq⟩; have H7 := hide (H6.out.grow (below_drew_q hq)); rw [decide_eq_true (rfl : l0 = l0)]; clear hq H6)
                    | (go_at_call 16; refine (StS.bytes H5.out [98, 105, 103] (by simp)).mono ?_; rintro e w6 ⟨v, rfl, ho, hb⟩; have H6 := hide (H5.out.grow hb); have HAW6 := hide (HAW5.out.below hb (Nat.le_refl _)); rw [HQ5.out.obj] at ho ⊢; simp only [Option.getD_some, Option.isSome_some] at ho ⊢; obtain ⟨A6, c6, rfl, ha6⟩ := own_n (n := L) ho HL.out; have HA6 := hide ha6; clear ho hb ha6 H5)
                    | (go_at_call 15; refine (StS.comp HX.out p HS.out (by omega) 1 (by omega) n HSUM.out).mono ?_; rintro e w5 ⟨rfl, S5, D5, h, hgo⟩; have H5 := hide h; have HQ5 := hide (HP4.out.comp n (by omega) l0 HJ.out).2; have HAW5 : Hid (Arg w5 Aw cw l0) := hide ⟨HAW.out.le, HAW.out.max, HAW.out.nil, HAW.out.reads.kept hgo.chg.size (fun a e _ => hgo.chg.block a.block (HNS.out a e).2 (HNS.out a e).1)⟩; rw [(HP4.out.comp n (by omega) l0 HJ.out).1]; clear h hgo HX; unfold errR)
                    | fail)
                  go_ret
                  exact ⟨rfl, H10.out.below⟩
                · have HJ := hide (missP_true hms)
                  clear hms HO HFS HFT
                  go_wp2_with (first
                    | (go_at_call 17; refine (is_sent w12 p (HS.out.below H12.out.below) 6 (by omega) 107).mono ?_; rintro e w13 ⟨rfl, hb⟩; have H13 := hide (H12.out.grow hb); clear hb)
                    | (go_at_call 15; refine (StS.comp H11.out p HS.out (by omega) 1 (by omega) 0 (fun u hu => by rw [HQ10.out.ups 1] at hu; cases hu)).mono ?_; rintro e w12 ⟨rfl, S12, D12, h, -⟩; have H12 := hide h; rw [(HQ10.out.comp 1 0).1]; clear h H11; unfold errR)
                    | (go_at_call 19; refine (StS.openOf H10.out (by omega)).mono ?_; rintro e w11 ⟨v, l, rfl, hl, ho, hb⟩; obtain rfl := St.lists_nil hl HQ10.out.ups; obtain ⟨A11, c11, rfl, -⟩ := own_z (n := 0) ho rfl (by simp); have H11 := hide (H10.out.grow hb); clear hl ho hb H10)
                    | (go_at_call 20; refine (StS.abort H9.out p HS.out (by omega) 1 (by omega)).mono ?_; rintro e w10 ⟨rfl, S10, D10, h, -⟩; have H10 := hide h; have HQ10 := hide HP5.out.abort.2; rw [HP5.out.abort.1]; clear h H9; unfold errR)
                    | (go_at_call 18; refine (sameInts_any A8 (some ⟨w8.heap.size, 0, none⟩) c8 1 1 1 [1] [1] _ rfl rfl (by omega) (by omega) (HA8.out.below (balloc (Below.refl _ _) _) (Nat.le_refl _)) (IntsArg.made w8 [1] _ _ 1 rfl rfl (by omega) (by simp))).mono ?_; rintro e w9 ⟨rfl, hq⟩; have H9 := hide (H8.out.grow ((balloc (Below.refl _ _) _).trans ((below_drew_q hq).mono (by simp)))); rw [decide_eq_true (rfl : ([1] : List Int) = [1])]; clear hq H8)
                    | (go_at_call 19; refine (StS.openOf H7.out (by omega)).mono ?_; rintro e w8 ⟨v, l, rfl, hl, ho, hb⟩; obtain rfl := St.lists_one hl 1 (by rw [HP5.out.up]; simp) HP5.out.ups; obtain ⟨A8, c8, rfl, ha8⟩ := own_z (n := 1) ho rfl (by simp); have HA8 := hide ha8; have H8 := hide (H7.out.grow hb); clear hl ho hb ha8 H7)
                    | (go_at_call 17; refine (is_sent w6 p (HS.out.below H6.out.below) 4 (by omega) 105).mono ?_; rintro e w7 ⟨rfl, hb⟩; have H7 := hide (H6.out.grow hb); clear hb H6)
                    | (go_at_call 16; refine (StS.bytes H5.out [98, 105, 103] (by simp)).mono ?_; rintro e w6 ⟨v, rfl, ho, hb⟩; have H6 := hide (H5.out.grow hb); rw [HP5.out.obj] at ho ⊢; simp only [Option.getD_none, Option.isSome_none] at ho ⊢; obtain ⟨A6, c6, rfl, -⟩ := own_n (n := 0) ho rfl; clear ho hb H5)
                    | (go_at_call 15; refine (StS.comp HX.out p HS.out (by omega) 1 (by omega) n HSUM.out).mono ?_; rintro e w5 ⟨rfl, S5, D5, h, -⟩; have H5 := hide h; have HP5 := hide (HP4.out.comp_bad n (by omega) HJ.out).2; rw [(HP4.out.comp_bad n (by omega) HJ.out).1]; clear h HX; unfold errR)
                    | fail)
                  go_ret
                  exact ⟨rfl, H13.out.below⟩
  · have HFG := hide (fun W hb => HFEW.out W hb false ⟨fun h => (by cases h), fun h => absurd h hgood⟩)
    clear HFEW hgood
    go_enter Tryd.func3, Tryd.ntmps3
    go_wp2_with (first
      | (go_at_call 9; refine HF.out.mono ?_; rintro e w1 ⟨rfl, hb⟩; have HB1 := hide hb; clear hb)
      | (go_at_call 10; refine (HFG.out w1 HB1.out).mono ?_; rintro e w1' ⟨rfl, rfl⟩)
      | fail)
    go_ret
    exact ⟨rfl, HB1.out⟩
end Go.Proofs.YtipmmmmobopbmaaDoor

namespace Go.Proofs.YtipmmmmobopbmaaDoor.PartsLaw
open Go.Proofs.YtipmmmmobopbmaaDoor
open Go.RowKit Go.ChangeShapes Go.WideShapes Go.ChangeAt

set_option maxRecDepth 100000 in
theorem lifted (os : Os) (started : os.Started) (H : Type) (enc : TypeId × Value → H) :
    ReturnsInHanded {} Tryd.checked os 3 .any (fun w args => (Rows.storePartsSpec.pre enc Tryd.prog Tryd.f3 [] false w args ∧ laidMetH Tryd.prog laidErr w) ∧ sizedMet enc Tryd.prog Tryd.f3 (OpenSpec.ofChange Rows.storePartsSpec) false w args)
      (Rows.storePartsSpec.post enc Tryd.prog Tryd.f3 false true false false) := by
  refine returnsInHanded_of_change_and (C := Tryd.checked) (X := fun w _ => laidMetH Tryd.prog laidErr w) (fun _ _ _ hh h => h.of_heap hh) own started (by kernel_rfl) Tryd.func3
    (ChangeSpec.witness_shaped (enc := enc) (C := Tryd.checked) (os := os) (X := fun w _ => laidMetH Tryd.prog laidErr w) false (World.doorLaid Tryd.prog 400 os) #[.slice none 0 0, .slice none 0 0] 8 rfl (World.shaped_of_RefB (by kernel_rfl) (by kernel_rfl)) (by kernel_rfl) (by kernel_rfl) (by kernel_rfl) (door_met_err os _)) ?_
  intro W base args ds gs before hval0 hW _ _ hL _
  have hval : ∀ (j : Nat) t v, Tryd.f3.params[j]? = some t → args[j]? = some v → Value.okWide Tryd.prog W .any base t v := hval0
  have hW' := hW
  obtain ⟨p, q, hA0, hV, rfl, hfz, hnd⟩ := hW
  have hA : DataW.TrodAll enc Tryd.prog W 0 (fun _ => true) true Tryd.f3.params.toList args.toList ds p := hA0
  rw [Tryd.params3] at hA hval
  obtain ⟨v0, vs0, d0, ds0, p0, q0, hargs, rfl, rfl, h0, r0⟩ := trodAll_cons hA
  obtain ⟨v1, vs1, d1, ds1, p1, q1, rfl, rfl, rfl, h1, r1⟩ := trodAll_cons r0
  obtain ⟨rfl, rfl, rfl⟩ := trodAll_nil r1
  obtain rfl : args = #[v0, v1] := by cases args; simp_all
  obtain ⟨rfl, rfl⟩ := trodVars_none hV
  obtain ⟨a0, len0, cap0, rfl⟩ := okWide_slice Tryd.underlying22 (hval 0 22 v0 rfl rfl)
  have k0 := h0
  have lt0 : ∀ x ∈ p0, x.block < W.heap.size := by obtain ⟨m, hm⟩ := k0; exact DataW.trod_lt m _ _ _ hm
  obtain ⟨qs0, rfl, le0, mx0, w0, g0⟩ := textArgs_of h0
  obtain ⟨a1, len1, cap1, rfl⟩ := okWide_slice Tryd.underlying23 (hval 1 23 v1 rfl rfl)
  have k1 := h1
  have lt1 : ∀ x ∈ p1, x.block < W.heap.size := by obtain ⟨m, hm⟩ := k1; exact DataW.trod_lt m _ _ _ hm
  obtain ⟨zs1, rfl, le1, mx1, w1, z1⟩ := ints_of h1
  clear hA0 hval0
  obtain ⟨ps, hsent⟩ := sents_of_err hL
  refine (parts_walk W ps hsent a0 cap0 _ qs0 rfl (by omega) w0 g0 a1 cap1 _ zs1 (intsArg_of le1 mx1 w1 z1 (intsCap_of h1)) rfl (by omega)).mono fun e W' ⟨he, bel⟩ => ?_
  subst he
  exact ⟨_, rfl, _, _, _, [], _, [], hW', trodAll_mk1 (shut_bool Tryd.underlying4 _), (trodAll_cons_mk (Below.trod laidOut (by kernel_rfl) (of_decide_eq_true (by kernel_rfl)) k0 bel lt0) (trodAll_cons_mk (Below.trod laidOut (by kernel_rfl) (of_decide_eq_true (by kernel_rfl)) k1 bel lt1) trodAll_mk0)), rfl, bel.frame _, fun h => by cases h⟩

theorem row : Rows.StorePartsSaid :=
  OpenClaim.holds_of_wide 3 Tryd.f3 rfl rfl rfl rfl rfl rfl rfl ⟨rfl, rfl, rfl, rfl, rfl⟩ rfl rfl rfl rfl rfl (by kernel_rfl) Tryd.func3 (by kernel_rfl)
    (of_decide_eq_true (by kernel_rfl)) (by unfold Func.isWrapper; first | (rw [if_pos (by decide +kernel)]; kernel_rfl) | (rw [if_neg (by decide +kernel)]; exact ⟨rfl, rfl⟩))
    (fun os started H enc _ => lifted os started H enc)

theorem proved : Rows.StorePartsCardSaid :=
  Claim7.holds_tied_plain_at .later [] _ true _ true
    row (fun _ h => by cases h) (by kernel_rfl) (fun _ h => by cases h) storeParts_row_tie rfl ⟨rfl, rfl⟩ (by kernel_rfl) rfl
    (fun f fn hf hfn => by
      obtain rfl : f = 3 := Option.some.inj ((show Tryd.prog.funcNamed "cordwood/cordwoodlaw11.StoreParts" = some 3 by kernel_rfl).symm.trans hf) |>.symm
      obtain rfl : fn = Tryd.f3 := (Option.some.inj (Tryd.func3.symm.trans hfn)).symm
      exact ⟨by kernel_rfl, fun j t ht => by
        rw [Tryd.params3] at ht
        have hm : t ∈ [22, 23] := by simpa using Array.mem_of_getElem? ht
        have hall : ([22, 23].all fun u => !Tryd.prog.wantsStandIn u) = true := by kernel_rfl
        exact (show Tryd.prog.wantsStandIn t = false by simpa using List.all_eq_true.1 hall t hm)⟩)
    (by kernel_rfl)
end Go.Proofs.YtipmmmmobopbmaaDoor.PartsLaw
