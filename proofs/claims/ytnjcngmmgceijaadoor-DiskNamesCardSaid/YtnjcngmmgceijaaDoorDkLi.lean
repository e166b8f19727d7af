/-
  The names of a disk, rising: List.
-/
import Derived.Test.YtnjcngmmgceijaaDoorDkLy
import Derived.Test.YtnjcngmmgceijaaDoorTxO
import Derived.Test.YtnjcngmmgceijaaDoorNmR
import Derived.Test.YtnjcngmmgceijaaDoorDkDo
namespace Go.Proofs.YtnjcngmmgceijaaDoor
open Go.RowKit Go.Maps Go.Sort

/-- These are a directory's names, rising. -/
def Dk.Lists (f : Dk.Dir) (l : List Dk.Nm) : Prop := l.Pairwise (· < ·) ∧ ∀ x, x ∈ l ↔ f x ≠ none
theorem Dk.Lists.one {f : Dk.Dir} {l m : List Dk.Nm} (h : Dk.Lists f l) (k : Dk.Lists f m) : l = m :=
  Nm.strict_ext l m h.1 k.1 fun x => (h.2 x).trans (k.2 x).symm

theorem keys_lists {w : World} {b nn : Nat} {D0 : DataW Unit} {f : Dk.Dir} (hown : w.ownsMap Tryd.prog 9 ptrE b nn D0) (hat0 : ∀ k zd, D0.atKey (.string k) zd = fileD (f k) zd) {ss : List (List UInt8)} (h : ss.Perm (strKeys D0)) :
    Dk.Lists f (ss.mergeSort fun x y => decide (x ≤ y)) := by
  obtain ⟨es, hD, hpw, _⟩ := hown.entries str_law
  obtain ⟨es', hD', hko⟩ := hown.keysOf
  obtain rfl : es = es' := by rw [hD] at hD'; simpa using hD'
  subst hD
  have hk : ∀ p ∈ es, ∃ x, p.1 = .string x := fun p hp => by
    obtain ⟨v, hv⟩ := hko p hp
    obtain ⟨x, _, hx, _⟩ := Maps.keyOf_str Tryd.underlying9 hv
    exact ⟨x, hx⟩
  have hnd : (strKeys (.map es)).Nodup := by
    show (es.map fun p => strOf p.1).Nodup
    refine List.pairwise_map.2 (hpw.imp_of_mem fun {p q} hp hq hne e => hne ?_)
    obtain ⟨x, hx⟩ := hk p hp
    obtain ⟨y, hy⟩ := hk q hq
    rw [hx, hy] at e ⊢
    exact congrArg _ e
  have hmem : ∀ x, x ∈ strKeys (.map es) ↔ f x ≠ none := fun x => by
    rw [← has_iff hat0 x, has_eq, List.any_eq_true]
    show x ∈ es.map (fun p => strOf p.1) ↔ _
    rw [List.mem_map]
    constructor
    · rintro ⟨p, hp, rfl⟩
      obtain ⟨y, hy⟩ := hk p hp
      exact ⟨p, hp, by rw [hy]; simp [Lit.sameKey, strOf]⟩
    · rintro ⟨p, hp, hs⟩
      obtain ⟨y, hy⟩ := hk p hp
      rw [hy] at hs
      exact ⟨p, hp, by rw [hy]; simpa [Lit.sameKey, strOf] using hs⟩
  have hp2 : (ss.mergeSort fun x y => decide (x ≤ y)).Perm (strKeys (.map es)) := (List.mergeSort_perm ss _).trans h
  refine ⟨?_, fun x => (hp2.mem_iff).trans (hmem x)⟩
  have hle : (ss.mergeSort fun x y => decide (x ≤ y)).Pairwise (fun a b => decide (a ≤ b) = true) :=
    List.pairwise_mergeSort (fun a b c h1 h2 => by simp only [decide_eq_true_eq] at *; exact List.le_trans h1 h2) (fun a b => by simp only [Bool.or_eq_true, decide_eq_true_eq]; exact List.le_total a b) ss
  have hne : (ss.mergeSort fun x y => decide (x ≤ y)).Nodup := hp2.nodup_iff.2 hnd
  refine (hle.and hne).imp fun {a b} hab => ?_
  have h1 : a ≤ b := of_decide_eq_true hab.1
  rcases Nm.tx_tri a b with e | e | e
  · exact e
  · exact absurd e hab.2
  · exact absurd e (List.not_lt.2 h1)

set_option maxRecDepth 100000 in
theorem list_any (Bd : Nat) (s : Dk.St) (S : Nat → Prop) (w : World) (h : IsDisk w Bd s S) (hc : s.calls ≤ 1000000) :
    Calls Tryd.prog 10 #[.pointer (some ⟨Bd, 0, none⟩)] w fun e w' => ∃ v l, e = .returned v ∧ Dk.Lists s.names l ∧ OwnT w' w.heap.size v l ∧ Below w.heap.size w w' := by
  obtain ⟨nb, db, sv, ids, row, h⟩ := h
  obtain ⟨D0, hown, hat0⟩ := h.names.ex
  have hsz := hown.size_le
  have c : w.cell? ⟨Bd, 1, none⟩ = some (.map (some nb)) := box_cell h.box 1
  have hS := callsIn_wide.1 (lay_slices_Sorted_keys nb s.calls.toNat D0 ptrE w hown (by simp only [maxLen]; omega) (by omega))
  have hK := fun (mb : Option Nat) (W : World) => callsIn_wide.1 (lay_maps_Keys mb W)
  have HL := hide (fun (ss : List (List UInt8)) (hp : ss.Perm (strKeys D0)) => keys_lists hown hat0 hp)
  have HS := hide hS
  have HK := hide hK
  clear h hS hK hown hat0 hsz
  go_enter Tryd.func10, Tryd.ntmps10
  go_wp2_with (first
    | (go_at_call 30; refine (HK.out _ _).mono ?_; rintro e w1 ⟨rfl, rfl⟩)
    | (go_at_call 29; refine HS.out.mono ?_; rintro e w2 ⟨v, ss, rfl, hp, hrow, -, hb2⟩; have HRO := hide hrow; have HB := hide hb2; have HP := hide hp; clear hrow hb2 hp)
    | fail)
  go_ret
  have hlen : (ss.mergeSort fun x y => decide (x ≤ y)).length = ss.length := by simp
  refine ⟨_, _, rfl, HL.out ss HP.out, ?_, (balloc (Below.refl _ _) _).trans (HB.out.mono (by simp))⟩
  refine OwnT.mono (base := (w.alloc (.cells #[.map (some nb)] 55)).heap.size) ?_ (by simp)
  unfold OwnT
  rw [hlen]
  exact HRO.out
theorem Sess.list {w0 w : World} {n Bd : Nat} {s : Dk.St} (h : Sess w0 n Bd s w) (hn : n ≤ 1000) :
    Calls Tryd.prog 10 #[.pointer (some ⟨Bd, 0, none⟩)] w fun e w' => ∃ v l, e = .returned v ∧ Dk.Lists s.names l ∧ OwnT w' w.heap.size v l ∧ Below w.heap.size w w' :=
  list_any Bd s _ w h.disk (by have := h.small.calls; omega)
theorem Sess.used {w0 w : World} {n Bd : Nat} {s : Dk.St} (h : Sess w0 n Bd s w) : Calls Tryd.prog 25 #[.pointer (some ⟨Bd, 0, none⟩)] w fun e w' => e = .returned (.int .i64 s.used) ∧ w' = w := used_any Bd s _ w h.disk
end Go.Proofs.YtnjcngmmgceijaaDoor
