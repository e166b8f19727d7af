/-
  Package name: Under; the reference's Rising.
-/
import Derived.Test.YtnnobfdpbdkceaaDoorNsU
namespace Go.Proofs.YtnnobfdpbdkceaaDoor
open Go.RowKit Go.Sort Go.Shelf

theorem sortT_any {w : World} {base : Nat} {A : Option Addr} {c n : Nat} {l : List (List UInt8)} (h : OwnT w base (.slice A n c) l) (hn : l.length = n) (hl : n ≤ 1000000) :
    Calls Tryd.prog 15 #[.slice A n c] w fun e w' => e = .returned (.tuple #[]) ∧ OwnT w' base (.slice A n c) (l.mergeSort fun x y => decide (x ≤ y)) ∧ w.grownBy w' (Value.slice A n c).ownBlock := by
  subst hn
  rcases h.2 with ⟨e, h0⟩ | ⟨g, cap, cur, e, hbase, hgb, r1, r2, r3, r4⟩
  · obtain rfl := List.eq_nil_of_length_eq_zero h0
    refine (Any.slices_Sort_string_none lay_sortF A c w).mono ?_
    rintro e w' ⟨rfl, rfl⟩
    exact ⟨rfl, by simpa using h, World.grownBy.refl _ _⟩
  · cases e
    have hH : Holds encStr w g 0 l.toArray := holds_of_block hgb (by simpa [txs] using r4)
    have hgl : g < w.heap.size := (Array.getElem?_eq_some_iff.1 hgb).1
    refine (Any.slices_Sort_string lay_sortF g 0 c l w hH hgl (by omega)).mono ?_
    rintro e w' ⟨rfl, nn, os, rfl⟩
    refine ⟨rfl, ?_, grownBy_sorted _⟩
    have := ownsRow_sorted (os := os) (n := nn) (ts := l.mergeSort fun x y => decide (x ≤ y)) (ss := l) (by simp) hbase hgb r1 r2 r3
    unfold OwnT
    rw [List.length_mergeSort]
    exact this

theorem take_putCells_more (cur : Array Value) (ts us : List (List UInt8)) (h : ts.length ≤ cur.size) : (putCells encStr 0 (ts ++ us).toArray cur).toList.take ts.length = ts.map encStr := by
  apply List.ext_getElem?
  intro j
  by_cases hj : j < ts.length
  · rw [List.getElem?_take_of_lt hj, Array.getElem?_toList]
    have hj2 : j < ts.length + us.length := by omega
    simp [putCells, hj, hj2, show j < cur.size by omega]
  · rw [List.getElem?_take_eq_none (by omega), List.getElem?_eq_none (by simp; omega)]

theorem compactT_any {w : World} {base : Nat} {A : Option Addr} {c n : Nat} {l : List (List UInt8)} (h : OwnT w base (.slice A n c) l) (hn : l.length = n) (hl : n ≤ 1000000) :
    Calls Tryd.prog 16 #[.slice A n c] w fun e w' => ∃ v, e = .returned v ∧ OwnT w' base v (Lib.compact l) ∧ w.grownBy w' (Value.slice A n c).ownBlock := by
  subst hn
  rcases h.2 with ⟨e, h0⟩ | ⟨g, cap, cur, e, hbase, hgb, r1, r2, r3, r4⟩
  · obtain rfl := List.eq_nil_of_length_eq_zero h0
    refine (Any.slices_Compact_string_empty lay_compactF A c w).mono ?_
    rintro e w' ⟨rfl, rfl⟩
    exact ⟨_, rfl, h, World.grownBy.refl _ _⟩
  · cases e
    have hH : Holds encStr w g 0 l.toArray := holds_of_block hgb (by simpa [txs] using r4)
    refine (Any.slices_Compact_string lay_compactF g 0 c l w hH (by omega) r1).mono ?_
    rintro e w' ⟨rfl, q, rfl⟩
    have hle := Nm.compact_le l
    have e1 := grow_empty (putRow encStr (Sort.ahead w q) g 0 (Lib.compact l ++ List.replicate (l.length - (Lib.compact l).length) []).toArray)
    have hheap := heap_sorted (n := q) (os := #[]) (Lib.compact l ++ List.replicate (l.length - (Lib.compact l).length) []).toArray hgb
    rw [e1] at hheap
    have hgr := grownBy_sorted (w := w) (g := g) (n := q) (os := #[]) (Lib.compact l ++ List.replicate (l.length - (Lib.compact l).length) []).toArray
    rw [e1] at hgr
    refine ⟨_, rfl, ⟨by simp [txs], .inr ⟨g, c, _, rfl, hbase, hheap, by omega, r2, by simp [putCells, r3], ?_⟩⟩, hgr⟩
    rw [Nat.mul_one]
    exact take_putCells_more cur _ _ (by omega)

theorem take_snocT (xs : List (List UInt8)) (k : Nat) (h : k < xs.length) : xs.take (k + 1) = xs.take k ++ [xs.getD k []] := by
  rw [List.take_succ_eq_append_getElem h]
  simp [List.getD, h]

set_option maxRecDepth 100000 in
set_option maxHeartbeats 1000000 in
theorem under_any (A : Option Addr) (c n : Nat) (l : List (List UInt8)) (pre : List UInt8) (w : World) (hn : l.length = n) (hl : n ≤ 100000) (hr : ReadsT w A l) :
    Calls Tryd.prog 7 #[str pre, .slice A n c] w fun e w' => ∃ v, e = .returned v ∧ OwnT w' w.heap.size v (Nm.rising (l.filter fun x => Lib.hasPrefix x pre)) ∧ Below w.heap.size w w' := by
  have HR := Lib.hid hr
  have HN := Lib.hid hn
  have HP := Lib.hid (fun (s : List UInt8) (W : World) => hasPrefix_any s pre W)
  clear hr hn
  go_enter Tryd.func7, Tryd.ntmps7
  go_wp2_with fail
  go_loopw [5, 10] (fun v i wr => ∃ k : Nat, k ≤ n ∧ i = .int .i64 k ∧ OwnT wr w.heap.size v ((l.take k).filter fun x => Lib.hasPrefix x pre) ∧ Below w.heap.size w wr) (fun _ i _ => n - (intOf i).toNat)
  case atStart => exact ⟨0, Nat.zero_le _, rfl, by simpa using OwnT.nil w _, Below.refl _ _⟩
  case round =>
    obtain ⟨k, hk, rfl, ho, hb⟩ := hrel
    have HO := Lib.hid ho
    have HB := Lib.hid hb
    clear ho hb
    by_cases hlt : k < n
    · obtain ⟨b, off, rfl, hcell⟩ := (HR.out.below HB.out (Nat.le_refl _)).get k (by rw [HN.out]; exact hlt)
      have HT := Lib.hid (take_snocT l k (by rw [HN.out]; exact hlt))
      have HLK : Hid (((l.take k).filter fun x => Lib.hasPrefix x pre).length ≤ k) := Lib.hid (Nat.le_trans (List.length_filter_le _ _) (by rw [List.length_take]; omega))
      generalize l.getD k [] = x at *
      by_cases hp : Lib.hasPrefix x pre = true
      · have hbs := HB.out.size
        go_wp2_with (first
          | (go_at_call 14; refine (HP.out x wr).mono ?_; rintro e wr' ⟨rfl, rfl⟩; rw [hp])
          | (at_builtin; refine wpList_appT (w := wr'.alloc _) rfl (.tmp 17) (.tmp 19) rfl w.heap.size u5 _ [x] rfl (HO.out.alloc _) _ 1 1 rfl rfl (ReadsT.made _ _ _ _ _ _ (by simp) rfl) (by have := HLK.out; omega) (by simp; omega) ?_; intro v5 w5 hown5 hg5 hv5; have HBN := Lib.hid ((balloc HB.out _).grown hg5 (by simp; omega) (fun g hg => (HO.out.lt g hg).1)); have HOW := Lib.hid hown5; clear hown5 hg5 hv5)
          | fail)
        go_roundw
        case rel => exact ⟨k + 1, by omega, by go_num, by rw [HT.out, List.filter_append, List.filter_cons_of_pos (by exact hp), List.filter_nil]; exact HOW.out, HBN.out⟩
        case measure => simp [intOf]; omega
      · have hp' : Lib.hasPrefix x pre = false := by simpa using hp
        go_wp2_with (first
          | (go_at_call 14; refine (HP.out x wr).mono ?_; rintro e wr' ⟨rfl, rfl⟩; rw [hp'])
          | fail)
        go_roundw
        case rel => exact ⟨k + 1, by omega, by go_num, by rw [HT.out, List.filter_append, List.filter_cons_of_neg (by exact hp), List.filter_nil, List.append_nil]; exact HO.out, HB.out⟩
        case measure => simp [intOf]; omega
    · obtain rfl : k = n := by omega
      have HE : Hid (l.take k = l) := Lib.hid (by rw [← HN.out, List.take_length])
      rw [HE.out] at HO
      have hlen : (l.filter fun x => Lib.hasPrefix x pre).length ≤ k := Nat.le_trans (List.length_filter_le _ _) (by rw [HN.out]; exact Nat.le_refl _)
      obtain ⟨L, hL⟩ : ∃ L, L = l.filter fun x => Lib.hasPrefix x pre := ⟨_, rfl⟩
      rw [← hL] at HO hlen
      have HLL := Lib.hid hL
      clear hL
      obtain ⟨A', c', rfl, -⟩ := HO.out.reads
      generalize hm : L.length = m at *
      have HM := Lib.hid hm
      clear hm
      go_wp2_with (first
        | (go_at_call 15; refine (sortT_any HO.out HM.out (by omega)).mono ?_; rintro e w2 ⟨rfl, ho2, hg2⟩; have HO2 := Lib.hid ho2; have HB2 := Lib.hid (HB.out.grown hg2 HB.out.size (fun g hg => (HO.out.lt g hg).1)); clear ho2 hg2)
        | (go_at_call 16; refine (compactT_any HO2.out (by rw [List.length_mergeSort]; exact HM.out) (by omega)).mono ?_; rintro e w3 ⟨v, rfl, ho3, hg3⟩; have HO3 := Lib.hid ho3; have HB3 := Lib.hid (HB2.out.grown hg3 HB2.out.size (fun g hg => (HO2.out.lt g hg).1)); clear ho3 hg3)
        | fail)
      go_ret
      have e : Lib.compact (L.mergeSort fun x y => decide (x ≤ y)) = Nm.rising L := Nm.compact_rising L _ (fun z => (List.mergeSort_perm L _).mem_iff) (by
        have h := List.pairwise_mergeSort (le := fun (x y : List UInt8) => decide (x ≤ y)) (fun a b c h1 h2 => by simp only [decide_eq_true_eq] at *; exact List.le_trans h1 h2) (fun a b => by simp only [Bool.or_eq_true, decide_eq_true_eq]; exact List.le_total a b) L
        exact h.imp fun {a b} h => of_decide_eq_true h)
      exact ⟨_, rfl, by rw [← HLL.out, ← e]; exact HO3.out, HB3.out⟩
end Go.Proofs.YtnnobfdpbdkceaaDoor
