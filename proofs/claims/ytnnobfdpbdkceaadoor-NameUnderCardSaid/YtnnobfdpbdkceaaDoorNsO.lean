/-
  Package name: objects' names; what is parsed.
-/
import Derived.Test.YtnnobfdpbdkceaaDoorNsJ
import Derived.Lib.AtoiErrMem
namespace Go.Proofs.YtnnobfdpbdkceaaDoor
open Go.RowKit Go.Shelf

theorem cell_new (W : World) (cs : Array Value) (T : TypeId) (fr : Nat × Nat) (j : Nat) : (W.alloc (.cells cs T fr)).cell? ⟨W.heap.size, j, none⟩ = cs[j]? := by
  have h : (W.alloc (.cells cs T fr)).heap[W.heap.size]? = some (.cells cs T fr) := by show (W.heap.push _)[W.heap.size]? = _; simp
  unfold World.cell?
  simp only [h]
  rfl
theorem join_any (W : World) (bk n : Nat) (xs : List (List UInt8)) (hn : xs.length = n) (hc : ∀ (j : Nat) x, xs[j]? = some x → W.cell? ⟨bk, j, none⟩ = some (str x)) (hb : bk < W.heap.size) (h1 : n ≤ 1000) (h2 : (Lib.join xs [45]).length ≤ 140737488355328) :
    Calls Tryd.prog 21 #[.slice (some ⟨bk, 0, none⟩) n n, .string ⟨#[45]⟩] W fun e w' => e = .returned (str (Lib.join xs [45])) ∧ Below W.heap.size W w' := by
  subst hn
  have e : (xs.map fun l => (⟨l.toArray⟩ : ByteArray)).map (·.data.toList) = xs := by rw [List.map_map]; exact (List.map_congr_left fun l _ => by simp).trans (List.map_id _)
  have h := Any.strings_Join lay_joinF joinX bk 0 xs.length (xs.map fun l => ⟨l.toArray⟩) ⟨#[45]⟩ W (fun j x hx => by
    rw [List.getElem?_map] at hx
    obtain ⟨l, hl, rfl⟩ := Option.map_eq_some_iff.1 hx
    rw [Nat.zero_add]
    exact hc j l hl) hb (by simp; omega) (by simp) (by rw [e]; exact h2)
  rw [e, List.length_map] at h
  exact h
theorem strs_at (W : World) (xs : List (List UInt8)) (cs : Array Value) (T : TypeId) (fr : Nat × Nat) (hcs : (xs.map str).toArray = cs) (j : Nat) (x : List UInt8) (hx : xs[j]? = some x) : (W.alloc (.cells cs T fr)).cell? ⟨W.heap.size, j, none⟩ = some (str x) := by
  rw [cell_new, ← hcs]
  simp [hx]
theorem join_obj (a k b : List UInt8) : Lib.join [[115, 101, 103], a, k, b] [45] = Nm.seg4 ++ (a ++ (45 :: (k ++ (45 :: b)))) := by
  rw [Lib.join_cons]
  simp [Lib.joinTail, Nm.seg4]

def idB (i : Int) : Bool := decide (Nm.idly i)
set_option maxRecDepth 100000 in
set_option maxHeartbeats 1000000 in
theorem object_any (i : Int) (k : List UInt8) (b : Int) (w : World) (ht : PowTab w) :
    Calls Tryd.prog 11 #[.int .i64 i, str k, .int .i64 b] w fun e w' => e = .returned (str (Nm.obj i k b)) ∧ Below w.heap.size w w' := by
  have HT := Lib.hid ht
  have HJ := Lib.hid (just_any abc k 8 w (by decide) (by decide))
  rw [just_abc] at HJ
  by_cases h1 : i < 0
  · have d1 : decide (i < 0) = true := by simp [h1]
    have ho : Nm.obj i k b = [] := by unfold Nm.obj; rw [if_neg (fun h => by have := h.1; unfold Nm.idly at this; omega)]
    rw [ho]
    clear ht ho
    go_enter Tryd.func11, Tryd.ntmps11
    go_wp2_with fail
    go_ret
    exact ⟨rfl, Below.refl _ _⟩
  · have d1 : decide (i < 0) = false := by simp; omega
    by_cases h2 : 2147483647 < i
    · have d2 : decide (2147483647 < i) = true := by simp [h2]
      have ho : Nm.obj i k b = [] := by unfold Nm.obj; rw [if_neg (fun h => by have := h.1; unfold Nm.idly at this; omega)]
      rw [ho]
      clear ht ho
      go_enter Tryd.func11, Tryd.ntmps11
      go_wp2_with fail
      go_ret
      exact ⟨rfl, Below.refl _ _⟩
    · have d2 : decide (2147483647 < i) = false := by simp; omega
      cases h3 : Nm.kindly k with
      | false =>
        have ho : Nm.obj i k b = [] := by unfold Nm.obj; rw [if_neg (fun h => by rw [h3] at h; cases h.2.1)]
        rw [ho]
        rw [h3] at HJ
        clear ht ho h3
        go_enter Tryd.func11, Tryd.ntmps11
        go_wp2_with (first
          | (go_at_call 20; refine HJ.out.mono ?_; rintro e w1 ⟨rfl, hb1⟩; have HB1 := Lib.hid hb1; clear hb1)
          | fail)
        go_ret
        exact ⟨rfl, HB1.out⟩
      | true =>
        rw [h3] at HJ
        by_cases h4 : Nm.right b
        · have hb := h4
          unfold Nm.right at hb
          obtain ⟨bn, rfl⟩ := Int.eq_ofNat_of_zero_le hb.1
          obtain ⟨n, rfl⟩ := Int.eq_ofNat_of_zero_le (show 0 ≤ i by omega)
          have hr : ∀ W, Calls Tryd.prog 18 #[.int .i64 (bn : Int)] W fun e w' => e = .returned (.bool true) ∧ w' = W := fun W => by
            have := right_any (bn : Int) W
            rwa [show rightB (bn : Int) = true from decide_eq_true h4] at this
          have hd1 : ∀ W, PowTab W → Calls Tryd.prog 19 #[.int .i64 (n : Int), .int .i64 10] W fun e w' => e = .returned (str (Nm.dgs 10 n)) ∧ Below W.heap.size W w' := fun W hW => digits_any 9 n 10 rfl W (by omega) (by omega) hW
          have hd2 : ∀ W, PowTab W → Calls Tryd.prog 19 #[.int .i64 (bn : Int), .int .i64 13] W fun e w' => e = .returned (str (Nm.dgs 13 bn)) ∧ Below W.heap.size W w' := fun W hW => digits_any 12 bn 13 rfl W (by omega) (by omega) hW
          have HD1 := Lib.hid hd1
          have HD2 := Lib.hid hd2
          have HR := Lib.hid hr
          have ho : Nm.obj (n : Int) k (bn : Int) = Nm.seg4 ++ (Nm.dgs 10 n ++ (45 :: (k ++ (45 :: Nm.dgs 13 bn)))) := by
            unfold Nm.obj
            rw [if_pos ⟨by unfold Nm.idly; omega, h3, h4⟩]
            rfl
          have hl1 : (Nm.dgs 10 n).length = 10 := Nm.dgs_length _ _
          have hl2 : (Nm.dgs 13 bn).length = 13 := Nm.dgs_length _ _
          rw [ho, ← join_obj]
          have hk : k.length ≤ 8 := by
            have h3' := h3
            unfold Nm.kindly at h3'
            simp only [Bool.and_eq_true, decide_eq_true_eq] at h3'
            exact h3'.1.2
          have hlen : (Lib.join [[115, 101, 103], Nm.dgs 10 n, k, Nm.dgs 13 bn] [45]).length ≤ 140737488355328 := by
            rw [join_obj]
            simp [Nm.seg4, hl1, hl2]
            omega
          have HLEN := Lib.hid hlen
          generalize Nm.dgs 10 n = x1 at *
          generalize Nm.dgs 13 bn = x2 at *
          clear ht ho h3 hr hd1 hd2 h4 hb hk hl1 hl2 hlen
          go_enter Tryd.func11, Tryd.ntmps11
          go_wp2_with (first
            | (go_at_call 20; refine HJ.out.mono ?_; rintro e w1 ⟨rfl, hb1⟩; have HB1 := Lib.hid hb1; clear hb1)
            | (go_at_call 18; refine (HR.out w1).mono ?_; rintro e w1' ⟨rfl, rfl⟩)
            | (go_at_call 19; refine (HD2.out _ (HT.out.below HB2.out)).mono ?_; rintro e w3 ⟨rfl, hb3⟩; have HB3 := Lib.hid (HB2.out.trans (hb3.mono HB2.out.size)); clear hb3)
            | (go_at_call 19; refine (HD1.out _ (HT.out.below HB1.out)).mono ?_; rintro e w2 ⟨rfl, hb2⟩; have HB2 := Lib.hid (HB1.out.trans (hb2.mono HB1.out.size)); clear hb2)
            | (go_at_call 21; refine (join_any _ w3.heap.size 4 [[115, 101, 103], x1, k, x2] rfl (strs_at w3 [[115, 101, 103], x1, k, x2] _ _ _ rfl) (by simp) (by omega) HLEN.out).mono ?_; rintro e w4 ⟨rfl, hb4⟩; have HB4 := Lib.hid (HB3.out.trans ((((Below.refl _ w3).alloc (Nat.le_refl _) _).trans (hb4.mono (by simp))).mono HB3.out.size)); clear hb4)
            | fail)
          go_ret
          exact ⟨rfl, HB4.out⟩
        · have hr : ∀ W, Calls Tryd.prog 18 #[.int .i64 b] W fun e w' => e = .returned (.bool false) ∧ w' = W := fun W => by
            have := right_any b W
            rwa [show rightB b = false from decide_eq_false h4] at this
          have HR := Lib.hid hr
          have ho : Nm.obj i k b = [] := by unfold Nm.obj; rw [if_neg (fun h => h4 h.2.2)]
          rw [ho]
          clear ht ho h3 hr h4
          go_enter Tryd.func11, Tryd.ntmps11
          go_wp2_with (first
            | (go_at_call 20; refine HJ.out.mono ?_; rintro e w1 ⟨rfl, hb1⟩; have HB1 := Lib.hid hb1; clear hb1)
            | (go_at_call 18; refine (HR.out _).mono ?_; rintro e w1' ⟨rfl, rfl⟩)
            | fail)
          go_ret
          exact ⟨rfl, HB1.out⟩
end Go.Proofs.YtnnobfdpbdkceaaDoor
