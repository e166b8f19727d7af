/-
  The walk through RecBounds: at the bounds a batch may be, just beyond not.
-/
import Derived.Test.YthemdcdgiccjkaaDoorRSame
import Derived.Test.YthemdcdgiccjkaaDoorRTimes
import Derived.Test.YthemdcdgiccjkaaDoorIs
import Derived.RegionTactic
import Derived.ChangeAlike
import Derived.BigRegion
namespace Go.Proofs.YthemdcdgiccjkaaDoor
open Go.RowKit Crc

/-- What the switch leaves: a batch, in memory of the call's own. -/
structure Bnd (w0 w : World) (p : Nat → Addr) (B : Nat) (b : Rc.Bat) (c : Int) : Prop where
  ex : ∃ A cap, w.cell? ⟨B, 2, none⟩ = some (.slice A b.recs.length cap) ∧ IsBat w A cap b
  c0 : w.cell? ⟨B, 0, none⟩ = some (.int .i64 b.base)
  c1 : w.cell? ⟨B, 1, none⟩ = some (.int .i64 b.epoch)
  lt : B < w.heap.size
  below : Below w0.heap.size w0 w
  code : c = (Rc.bad b : Int)
  small : ∀ r ∈ b.recs, r.k.length ≤ 1000000 ∧ r.v.length ≤ 1000000
  few : b.recs.length ≤ 1000000

theorem one_bad (ba ep t : Int) (k v : List UInt8) : Rc.bad ⟨ba, ep, [⟨t, k, v⟩]⟩ = if ba < 0 ∨ 1099511627776 < ba + 1 ∨ ep < 0 ∨ 1073741824 < ep ∨ t < -1099511627776 ∨ 1099511627776 < t ∨ 64 < k.length ∨ 512 < v.length then 105 else 0 := by
  unfold Rc.bad
  rw [if_neg (by simp)]
  have e : ([⟨t, k, v⟩] : List Rc.Rec).all Rc.recOk = false ↔ (t < -1099511627776 ∨ 1099511627776 < t ∨ 64 < k.length ∨ 512 < v.length) := by
    simp [Rc.recOk]; omega
  have e' : (ba < 0 ∨ 1099511627776 < ba + (([⟨t, k, v⟩] : List Rc.Rec).length : Int) ∨ ep < 0 ∨ 1073741824 < ep ∨ ([⟨t, k, v⟩] : List Rc.Rec).all Rc.recOk = false) ↔ (ba < 0 ∨ 1099511627776 < ba + 1 ∨ ep < 0 ∨ 1073741824 < ep ∨ t < -1099511627776 ∨ 1099511627776 < t ∨ 64 < k.length ∨ 512 < v.length) := by
    rw [e]
    exact Iff.rfl
  by_cases h : ba < 0 ∨ 1099511627776 < ba + 1 ∨ ep < 0 ∨ 1073741824 < ep ∨ t < -1099511627776 ∨ 1099511627776 < t ∨ 64 < k.length ∨ 512 < v.length
  · rw [if_pos (e'.2 h), if_pos h]
  · rw [if_neg (fun hh => h (e'.1 hh)), if_neg h]
theorem Bnd.one {w0 W : World} {p : Nat → Addr} {R : Nat} (ba ep t : Int) (k v : List UInt8) (Ak : Option Addr) (ck : Nat) (Av : Option Addr) (cv : Nat) (c : Int)
    (h0 : W.cell? ⟨R + 1, 0, none⟩ = some (.int .i64 ba)) (h1 : W.cell? ⟨R + 1, 1, none⟩ = some (.int .i64 ep)) (h2 : W.cell? ⟨R + 1, 2, none⟩ = some (.slice (some ⟨R, 0, none⟩) 1 1))
    (g0 : W.cell? ⟨R, 0, none⟩ = some (.int .i64 t)) (g1 : W.cell? ⟨R, 1, none⟩ = some (.slice Ak k.length ck)) (g2 : W.cell? ⟨R, 2, none⟩ = some (.slice Av v.length cv)) (hk : Arg W Ak ck k) (hv : Arg W Av cv v)
    (hba : -9223372036854775808 ≤ ba ∧ ba ≤ 9223372036854775807) (hep : -9223372036854775808 ≤ ep ∧ ep ≤ 9223372036854775807) (hkl : k.length ≤ 1000000) (hvl : v.length ≤ 1000000) (hb : Below w0.heap.size w0 W)
    (hc : c = if ba < 0 ∨ 1099511627776 < ba + 1 ∨ ep < 0 ∨ 1073741824 < ep ∨ t < -1099511627776 ∨ 1099511627776 < t ∨ 64 < k.length ∨ 512 < v.length then 105 else 0) : Bnd w0 W p (R + 1) ⟨ba, ep, [⟨t, k, v⟩]⟩ c := by
  have hl : R + 1 < W.heap.size := cell_lt h0
  refine ⟨⟨_, _, h2, by simp, by omega, .inr ⟨R, 0, rfl, by omega, fun j hj => ?_⟩, hba, hep⟩, h0, h1, hl, hb, ?_, fun r hr => ?_, by simp⟩
  · obtain rfl : j = 0 := by simp at hj; exact hj
    exact ⟨Ak, ck, Av, cv, g0, g1, g2, hk, hv⟩
  · rw [hc, one_bad]; split <;> rfl
  · simp at hr; subst hr; exact ⟨hkl, hvl⟩

theorem cell_alloc_at (w : World) (C : Array Value) (t : TypeId) (n j : Nat) (hn : n = w.heap.size) : (w.alloc (.cells C t)).cell? ⟨n, j, none⟩ = C[j]? := by
  subst hn; exact World.cell?_alloc_mark _ _ _ _ _
theorem madeCells_get (z : Array Value) (n i : Nat) (h : i < n) : (madeCells z n)[i]? = some (z[i % z.size]!) := by
  unfold madeCells
  rw [Array.getElem?_map, Array.getElem?_range]
  simp [h]
theorem make_recs (N : Nat) (hN : N ≤ 1000) : ∃ CS : Array Value, (∀ k j, k < N → j < 3 → CS[k * 3 + j]? = (#[.int .i64 0, .slice none 0 0, .slice none 0 0] : Array Value)[j]?) ∧
    ∀ W, (Instr.makeSlice 24 (.int .i64 (N : Int)) (.int .i64 (N : Int))).run Tryd.prog W = .ok (.slice (some ⟨W.heap.size, 0, none⟩) N N) (W.alloc (.cells CS 57)) := by
  obtain ⟨i, hi, hz, hs1, hby⟩ := info_parts record_info
  refine ⟨madeCells #[.int .i64 0, .slice none 0 0, .slice none 0 0] (N * 3), fun k j hk hj => ?_, fun W => ?_⟩
  · rw [madeCells_get _ _ _ (by omega)]
    have e : (k * 3 + j) % (#[.int .i64 0, .slice none 0 0, .slice none 0 0] : Array Value).size = j := by
      show (k * 3 + j) % 3 = j
      omega
    rw [e]
    match j, hj with
    | 0, _ => rfl
    | 1, _ => rfl
    | 2, _ => rfl
  · have h := run_make (P := Tryd.prog) W 24 57 i _ Tryd.underlying24 hi hz .i64 .i64 (N : Int) (N : Int) (by omega) (by omega) (by rw [hby]; omega) (by omega)
    rw [h, hs1]
    rfl
theorem make_bytes (N : Nat) (hN : N ≤ 1000) : ∃ CS : Array Value, (∀ k, k < N → CS[k]? = some (.int .u8 0)) ∧
    ∀ W, (Instr.makeSlice 22 (.int .i64 (N : Int)) (.int .i64 (N : Int))).run Tryd.prog W = .ok (.slice (some ⟨W.heap.size, 0, none⟩) N N) (W.alloc (.cells CS 5)) := by
  obtain ⟨i, hi, hz, hs1, hby⟩ := info_parts byte_info
  refine ⟨madeCells #[.int .u8 0] (N * 1), fun k hk => ?_, fun W => ?_⟩
  · rw [madeCells_get _ _ _ (by omega)]
    have e : k % (#[.int .u8 0] : Array Value).size = 0 := by
      show k % 1 = 0
      omega
    rw [e]
    rfl
  · have h := run_make (P := Tryd.prog) W 22 5 i _ Tryd.underlying22 hi hz .i64 .i64 (N : Int) (N : Int) (by omega) (by omega) (by rw [hby]; omega) (by omega)
    rw [h, hs1]
    rfl
theorem Arg.zeros {w : World} {g N : Nat} (hN : N ≤ 1000) (hg : g < w.heap.size) (h : ∀ k, k < N → w.cell? ⟨g, k, none⟩ = some (.int .u8 0)) : Arg w (some ⟨g, 0, none⟩) N (List.replicate N 0) := by
  refine ⟨by simp, by omega, fun e => (by cases e), .inr ⟨g, 0, rfl, hg, fun k hk => ?_⟩⟩
  rw [List.length_replicate] at hk
  rw [Nat.zero_add, h k hk]
  simp [List.getD, hk, B]

theorem Bnd.zeros {w0 W : World} {p : Nat → Addr} {R g : Nat} (N : Nat) (c : Int) (h0 : W.cell? ⟨R + 1, 0, none⟩ = some (.int .i64 0)) (h1 : W.cell? ⟨R + 1, 1, none⟩ = some (.int .i64 0)) (h2 : W.cell? ⟨R + 1, 2, none⟩ = some (.slice (some ⟨g, 0, none⟩) N N))
    (hg : g < W.heap.size) (hc : ∀ k j, k < N → j < 3 → W.cell? ⟨g, k * 3 + j, none⟩ = (#[.int .i64 0, .slice none 0 0, .slice none 0 0] : Array Value)[j]?) (hb : Below w0.heap.size w0 W) (hN0 : 0 < N) (hN : N ≤ 1000) (hcc : c = if 64 < N then 104 else 0) :
    Bnd w0 W p (R + 1) ⟨0, 0, List.replicate N ⟨0, [], []⟩⟩ c := by
  have hl : R + 1 < W.heap.size := cell_lt h0
  have hnil : Arg W none 0 [] := ⟨Nat.le_refl _, by omega, fun _ => rfl, .inl rfl⟩
  refine ⟨⟨_, _, by rw [List.length_replicate]; exact h2, by rw [List.length_replicate]; exact Nat.le_refl _, by omega, .inr ⟨g, 0, rfl, hg, fun j hj => ?_⟩, by show (_ : Int) ≤ 0 ∧ (0 : Int) ≤ _; omega, by show (_ : Int) ≤ 0 ∧ (0 : Int) ≤ _; omega⟩, h0, h1, hl, hb, ?_, fun r hr => ?_, by rw [List.length_replicate]; omega⟩
  · rw [List.length_replicate] at hj
    have e : (List.replicate N (⟨0, [], []⟩ : Rc.Rec)).getD j default = ⟨0, [], []⟩ := by simp [List.getD, hj]
    rw [e]
    refine ⟨none, 0, none, 0, ?_, ?_, ?_, hnil, hnil⟩
    · have := hc j 0 hj (by omega); rw [Nat.add_zero] at this; rw [Nat.zero_add]; exact this
    · have := hc j 1 hj (by omega); rw [Nat.zero_add]; exact this
    · have := hc j 2 hj (by omega); rw [Nat.zero_add]; exact this
  · rw [hcc]
    unfold Rc.bad
    rw [List.length_replicate]
    by_cases h64 : 64 < N
    · rw [if_pos h64, if_pos (.inr h64)]; rfl
    · have hall : (List.replicate N (⟨0, [], []⟩ : Rc.Rec)).all Rc.recOk = true := by
        rw [List.all_eq_true]
        intro r hr
        rw [List.eq_of_mem_replicate hr]; rfl
      have hno : ¬ ((0 : Int) < 0 ∨ 1099511627776 < (0 : Int) + (N : Int) ∨ (0 : Int) < 0 ∨ (1073741824 : Int) < 0 ∨ (List.replicate N (⟨0, [], []⟩ : Rc.Rec)).all Rc.recOk = false) := by
        rw [hall]
        intro h
        rcases h with h | h | h | h | h
        · omega
        · omega
        · omega
        · omega
        · cases h
      rw [if_neg h64, if_neg (by omega), if_neg hno]; rfl
  · rw [List.eq_of_mem_replicate hr]; simp

set_option maxRecDepth 100000 in
set_option maxHeartbeats 4000000 in
theorem rbounds_walk (what n : Int) (w : World) (p : Nat → Addr) (hs : Sents w p) (ht : Tabs w) (hw1 : -9223372036854775808 ≤ what) (hw2 : what ≤ 9223372036854775807) (hn1 : -9223372036854775808 ≤ n) (hn2 : n ≤ 9223372036854775807) :
    Calls Tryd.prog 7 #[.int .i64 what, .int .i64 n] w fun e w' => e = .returned (.bool true) ∧ Below w.heap.size w w' := by
  have HF := hide (rfirst_any w p hs.five.two ht)
  have HS := hide hs
  have HT := hide ht
  have HN1 := hide (fun W => number_any n 8 W (by omega) (by omega) hn1 hn2)
  have HN2 := hide (fun W => number_any what 7 W (by omega) (by omega) hw1 hw2)
  have m1 := Int.emod_nonneg n (show (8 : Int) ≠ 0 by omega)
  have m2 := Int.emod_lt_of_pos n (show (0 : Int) < 8 by omega)
  have q1 := Int.emod_nonneg what (show (7 : Int) ≠ 0 by omega)
  have q2 := Int.emod_lt_of_pos what (show (0 : Int) < 7 by omega)
  clear hs ht hn1 hn2 hw1 hw2
  generalize n % 8 = m at *
  generalize what % 7 = q at *
  go_enter Tryd.func7, Tryd.ntmps7
  go_wp2_with fail
  refine HF.out.mono ?_
  rintro e w1 ⟨rfl, hbw1⟩
  have HB1 := hide hbw1
  clear hbw1 HF
  go_wp2_with fail
  refine (HN1.out _).mono ?_
  rintro e w2 ⟨rfl, rfl⟩
  clear HN1
  go_upto_region 7 with fail
  obtain ⟨R, hR⟩ : ∃ R, R = w1.heap.size := ⟨_, rfl⟩
  obtain ⟨w3, hw3⟩ : ∃ w3, w3 = (w1.alloc (.cells #[.int .i64 0, .slice none 0 0, .slice none 0 0] 57)).alloc (.cells #[.int .i64 0, .int .i64 0, .slice (some ⟨w1.heap.size, 0, none⟩) 1 1] 26) := ⟨_, rfl⟩
  have hz3 : w3.heap.size = R + 2 := by rw [hw3, hR]; simp
  have hb3 : Below w1.heap.size w1 w3 := by rw [hw3]; exact balloc (balloc (Below.refl _ _) _) _
  have r0 : ∀ k, w3.cell? ⟨R, k, none⟩ = (#[.int .i64 0, .slice none 0 0, .slice none 0 0] : Array Value)[k]? := fun k => by
    rw [hw3, hR, World.cell?_alloc_lt _ _ _ (by simp), World.cell?_alloc_mark]
  have b0 : ∀ k, w3.cell? ⟨R + 1, k, none⟩ = (#[.int .i64 0, .int .i64 0, .slice (some ⟨R, 0, none⟩) 1 1] : Array Value)[k]? := fun k => by
    have h1 : w1.heap.size + 1 = (w1.alloc (.cells #[.int .i64 0, .slice none 0 0, .slice none 0 0] 57)).heap.size := by simp
    rw [hw3, hR, h1, World.cell?_alloc_mark]
  have fr0 : ∀ k, w3.frozen? ⟨R, k, none⟩ = false := fun k => by rw [hw3, hR]; simp [go_sem]
  have fr1 : ∀ k, w3.frozen? ⟨R + 1, k, none⟩ = false := fun k => by rw [hw3, hR]; simp [go_sem]
  rw [← hw3, ← hR]
  have HB3 := hide (HB1.out.trans (hb3.mono HB1.out.size))
  have hRw : w.heap.size ≤ R := by rw [hR]; exact HB1.out.size
  clear hw3 hR hb3
  go_wp2_with fail
  refine (HN2.out _).mono ?_
  rintro e w4 ⟨rfl, rfl⟩
  clear HN2
  go_upto_block 0 with fail
  go_cut [7] (fun c wx => ∃ b z, c = .int .i64 z ∧ Bnd w wx p (R + 1) b z)
  case first =>
    have hnil : ∀ W, Arg W none 0 [] := fun W => ⟨Nat.le_refl _, by omega, fun _ => rfl, .inl rfl⟩
    have b00 := b0 0
    have b01 := b0 1
    have b02 := b0 2
    have r00 := r0 0
    have r01 := r0 1
    have r02 := r0 2
    simp only [List.getElem?_toArray, List.getElem?_cons_zero, List.getElem?_cons_succ] at b00 b01 b02 r00 r01 r02
    have f0 := fr1 0
    have f1 := fr1 1
    have f2 := fr1 2
    have g0 := fr0 0
    have g1 := fr0 1
    have g2 := fr0 2
    have hset : ∀ b k x, R ≤ b → Below w.heap.size w (w3.setCell ⟨b, k, none⟩ x) := fun b k x hb => HB3.out.grown (grown_set w3 b k x) HB3.out.size (fun j hj => by injection hj with hj; omega)
    have HSET := hide hset
    clear hset b0 r0 fr0 fr1
    have hq : q = 0 ∨ q = 1 ∨ q = 2 ∨ q = 3 ∨ q = 4 ∨ q = 5 ∨ q = 6 := by omega
    rcases hq with rfl | rfl | rfl | rfl | rfl | rfl | rfl
    · obtain ⟨N, hN⟩ := Int.eq_ofNat_of_zero_le (show 0 ≤ 64 + (m - 4) by omega)
      obtain ⟨CS, hcs, hmk⟩ := make_recs N (by omega)
      have hws : (w3.setCell ⟨R + 1, 2, none⟩ (.slice (some ⟨R + 2, 0, none⟩) N N)).heap.size = R + 2 := by simp [World.setCell, hz3]
      have hbnd : ∀ c, (c : Int) = (if 64 < N then 104 else 0) → Bnd w ((w3.setCell ⟨R + 1, 2, none⟩ (.slice (some ⟨R + 2, 0, none⟩) N N)).alloc (.cells CS 57)) p (R + 1) ⟨0, 0, List.replicate N ⟨0, [], []⟩⟩ c := fun c hc => by
        have ho : ∀ k, ((w3.setCell ⟨R + 1, 2, none⟩ (.slice (some ⟨R + 2, 0, none⟩) N N)).alloc (.cells CS 57)).cell? ⟨R + 1, k, none⟩ = (w3.setCell ⟨R + 1, 2, none⟩ (.slice (some ⟨R + 2, 0, none⟩) N N)).cell? ⟨R + 1, k, none⟩ := fun k => World.cell?_alloc_lt _ _ ⟨R + 1, k, none⟩ (by show R + 1 < _; omega)
        refine Bnd.zeros (g := R + 2) N c ((ho 0).trans ((World.cell?_setCell_other _ _ _ _ (by simp)).trans b00)) ((ho 1).trans ((World.cell?_setCell_other _ _ _ _ (by simp)).trans b01)) ((ho 2).trans (World.cell?_setCell_same _ _ _ b02)) (by simp; omega) (fun k j hk hj => ?_) ?_ (by omega) (by omega) hc
        · rw [cell_alloc_at _ _ _ _ _ hws.symm]; exact hcs k j hk hj
        · exact (HSET.out (R + 1) 2 _ (by omega)).trans ((balloc (Below.refl _ _) _).mono (HSET.out (R + 1) 2 _ (by omega)).size)
      have HBND := hide hbnd
      clear hbnd hws hcs
      by_cases h5 : 4 < m
      · go_wp2_with fail
        go_meet
        exact ⟨_, 104, rfl, HBND.out 104 (by rw [if_pos (by omega)])⟩
      · go_wp2_with fail
        go_meet
        exact ⟨_, 0, rfl, HBND.out 0 (by rw [if_neg (by omega)])⟩
    · obtain ⟨N, hN⟩ := Int.eq_ofNat_of_zero_le (show 0 ≤ 64 + (m - 4) by omega)
      obtain ⟨CS, hcs, hmk⟩ := make_bytes N (by omega)
      have hwr : IntKind.i64.wrap (N : Int) = N := by rw [IntKind.wrap_i64]; omega
      have hws : (w3.setCell ⟨R, 1, none⟩ (.slice (some ⟨R + 2, 0, none⟩) N N)).heap.size = R + 2 := by simp [World.setCell, hz3]
      have hbnd : ∀ c, (c : Int) = (if 64 < N then 105 else 0) → Bnd w ((w3.setCell ⟨R, 1, none⟩ (.slice (some ⟨R + 2, 0, none⟩) N N)).alloc (.cells CS 5)).drew p (R + 1) ⟨0, 0, [⟨0, List.replicate N 0, []⟩]⟩ c := fun c hc => by
        have ho : ∀ b k, b < R + 2 → ((w3.setCell ⟨R, 1, none⟩ (.slice (some ⟨R + 2, 0, none⟩) N N)).alloc (.cells CS 5)).drew.cell? ⟨b, k, none⟩ = (w3.setCell ⟨R, 1, none⟩ (.slice (some ⟨R + 2, 0, none⟩) N N)).cell? ⟨b, k, none⟩ := fun b k hb => World.cell?_alloc_lt _ _ ⟨b, k, none⟩ (by show b < _; omega)
        have hbl : Below w.heap.size w ((w3.setCell ⟨R, 1, none⟩ (.slice (some ⟨R + 2, 0, none⟩) N N)).alloc (.cells CS 5)).drew := ((HSET.out R 1 _ (by omega)).trans ((balloc (Below.refl _ _) _).mono (HSET.out R 1 _ (by omega)).size)).drew
        refine Bnd.one 0 0 0 (List.replicate N 0) [] (some ⟨R + 2, 0, none⟩) N none 0 c ((ho _ 0 (by omega)).trans ((World.cell?_setCell_other _ _ _ _ (by simp)).trans b00)) ((ho _ 1 (by omega)).trans ((World.cell?_setCell_other _ _ _ _ (by simp)).trans b01)) ((ho _ 2 (by omega)).trans ((World.cell?_setCell_other _ _ _ _ (by simp)).trans b02)) ((ho _ 0 (by omega)).trans ((World.cell?_setCell_other _ _ _ _ (by simp)).trans r00)) ((ho _ 1 (by omega)).trans ((World.cell?_setCell_same _ _ _ r01).trans (by rw [List.length_replicate]))) ((ho _ 2 (by omega)).trans ((World.cell?_setCell_other _ _ _ _ (by simp)).trans r02)) (Arg.zeros (by omega) (by show R + 2 < ((w3.setCell ⟨R, 1, none⟩ (.slice (some ⟨R + 2, 0, none⟩) N N)).alloc (.cells CS 5)).heap.size; simp; omega) fun k hk => ?_) (hnil _) (by omega) (by omega) (by rw [List.length_replicate]; omega) (by simp) hbl ?_
        · show ((w3.setCell ⟨R, 1, none⟩ (.slice (some ⟨R + 2, 0, none⟩) N N)).alloc (.cells CS 5)).cell? ⟨R + 2, k, none⟩ = _
          rw [cell_alloc_at _ _ _ _ _ hws.symm]; exact hcs k hk
        · rw [hc, List.length_replicate]
          by_cases h : 64 < N
          · rw [if_pos h, if_pos (by omega)]
          · rw [if_neg h, if_neg (by simp; omega)]
      have HBND := hide hbnd
      clear hbnd hws hcs
      go_upto_region 16 with fail
      go_region
      by_cases h5 : 4 < m
      · go_wp2_with fail
        go_meet
        exact ⟨_, 105, rfl, HBND.out 105 (by rw [if_pos (by omega)])⟩
      · go_wp2_with fail
        go_meet
        exact ⟨_, 0, rfl, HBND.out 0 (by rw [if_neg (by omega)])⟩
    · obtain ⟨N, hN⟩ := Int.eq_ofNat_of_zero_le (show 0 ≤ 512 + (m - 4) by omega)
      obtain ⟨CS, hcs, hmk⟩ := make_bytes N (by omega)
      have hwr : IntKind.i64.wrap (N : Int) = N := by rw [IntKind.wrap_i64]; omega
      have hws : (w3.setCell ⟨R, 2, none⟩ (.slice (some ⟨R + 2, 0, none⟩) N N)).heap.size = R + 2 := by simp [World.setCell, hz3]
      have hbnd : ∀ c, (c : Int) = (if 512 < N then 105 else 0) → Bnd w ((w3.setCell ⟨R, 2, none⟩ (.slice (some ⟨R + 2, 0, none⟩) N N)).alloc (.cells CS 5)).drew p (R + 1) ⟨0, 0, [⟨0, [], List.replicate N 0⟩]⟩ c := fun c hc => by
        have ho : ∀ b k, b < R + 2 → ((w3.setCell ⟨R, 2, none⟩ (.slice (some ⟨R + 2, 0, none⟩) N N)).alloc (.cells CS 5)).drew.cell? ⟨b, k, none⟩ = (w3.setCell ⟨R, 2, none⟩ (.slice (some ⟨R + 2, 0, none⟩) N N)).cell? ⟨b, k, none⟩ := fun b k hb => World.cell?_alloc_lt _ _ ⟨b, k, none⟩ (by show b < _; omega)
        have hbl : Below w.heap.size w ((w3.setCell ⟨R, 2, none⟩ (.slice (some ⟨R + 2, 0, none⟩) N N)).alloc (.cells CS 5)).drew := ((HSET.out R 2 _ (by omega)).trans ((balloc (Below.refl _ _) _).mono (HSET.out R 2 _ (by omega)).size)).drew
        refine Bnd.one 0 0 0 [] (List.replicate N 0) none 0 (some ⟨R + 2, 0, none⟩) N c ((ho _ 0 (by omega)).trans ((World.cell?_setCell_other _ _ _ _ (by simp)).trans b00)) ((ho _ 1 (by omega)).trans ((World.cell?_setCell_other _ _ _ _ (by simp)).trans b01)) ((ho _ 2 (by omega)).trans ((World.cell?_setCell_other _ _ _ _ (by simp)).trans b02)) ((ho _ 0 (by omega)).trans ((World.cell?_setCell_other _ _ _ _ (by simp)).trans r00)) ((ho _ 1 (by omega)).trans ((World.cell?_setCell_other _ _ _ _ (by simp)).trans r01)) ((ho _ 2 (by omega)).trans ((World.cell?_setCell_same _ _ _ r02).trans (by rw [List.length_replicate]))) (hnil _) (Arg.zeros (by omega) (by show R + 2 < ((w3.setCell ⟨R, 2, none⟩ (.slice (some ⟨R + 2, 0, none⟩) N N)).alloc (.cells CS 5)).heap.size; simp; omega) fun k hk => ?_) (by omega) (by omega) (by simp) (by rw [List.length_replicate]; omega) hbl ?_
        · show ((w3.setCell ⟨R, 2, none⟩ (.slice (some ⟨R + 2, 0, none⟩) N N)).alloc (.cells CS 5)).cell? ⟨R + 2, k, none⟩ = _
          rw [cell_alloc_at _ _ _ _ _ hws.symm]; exact hcs k hk
        · rw [hc, List.length_replicate]
          by_cases h : 512 < N
          · rw [if_pos h, if_pos (by omega)]
          · rw [if_neg h, if_neg (by simp; omega)]
      have HBND := hide hbnd
      clear hbnd hws hcs
      go_upto_region 20 with fail
      go_region
      by_cases h5 : 4 < m
      · go_wp2_with fail
        go_meet
        exact ⟨_, 105, rfl, HBND.out 105 (by rw [if_pos (by omega)])⟩
      · go_wp2_with fail
        go_meet
        exact ⟨_, 0, rfl, HBND.out 0 (by rw [if_neg (by omega)])⟩
    · by_cases hm : 4 ≤ m
      · go_wp2_with fail
        go_meet
        exact ⟨_, 105, rfl, Bnd.one (1099511627776 + (m - 4)) 0 0 [] [] none 0 none 0 105 (World.cell?_setCell_same _ _ _ b00) ((World.cell?_setCell_other _ _ _ _ (by simp)).trans b01) ((World.cell?_setCell_other _ _ _ _ (by simp)).trans b02) ((World.cell?_setCell_other _ _ _ _ (by simp)).trans r00) ((World.cell?_setCell_other _ _ _ _ (by simp)).trans r01) ((World.cell?_setCell_other _ _ _ _ (by simp)).trans r02) (hnil _) (hnil _) (by omega) (by omega) (by simp) (by simp) (HSET.out _ _ _ (by omega)) (by rw [if_pos (by omega)])⟩
      · go_wp2_with fail
        go_meet
        exact ⟨_, 0, rfl, Bnd.one (1099511627776 + (m - 4)) 0 0 [] [] none 0 none 0 0 (World.cell?_setCell_same _ _ _ b00) ((World.cell?_setCell_other _ _ _ _ (by simp)).trans b01) ((World.cell?_setCell_other _ _ _ _ (by simp)).trans b02) ((World.cell?_setCell_other _ _ _ _ (by simp)).trans r00) ((World.cell?_setCell_other _ _ _ _ (by simp)).trans r01) ((World.cell?_setCell_other _ _ _ _ (by simp)).trans r02) (hnil _) (hnil _) (by omega) (by omega) (by simp) (by simp) (HSET.out _ _ _ (by omega)) (by rw [if_neg (by simp; omega)])⟩
    · by_cases hm : 4 < m
      · go_wp2_with fail
        go_meet
        exact ⟨_, 105, rfl, Bnd.one 0 (1073741824 + (m - 4)) 0 [] [] none 0 none 0 105 ((World.cell?_setCell_other _ _ _ _ (by simp)).trans b00) (World.cell?_setCell_same _ _ _ b01) ((World.cell?_setCell_other _ _ _ _ (by simp)).trans b02) ((World.cell?_setCell_other _ _ _ _ (by simp)).trans r00) ((World.cell?_setCell_other _ _ _ _ (by simp)).trans r01) ((World.cell?_setCell_other _ _ _ _ (by simp)).trans r02) (hnil _) (hnil _) (by omega) (by omega) (by simp) (by simp) (HSET.out _ _ _ (by omega)) (by rw [if_pos (by omega)])⟩
      · go_wp2_with fail
        go_meet
        exact ⟨_, 0, rfl, Bnd.one 0 (1073741824 + (m - 4)) 0 [] [] none 0 none 0 0 ((World.cell?_setCell_other _ _ _ _ (by simp)).trans b00) (World.cell?_setCell_same _ _ _ b01) ((World.cell?_setCell_other _ _ _ _ (by simp)).trans b02) ((World.cell?_setCell_other _ _ _ _ (by simp)).trans r00) ((World.cell?_setCell_other _ _ _ _ (by simp)).trans r01) ((World.cell?_setCell_other _ _ _ _ (by simp)).trans r02) (hnil _) (hnil _) (by omega) (by omega) (by simp) (by simp) (HSET.out _ _ _ (by omega)) (by rw [if_neg (by simp; omega)])⟩
    · by_cases hm : 4 < m
      · go_wp2_with fail
        go_meet
        exact ⟨_, 105, rfl, Bnd.one 0 0 (1099511627776 + (m - 4)) [] [] none 0 none 0 105 ((World.cell?_setCell_other _ _ _ _ (by simp)).trans b00) ((World.cell?_setCell_other _ _ _ _ (by simp)).trans b01) ((World.cell?_setCell_other _ _ _ _ (by simp)).trans b02) (World.cell?_setCell_same _ _ _ r00) ((World.cell?_setCell_other _ _ _ _ (by simp)).trans r01) ((World.cell?_setCell_other _ _ _ _ (by simp)).trans r02) (hnil _) (hnil _) (by omega) (by omega) (by simp) (by simp) (HSET.out _ _ _ (by omega)) (by rw [if_pos (by omega)])⟩
      · go_wp2_with fail
        go_meet
        exact ⟨_, 0, rfl, Bnd.one 0 0 (1099511627776 + (m - 4)) [] [] none 0 none 0 0 ((World.cell?_setCell_other _ _ _ _ (by simp)).trans b00) ((World.cell?_setCell_other _ _ _ _ (by simp)).trans b01) ((World.cell?_setCell_other _ _ _ _ (by simp)).trans b02) (World.cell?_setCell_same _ _ _ r00) ((World.cell?_setCell_other _ _ _ _ (by simp)).trans r01) ((World.cell?_setCell_other _ _ _ _ (by simp)).trans r02) (hnil _) (hnil _) (by omega) (by omega) (by simp) (by simp) (HSET.out _ _ _ (by omega)) (by rw [if_neg (by simp; omega)])⟩
    · by_cases hm : m < 4
      · go_wp2_with fail
        go_meet
        exact ⟨_, 105, rfl, Bnd.one 0 0 (-1099511627776 + (m - 4)) [] [] none 0 none 0 105 ((World.cell?_setCell_other _ _ _ _ (by simp)).trans b00) ((World.cell?_setCell_other _ _ _ _ (by simp)).trans b01) ((World.cell?_setCell_other _ _ _ _ (by simp)).trans b02) (World.cell?_setCell_same _ _ _ r00) ((World.cell?_setCell_other _ _ _ _ (by simp)).trans r01) ((World.cell?_setCell_other _ _ _ _ (by simp)).trans r02) (hnil _) (hnil _) (by omega) (by omega) (by simp) (by simp) (HSET.out _ _ _ (by omega)) (by rw [if_pos (by omega)])⟩
      · go_wp2_with fail
        go_meet
        exact ⟨_, 0, rfl, Bnd.one 0 0 (-1099511627776 + (m - 4)) [] [] none 0 none 0 0 ((World.cell?_setCell_other _ _ _ _ (by simp)).trans b00) ((World.cell?_setCell_other _ _ _ _ (by simp)).trans b01) ((World.cell?_setCell_other _ _ _ _ (by simp)).trans b02) (World.cell?_setCell_same _ _ _ r00) ((World.cell?_setCell_other _ _ _ _ (by simp)).trans r01) ((World.cell?_setCell_other _ _ _ _ (by simp)).trans r02) (hnil _) (hnil _) (by omega) (by omega) (by simp) (by simp) (HSET.out _ _ _ (by omega)) (by rw [if_neg (by simp; omega)])⟩
  case rest =>
    obtain ⟨b, z, rfl, hbnd⟩ := hcut
    have HBN := hide hbnd
    obtain ⟨A, cap, c2, hib⟩ := hbnd.ex
    have c0 := hbnd.c0
    have c1 := hbnd.c1
    have hlt := hbnd.lt
    have HIB := hide hib
    have hbel := hbnd.below
    have HWC := hide hbel
    have HSC := hide (HS.out.below hbel)
    have HTC := hide (HT.out.below hbel (Nat.le_refl _))
    have HCD := hide hbnd.code
    have HSM := hide hbnd.small
    have hfew := hbnd.few
    have HST := hide (fun W (hw : Below wc.heap.size wc W) => And.intro ((hw.cell (p := ⟨R + 1, 0, none⟩) hlt).trans c0) (And.intro ((hw.cell (p := ⟨R + 1, 1, none⟩) hlt).trans c1) ((hw.cell (p := ⟨R + 1, 2, none⟩) hlt).trans c2)))
    clear hbnd hib hbel b0 r0 fr0 fr1 HB3 HB1
    by_cases hbad : Rc.bad b = 0
    · have hg := (Rc.bad_good b).1 hbad
      have hz0 : z = 0 := by have := HCD.out; rw [hbad] at this; exact this
      subst hz0
      have HBY := hide (batBytes_any b A cap b.recs.length wc p HIB.out HSC.out.five.two HTC.out rfl hg)
      have HRG := hide (fun A cap n W h1 h2 h3 h4 => read_good b hg A cap n W p h1 h2 h3 h4)
      have HSZ := hide (fun W (hw : Below wc.heap.size wc W) => size_any_bat b A cap b.recs.length W p (HIB.out.below hw (Nat.le_refl _)) (HSC.out.five.two.below hw) rfl)
      rw [if_pos hbad] at HSZ
      have HSB := hide (fun A1 A2 c1 c2 W h1 h2 => sameBatch_eq b A1 A2 c1 c2 b.recs.length W rfl hfew h1 h2 HSM.out)
      clear hg hbad
      generalize Rc.bytes b = bs at *
      have u1 : ((bs.length : Int) == bs.length) = true := by simp
      go_wp2_with fail
      refine HBY.out.mono ?_
      rintro e wd ⟨vx, rfl, hox, hbx⟩
      obtain ⟨A5, c5, rfl, ha5⟩ := hox.arg
      have HBX := hide hbx
      have HRD := hide (HRG.out A5 c5 bs.length wd rfl ha5 (HSC.out.five.below hbx) (HTC.out.below hbx (Nat.le_refl _)))
      clear hox hbx ha5 HBY c0 c1 c2
      go_wp2_with fail
      refine HRD.out.mono ?_
      rintro e we ⟨A6, c6, rfl, hnb, hbe⟩
      have HBE := hide (HBX.out.trans (hbe.mono HBX.out.size))
      have HNB := hide hnb.isBat
      clear hnb hbe HRD HBX
      go_upto_region 39 with fail
      obtain ⟨k0, k1, k2⟩ := made3 we (.int .i64 b.base) (.int .i64 b.epoch) (.slice A6 b.recs.length c6) 26
      have hal : Below we.heap.size we (we.alloc (.cells #[.int .i64 b.base, .int .i64 b.epoch, .slice A6 b.recs.length c6] 26)) := balloc (Below.refl _ _) _
      have hbf := HBE.out.trans (hal.mono HBE.out.size)
      have HBF := hide hbf
      have HIBY := hide (HNB.out.below hal (Nat.le_refl _))
      obtain ⟨d0, d1, d2⟩ := HST.out _ hbf
      obtain ⟨gy, hgy⟩ : ∃ gy, gy = we.heap.size := ⟨_, rfl⟩
      rw [← hgy] at k0 k1 k2 ⊢
      clear hgy hal hbf
      generalize we.alloc (.cells #[.int .i64 b.base, .int .i64 b.epoch, .slice A6 b.recs.length c6] 26) = wf at *
      have HSBF := hide (HSB.out A6 A c6 cap wf HIBY.out.recs (HIB.out.below HBF.out (Nat.le_refl _)).recs)
      go_wp2_with fail
      refine HSBF.out.mono ?_
      rintro e wg ⟨rfl, hbg⟩
      have hbg2 := HBF.out.trans (hbg.mono HBF.out.size)
      have HBG := hide hbg2
      obtain ⟨d0', d1', d2'⟩ := HST.out _ hbg2
      clear hbg hbg2 d0 d1 d2 k0 k1 k2 HSBF
      go_wp2_with fail
      refine (HSZ.out wg HBG.out).mono ?_
      rintro e wh ⟨rfl, hbh⟩
      have HBH := hide (HWC.out.trans ((HBG.out.trans (hbh.mono HBG.out.size)).mono HWC.out.size))
      clear hbh d0' d1' d2'
      go_wp2_with fail
      go_ret
      exact ⟨rfl, HBH.out⟩
    · have hcs := Rc.bad_cases b
      have hzz : (((101 + (Rc.bad b - 101) : Nat) : Int) = z) := by have := HCD.out; omega
      have HBY := hide (batBytes_bad b A cap b.recs.length wc p HIB.out HSC.out.five.two rfl hbad)
      have HSZ := hide (fun W (hw : Below wc.heap.size wc W) => size_any_bat b A cap b.recs.length W p (HIB.out.below hw (Nat.le_refl _)) (HSC.out.five.two.below hw) rfl)
      rw [if_neg hbad] at HSZ
      have HIS := hide (fun W (hw : Below wc.heap.size wc W) => is_sent W p (HSC.out.below hw) (Rc.bad b - 101) (by omega) z)
      rw [decide_eq_true hzz] at HIS
      have hz1 : (z != 0) = true := by simp; omega
      unfold errV at HBY HIS
      generalize (.pointer (some (p (Rc.bad b - 101))) : Value) = xe at *
      clear hbad hcs hzz HCD
      go_wp2_with fail
      refine HBY.out.mono ?_
      rintro e wd ⟨rfl, hbx⟩
      have HBX := hide hbx
      clear hbx HBY c0 c1 c2
      go_wp2_with fail
      refine (HIS.out wd HBX.out).mono ?_
      rintro e we ⟨rfl, hbe⟩
      have hbe2 := HBX.out.trans (hbe.mono HBX.out.size)
      have HBE := hide hbe2
      obtain ⟨d0, d1, d2⟩ := HST.out _ hbe2
      clear hbe hbe2
      go_wp2_with fail
      refine (HSZ.out we HBE.out).mono ?_
      rintro e wf ⟨rfl, hbf⟩
      have HBF := hide (HWC.out.trans ((HBE.out.trans (hbf.mono HBE.out.size)).mono HWC.out.size))
      clear hbf d0 d1 d2
      go_wp2_with fail
      go_ret
      exact ⟨rfl, HBF.out⟩
end Go.Proofs.YthemdcdgiccjkaaDoor
