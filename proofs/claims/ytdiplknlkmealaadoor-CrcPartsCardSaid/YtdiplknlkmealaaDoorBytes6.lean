/-
  The walk through CrcBytes: one byte turned is told, and moves the sum.
-/
import Derived.Test.YtdiplknlkmealaaDoorOpen
import Derived.Test.YtdiplknlkmealaaDoorBytes
namespace Go.Proofs.YtdiplknlkmealaaDoor
open Go.RowKit Crc
attribute [local go_sem] BtoNat x32 n32 x8 and8_15 mod256 wrap8 xs32 Bd16toNat mul2

/-- What is owned, where there is something: its block, its room, each cell, free to write. -/
theorem Own.open_ {w : World} {base : Nat} {v : Value} {l : List UInt8} (h : Own w base v l) (hl : 0 < l.length) :
    ∃ g c, v = .slice (some ⟨g, 0, none⟩) l.length c ∧ base ≤ g ∧ g < w.heap.size ∧ Arg w (some ⟨g, 0, none⟩) c l ∧ (∀ k, w.frozen? ⟨g, k, none⟩ = false) ∧
      ∀ k (x : UInt8), k < l.length → Reads (w.setCell ⟨g, k, none⟩ (.int .u8 (B x))) (some ⟨g, 0, none⟩) (l.set k x) := by
  have hr := h.reads
  rcases h.2 with ⟨_, h0⟩ | ⟨g, cap, cur, rfl, hg, hh, hn, hm, hs, ht⟩
  · omega
  obtain ⟨A, c, hv, hr, _⟩ := hr
  injection hv with hA _ hc
  subst hA hc
  have hlt : g < w.heap.size := by
    rcases Nat.lt_or_ge g w.heap.size with h | h
    · exact h
    · rw [Array.getElem?_eq_none h] at hh; cases hh
  refine ⟨g, cap, rfl, hg, hlt, ⟨hn, by simpa [maxLen] using hm, fun e => (by cases e), hr⟩, fun k => by simp [World.frozen?, hh], fun k x hk => .inr ⟨g, 0, rfl, by simpa [World.setCell] using hlt, fun j hj => ?_⟩⟩
  have hj' : j < l.length := by simpa using hj
  have hcj := reads_cell hr j hj'
  rw [Nat.zero_add] at hcj ⊢
  by_cases hjk : j = k
  · subst hjk
    rw [World.cell?_setCell_same _ _ _ hcj]
    simp [List.getD, hj']
  · rw [World.cell?_setCell_other _ _ _ _ (by simp [hjk]), hcj]
    congr 2
    simp [List.getD, List.getElem?_set, Ne.symm hjk]

theorem getD_eq (l : List UInt8) (k : Nat) (h : k < l.length) : l.getD k 0 = l[k] := by simp [List.getD, h]
theorem not_opens_setD (t : List UInt8) (k : Nat) (b : UInt8) (hk : k < t.length) (hb : b ≠ 0) (h4 : 4 ≤ t.length) (ho : Crc.opens t) : ¬ Crc.opens (t.set k (t.getD k 0 ^^^ b)) := by
  rw [getD_eq t k hk]; exact not_opens_set t k b hk hb h4 ho
theorem sum_set_neD (l : List UInt8) (k : Nat) (b : UInt8) (hk : k < l.length) (hb : b ≠ 0) : sum (l.set k (l.getD k 0 ^^^ b)) ≠ sum l := by
  rw [getD_eq l k hk]; exact sum_set_ne l k b hk hb
theorem tdiv3 (n : Int) (c1 : -9223372036854775808 ≤ n) (c2 : n ≤ 9223372036854775807) : -9223372036854775808 ≤ n.tdiv 3 ∧ n.tdiv 3 ≤ 9223372036854775807 := by
  rcases Int.le_total 0 n with h | h
  · rw [Int.tdiv_eq_ediv_of_nonneg h]; omega
  · have : n.tdiv 3 = -((-n).tdiv 3) := by rw [Int.neg_tdiv, Int.neg_neg]
    rw [this, Int.tdiv_eq_ediv_of_nonneg (by omega)]; omega
theorem bytes_far (A : Option Addr) (cap : Nat) (l : List UInt8) (at_ : Int) (x : UInt8) (w : World) (ha : Arg w A cap l) (ht : Tabs w) (hw : 4 ≤ w.heap.size) (hl : 500 < l.length ∨ l.length = 0 ∨ B x = 0) :
    Calls Tryd.prog 6 #[.slice A l.length cap, .int .i64 at_, .int .u8 (B x)] w fun e w' => e = .returned (.bool true) ∧ Below w.heap.size w w' := by
  have HA := hide ha
  have h1 := ha.le
  have h2 := ha.max
  clear ha
  by_cases a1 : 500 < l.length
  · clear hl
    go_enter Tryd.func6, Tryd.ntmps6
    go_wp2_with (go_at_call 14; refine (first_any _ ht hw).mono ?_; rintro e w1 ⟨rfl, hb1⟩)
    go_ret
    exact ⟨rfl, hb1⟩
  · by_cases a2 : l.length = 0
    · rw [a2]
      clear hl a1 a2 h1 HA
      go_enter Tryd.func6, Tryd.ntmps6
      go_wp2_with (go_at_call 14; refine (first_any _ ht hw).mono ?_; rintro e w1 ⟨rfl, hb1⟩)
      go_ret
      exact ⟨rfl, hb1⟩
    · have a3 : B x = 0 := by omega
      rw [a3]
      have a4 : ((l.length : Int) == 0) = false := by rw [beq_eq_false_iff_ne]; omega
      clear hl a3 a2
      go_enter Tryd.func6, Tryd.ntmps6
      go_wp2_with (go_at_call 14; refine (first_any _ ht hw).mono ?_; rintro e w1 ⟨rfl, hb1⟩)
      go_ret
      exact ⟨rfl, hb1⟩

set_option maxRecDepth 100000 in
set_option maxHeartbeats 1000000 in
theorem bytes_near (A : Option Addr) (cap : Nat) (l : List UInt8) (at_ : Int) (x : UInt8) (w : World) (p : Nat → Addr) (ha : Arg w A cap l) (ht : Tabs w) (hs : Sents w p) (hw : 4 ≤ w.heap.size) (hl : l.length ≤ 500) (hl0 : 0 < l.length) (hx : x ≠ 0)
    (c1 : -9223372036854775808 ≤ at_) (c2 : at_ ≤ 9223372036854775807) :
    Calls Tryd.prog 6 #[.slice A l.length cap, .int .i64 at_, .int .u8 (B x)] w fun e w' => e = .returned (.bool true) ∧ Below w.heap.size w w' := by
  have HA := hide ha
  have HT := hide ht
  have HS := hide hs
  have h1 := ha.le
  have h2 := ha.max
  have a4 : ((l.length : Int) == 0) = false := by rw [beq_eq_false_iff_ne]; omega
  have a5 : (B x == 0) = false := by
    simp only [beq_eq_false_iff_ne]
    intro e; exact hx (B_inj (e.trans (by decide)))
  have HX := hide hx
  have hnum := fun w => num_at at_ (l.length : Nat) l.length w rfl (by omega) (by omega) c1 c2
  have hk := num_lt at_ l.length (by omega)
  generalize num at_ l.length = k at *
  have HNUM := hide hnum
  clear ha ht hs hx hnum
  go_enter Tryd.func6, Tryd.ntmps6
  go_wp2_with (go_at_call 14; refine (first_any _ HT.out hw).mono ?_; rintro e w1 ⟨rfl, hb1⟩)
  refine (bytes_any A cap l.length l w1 rfl (by omega) (HA.out.reads.below hb1 (Nat.le_refl _))).mono ?_
  rintro e w2 ⟨v2, rfl, ho2, hb2⟩
  obtain ⟨g2, cc2, rfl, hg2, hg2s, ha2, hf2, hset2⟩ := ho2.open_ hl0
  have hc2 := reads_cell ha2.reads k hk
  rw [Nat.zero_add] at hc2
  have hf2k := hf2 k
  have HB2 := hide (hb1.trans (hb2.mono hb1.size))
  have HG2 := hide hg2
  have HSET2 := hide (hset2 k (l.getD k 0 ^^^ x) hk)
  have HSZ := hide hb1.size
  clear hb1 hb2 ho2 ha2 hf2 hset2 hg2
  generalize hxk : l.getD k 0 = xk at *
  have HXK := hide hxk
  clear hxk
  go_wp2_with (go_at_call 24; refine (HNUM.out _).mono ?_; rintro e w3 ⟨rfl, rfl⟩)
  have hb3 : Below w.heap.size w (w2.setCell ⟨g2, k, none⟩ (.int .u8 (B (xk ^^^ x)))) := HB2.out.setCell (by show w.heap.size ≤ g2; exact Nat.le_trans HSZ.out HG2.out) _
  have hr3 := HSET2.out
  generalize w2.setCell ⟨g2, k, none⟩ (.int .u8 (B (xk ^^^ x))) = w3 at *
  have HB3 := hide hb3
  have HR3 := hide hr3
  clear hb3 hr3 HSET2 HB2 hf2k hc2 hg2s
  refine (seal_any A cap l.length l w3 rfl (by omega) (HA.out.reads.below HB3.out (Nat.le_refl _)) (HT.out.below HB3.out hw) (Nat.le_trans hw HB3.out.size)).mono ?_
  rintro e w4 ⟨v4, rfl, ho4, hb4⟩
  have hlen4 : (l ++ little (sum l)).length = l.length + 4 := by simp [little_len]
  obtain ⟨g4, cc4, rfl, hg4, hg4s, ha4, hf4, hset4⟩ := ho4.open_ (by omega)
  have HB4 := hide (HB3.out.trans (hb4.mono HB3.out.size))
  have HB34 := hide hb4
  have HOP := hide (opens_sealed l)
  have HL4 := hide hlen4
  have HR4 := hide ha4.reads
  have HF4 := hide hf4
  have HS4 := hide hset4
  have HG4 := hide hg4
  have HLE4 := hide ha4.le
  have HMX4 := hide ha4.max
  rw [HL4.out]
  clear hb4 ho4 ha4 hf4 hset4 hg4 hlen4 hg4s
  go_wp2_with fail
  refine (num_at _ _ (l.length + 4) _ (by omega) (by omega) (by omega) ?_ ?_).mono ?_
  · exact (tdiv3 at_ c1 c2).1
  · exact (tdiv3 at_ c1 c2).2
  rintro e w5 ⟨rfl, rfl⟩
  have hk4 := num_lt (at_.tdiv 3) (l.length + 4) (by omega)
  generalize num (at_.tdiv 3) (l.length + 4) = k4 at *
  have hk4' : k4 < (l ++ little (sum l)).length := by rw [HL4.out]; exact hk4
  have hc4 := reads_cell HR4.out k4 hk4'
  rw [Nat.zero_add] at hc4
  have hf4k := HF4.out k4
  have HS4K := hide (HS4.out k4 ((l ++ little (sum l)).getD k4 0 ^^^ x) hk4')
  have HK4 := hide hk4'
  have HN4 := hide (not_opens_setD (l ++ little (sum l)) k4 x hk4' HX.out (by rw [HL4.out]; omega) HOP.out)
  clear hk4'
  generalize hy : (l ++ little (sum l)).getD k4 0 = y at *
  clear hy
  go_wp2_with fail
  have hb6 : Below w3.heap.size w3 (w4.setCell ⟨g4, k4, none⟩ (.int .u8 (B (y ^^^ x)))) := HB34.out.setCell (by show w3.heap.size ≤ g4; exact HG4.out) _
  have hr6 := HS4K.out
  generalize w4.setCell ⟨g4, k4, none⟩ (.int .u8 (B (y ^^^ x))) = w6 at *
  have HB36 := hide hb6
  have HB6 := hide (HB3.out.trans (hb6.mono HB3.out.size))
  have HR6 := hide hr6
  clear hb6 hr6 HS4K HB34 hf4k hc4 HF4 HS4
  have hset6 : ((l ++ little (sum l)).set k4 (y ^^^ x)).length = l.length + 4 := by rw [List.length_set, HL4.out]
  have hopen := open_at (some ⟨g4, 0, none⟩) cc4 ((l ++ little (sum l)).set k4 (y ^^^ x)) w6 p false (by simp; exact HN4.out) (by rw [hset6]; omega) (by rw [hset6]; omega)
    ⟨by rw [hset6, ← HL4.out]; exact HLE4.out, HMX4.out, fun e => (by cases e), HR6.out⟩ (HT.out.below HB6.out hw) (HS.out.below HB6.out)
  rw [hset6] at hopen
  have HOPEN := hide hopen
  clear hopen hset6
  refine HOPEN.out.mono ?_
  rintro e w7 ⟨hb7, he⟩
  simp only [Bool.false_eq_true, if_false] at he
  subst he
  have HB7 := hide (HB6.out.trans (hb7.mono HB6.out.size))
  have HB37 := hide (HB36.out.trans (hb7.mono HB36.out.size))
  clear hb7
  have hne := sum_set_neD l k x hk HX.out
  rw [HXK.out] at hne
  have HNE := hide hne
  clear hne
  unfold errV at *
  go_wp2_with fail
  refine (of_B (w0 := w3) w7.heap.size l.length cap A l _ (below_alloc HB37.out _) (by simp) rfl (by omega) ((HA.out.reads.below HB7.out (Nat.le_refl _)).alloc _) (HT.out.below (below_alloc HB7.out _) hw)).mono ?_
  rintro e w8 ⟨rfl, hb8⟩
  have HB8 := hide (HB3.out.trans (hb8.mono HB3.out.size))
  have HR8 := hide (HR3.out.below hb8 (Nat.le_refl _))
  clear hb8
  go_wp2_with fail
  refine (of_B w8.heap.size l.length cc2 (some ⟨g2, 0, none⟩) (l.set k (xk ^^^ x)) _ (below_alloc HB8.out _) (by simp) (by simp) (by omega) ?_ (HT.out.below (below_alloc HB8.out _) hw)).mono ?_
  · exact HR8.out.alloc _
  rintro e w9 ⟨rfl, hb9⟩
  have HB9 := hide hb9
  clear hb9
  have hbq : (U (sum l) != U (sum (l.set k (xk ^^^ x)))) = true := by
    rw [bne_iff_ne]
    intro e
    exact HNE.out (U_inj e).symm
  have HQ := hide (is_sent w9 p (HS.out.below HB9.out) 1 (by omega) 102)
  unfold errV at *
  go_wp2_with fail
  refine HQ.out.mono ?_
  rintro e w10 ⟨rfl, hb10⟩
  have HB10 := hide (HB9.out.trans (hb10.mono HB9.out.size))
  clear hb10
  go_wp2_with fail
  go_ret
  exact ⟨rfl, HB10.out⟩

theorem bytes_walk (A : Option Addr) (cap : Nat) (l : List UInt8) (at_ : Int) (x : UInt8) (w : World) (p : Nat → Addr) (ha : Arg w A cap l) (ht : Tabs w) (hs : Sents w p) (hw : 4 ≤ w.heap.size)
    (c1 : -9223372036854775808 ≤ at_) (c2 : at_ ≤ 9223372036854775807) :
    Calls Tryd.prog 6 #[.slice A l.length cap, .int .i64 at_, .int .u8 (B x)] w fun e w' => e = .returned (.bool true) ∧ Below w.heap.size w w' := by
  by_cases h1 : 500 < l.length
  · exact bytes_far A cap l at_ x w ha ht hw (.inl h1)
  · by_cases h2 : l.length = 0
    · exact bytes_far A cap l at_ x w ha ht hw (.inr (.inl h2))
    · by_cases h3 : x = 0
      · exact bytes_far A cap l at_ x w ha ht hw (.inr (.inr (by rw [h3]; decide)))
      · exact bytes_near A cap l at_ x w p ha ht hs hw (by omega) (by omega) h3 c1 c2
end Go.Proofs.YtdiplknlkmealaaDoor
