/-
  NameOrder walked.
-/
import Derived.Test.YtnnobfdpbdkceaaDoorNsW
import Derived.Deep.DeepCutAuto
import Derived.Sort.Walk0
namespace Go.Proofs.YtnnobfdpbdkceaaDoor.Nm
theorem objN_lt (i j : Nat) (k : List UInt8) (a b : Nat) (hi : i < 10 ^ 10) (hj : j < 10 ^ 10) (ha : a < 10 ^ 13) (hb : b < 10 ^ 13) : objN i k a < objN j k b ↔ i < j ∨ (i = j ∧ a < b) := by
  unfold objN
  rw [append_lt _ _ _ _ rfl, append_lt _ _ _ _ (by rw [dgs_length, dgs_length]), dgs_lt 10 i j hi hj, List.cons_lt_cons_iff, append_lt _ _ _ _ rfl, List.cons_lt_cons_iff, dgs_lt 13 a b ha hb]
  constructor
  · rintro (h | ⟨_, h | ⟨h1, h | ⟨_, h | ⟨_, h | ⟨_, h⟩⟩⟩⟩⟩)
    · exact absurd h (List.lt_irrefl _)
    · exact .inl h
    · exact absurd h (by decide)
    · exact absurd h (List.lt_irrefl _)
    · exact absurd h (by decide)
    · exact .inr ⟨dgs_inj 10 i j hi hj h1, h⟩
  · rintro (h | ⟨rfl, h⟩)
    · exact .inr ⟨rfl, .inl h⟩
    · exact .inr ⟨rfl, .inr ⟨rfl, .inr ⟨rfl, .inr ⟨rfl, .inr ⟨rfl, h⟩⟩⟩⟩⟩
theorem kinds_lt (i a : Nat) : objN i [100, 97, 116, 97] a < objN i [109, 97, 114, 107, 115] a := by
  unfold objN
  rw [append_lt _ _ _ _ rfl, append_lt _ _ _ _ rfl, List.cons_lt_cons_iff]
  refine .inr ⟨rfl, .inr ⟨rfl, .inr ⟨rfl, ?_⟩⟩⟩
  show (100 : UInt8) :: _ < 109 :: _
  rw [List.cons_lt_cons_iff]
  exact .inl (by decide)
theorem under_seg (i j a b c : Nat) (k : List UInt8) : ([objN i k a, segN c, objN j k b].filter fun x => Lib.hasPrefix x [115, 101, 103, 45]) = [objN i k a, objN j k b] := by
  have h1 : ∀ i a, Lib.hasPrefix (objN i k a) [115, 101, 103, 45] = true := fun i a => by
    unfold objN seg4
    rfl
  have h2 : Lib.hasPrefix (segN c) [115, 101, 103, 45] = false := by
    unfold segN log
    rfl
  simp [List.filter_cons, h1, h2]
theorem seg_empty (b : Int) : (seg b).isEmpty = !decide (right b) := by
  unfold seg
  by_cases h : right b
  · rw [if_pos h]; simp [segN, log, h]
  · rw [if_neg h]; simp [h]
theorem obj_empty (i : Int) (k : List UInt8) (b : Int) (hk : kindly k = true) (hb : right b) : (obj i k b).isEmpty = !decide (idly i) := by
  unfold obj
  by_cases h : idly i
  · rw [if_pos ⟨h, hk, hb⟩]; simp [objN, seg4, h]
  · rw [if_neg (fun hh => h hh.1)]; simp [h]
end Go.Proofs.YtnnobfdpbdkceaaDoor.Nm
namespace Go.Proofs.YtnnobfdpbdkceaaDoor
open Go.RowKit Go.Sort Go.Shelf

set_option maxRecDepth 100000 in
set_option maxHeartbeats 4000000 in
theorem order_walk (a b i j : Int) (ha : -9223372036854775808 ≤ a ∧ a ≤ 9223372036854775807) (hb : -9223372036854775808 ≤ b ∧ b ≤ 9223372036854775807) (hi : -9223372036854775808 ≤ i ∧ i ≤ 9223372036854775807) (hj : -9223372036854775808 ≤ j ∧ j ≤ 9223372036854775807) (w : World) (ht : PowTab w) :
    Calls Tryd.prog 4 #[.int .i64 a, .int .i64 b, .int .i64 i, .int .i64 j] w fun e w' => e = .returned (.bool true) ∧ Below w.heap.size w w' := by
  have HF := Lib.hid (first_name w ht)
  have HV := Lib.hid ht
  have HSA := Lib.hid (fun W (hW : PowTab W) => segment_any a W hW)
  have HOI := Lib.hid (fun W (hW : PowTab W) => object_any i [100, 97, 116, 97] 5 W hW)
  have esa := Nm.seg_empty a
  have eoi := Nm.obj_empty i [100, 97, 116, 97] 5 (by decide) (by decide)
  obtain ⟨A, hA⟩ : ∃ A : Nat, a % 1099511627776 = A := ⟨(a % 1099511627776).toNat, (Int.toNat_of_nonneg (Int.emod_nonneg _ (by omega))).symm⟩
  obtain ⟨B', hB⟩ : ∃ B : Nat, b % 1099511627776 = B := ⟨(b % 1099511627776).toNat, (Int.toNat_of_nonneg (Int.emod_nonneg _ (by omega))).symm⟩
  have hAl : A < 1099511627776 := by omega
  have hBl : B' < 1099511627776 := by omega
  obtain ⟨I, hI⟩ : ∃ I, num i 2147483648 = I := ⟨_, rfl⟩
  obtain ⟨J, hJ⟩ : ∃ J, num j 2147483648 = J := ⟨_, rfl⟩
  have hIl : I < 2147483648 := by rw [← hI]; exact num_lt _ _ (by omega)
  have hJl : J < 2147483648 := by rw [← hJ]; exact num_lt _ _ (by omega)
  have HLA := Lib.hid (fun W => by have h := long_any a 1099511627776 W (by omega) (by omega) ha.1 ha.2; rw [hA] at h; exact h)
  have HLB := Lib.hid (fun W => by have h := long_any b 1099511627776 W (by omega) (by omega) hb.1 hb.2; rw [hB] at h; exact h)
  have HNI := Lib.hid (fun W => by have h := num_at i 2147483648 2147483648 W (by omega) (by omega) (by omega) hi.1 hi.2; rw [hI] at h; exact h)
  have HNJ := Lib.hid (fun W => by have h := num_at j 2147483648 2147483648 W (by omega) (by omega) (by omega) hj.1 hj.2; rw [hJ] at h; exact h)
  clear hA hB hI hJ ht
  go_enter Tryd.func4, Tryd.ntmps4
  go_upto_region 4 with (go_at_call 5; refine HF.out.mono ?_; rintro e w1 ⟨rfl, hb1⟩; have B1 := Lib.hid hb1; clear hb1)
  go_cut [37] from 16 (fun v wc => v = .bool false ∧ Below w.heap.size w wc)
  case first =>
    have ka : a < 0 ∨ 1099511627776 < a ∨ (0 ≤ a ∧ a ≤ 1099511627776) := by omega
    have ki : i < 0 ∨ 2147483647 < i ∨ (0 ≤ i ∧ i ≤ 2147483647) := by omega
    rcases ka with ka | ka | ka
    · have e1 : (Nm.seg a).isEmpty = true := by rw [esa, decide_eq_false (p := Nm.right a) (fun h => by unfold Nm.right at h; omega)]; rfl
      clear esa
      generalize Nm.seg a = sg at *
      rcases ki with ki | ki | ki
      · have e2 : (Nm.obj i [100, 97, 116, 97] 5).isEmpty = true := by rw [eoi, decide_eq_false (p := Nm.idly i) (fun h => by unfold Nm.idly at h; omega)]; rfl
        clear eoi
        generalize Nm.obj i [100, 97, 116, 97] 5 = og at *
        go_wp2_with (first
          | (go_at_call 10; refine (HSA.out _ (HV.out.below B1.out)).mono ?_; rintro e w2 ⟨rfl, hb2⟩; have B2 := Lib.hid (B1.out.trans (hb2.mono B1.out.size)); clear hb2)
          | (go_at_call 11; refine (HOI.out _ (HV.out.below B2.out)).mono ?_; rintro e w3 ⟨rfl, hb3⟩; have B3 := Lib.hid (B2.out.trans (hb3.mono B2.out.size)); clear hb3)
          | fail)
        go_meet
        refine ⟨?_, B3.out⟩
        first | rfl | (congr 1; simp; omega) | (simp; omega)
      · have e2 : (Nm.obj i [100, 97, 116, 97] 5).isEmpty = true := by rw [eoi, decide_eq_false (p := Nm.idly i) (fun h => by unfold Nm.idly at h; omega)]; rfl
        clear eoi
        generalize Nm.obj i [100, 97, 116, 97] 5 = og at *
        go_wp2_with (first
          | (go_at_call 10; refine (HSA.out _ (HV.out.below B1.out)).mono ?_; rintro e w2 ⟨rfl, hb2⟩; have B2 := Lib.hid (B1.out.trans (hb2.mono B1.out.size)); clear hb2)
          | (go_at_call 11; refine (HOI.out _ (HV.out.below B2.out)).mono ?_; rintro e w3 ⟨rfl, hb3⟩; have B3 := Lib.hid (B2.out.trans (hb3.mono B2.out.size)); clear hb3)
          | fail)
        go_meet
        refine ⟨?_, B3.out⟩
        first | rfl | (congr 1; simp; omega) | (simp; omega)
      · have e2 : (Nm.obj i [100, 97, 116, 97] 5).isEmpty = false := by rw [eoi, decide_eq_true (p := Nm.idly i) ⟨by omega, by omega⟩]; rfl
        clear eoi
        generalize Nm.obj i [100, 97, 116, 97] 5 = og at *
        go_wp2_with (first
          | (go_at_call 10; refine (HSA.out _ (HV.out.below B1.out)).mono ?_; rintro e w2 ⟨rfl, hb2⟩; have B2 := Lib.hid (B1.out.trans (hb2.mono B1.out.size)); clear hb2)
          | (go_at_call 11; refine (HOI.out _ (HV.out.below B2.out)).mono ?_; rintro e w3 ⟨rfl, hb3⟩; have B3 := Lib.hid (B2.out.trans (hb3.mono B2.out.size)); clear hb3)
          | fail)
        go_meet
        refine ⟨?_, B3.out⟩
        first | rfl | (congr 1; simp; omega) | (simp; omega)
    · have e1 : (Nm.seg a).isEmpty = true := by rw [esa, decide_eq_false (p := Nm.right a) (fun h => by unfold Nm.right at h; omega)]; rfl
      clear esa
      generalize Nm.seg a = sg at *
      rcases ki with ki | ki | ki
      · have e2 : (Nm.obj i [100, 97, 116, 97] 5).isEmpty = true := by rw [eoi, decide_eq_false (p := Nm.idly i) (fun h => by unfold Nm.idly at h; omega)]; rfl
        clear eoi
        generalize Nm.obj i [100, 97, 116, 97] 5 = og at *
        go_wp2_with (first
          | (go_at_call 10; refine (HSA.out _ (HV.out.below B1.out)).mono ?_; rintro e w2 ⟨rfl, hb2⟩; have B2 := Lib.hid (B1.out.trans (hb2.mono B1.out.size)); clear hb2)
          | (go_at_call 11; refine (HOI.out _ (HV.out.below B2.out)).mono ?_; rintro e w3 ⟨rfl, hb3⟩; have B3 := Lib.hid (B2.out.trans (hb3.mono B2.out.size)); clear hb3)
          | fail)
        go_meet
        refine ⟨?_, B3.out⟩
        first | rfl | (congr 1; simp; omega) | (simp; omega)
      · have e2 : (Nm.obj i [100, 97, 116, 97] 5).isEmpty = true := by rw [eoi, decide_eq_false (p := Nm.idly i) (fun h => by unfold Nm.idly at h; omega)]; rfl
        clear eoi
        generalize Nm.obj i [100, 97, 116, 97] 5 = og at *
        go_wp2_with (first
          | (go_at_call 10; refine (HSA.out _ (HV.out.below B1.out)).mono ?_; rintro e w2 ⟨rfl, hb2⟩; have B2 := Lib.hid (B1.out.trans (hb2.mono B1.out.size)); clear hb2)
          | (go_at_call 11; refine (HOI.out _ (HV.out.below B2.out)).mono ?_; rintro e w3 ⟨rfl, hb3⟩; have B3 := Lib.hid (B2.out.trans (hb3.mono B2.out.size)); clear hb3)
          | fail)
        go_meet
        refine ⟨?_, B3.out⟩
        first | rfl | (congr 1; simp; omega) | (simp; omega)
      · have e2 : (Nm.obj i [100, 97, 116, 97] 5).isEmpty = false := by rw [eoi, decide_eq_true (p := Nm.idly i) ⟨by omega, by omega⟩]; rfl
        clear eoi
        generalize Nm.obj i [100, 97, 116, 97] 5 = og at *
        go_wp2_with (first
          | (go_at_call 10; refine (HSA.out _ (HV.out.below B1.out)).mono ?_; rintro e w2 ⟨rfl, hb2⟩; have B2 := Lib.hid (B1.out.trans (hb2.mono B1.out.size)); clear hb2)
          | (go_at_call 11; refine (HOI.out _ (HV.out.below B2.out)).mono ?_; rintro e w3 ⟨rfl, hb3⟩; have B3 := Lib.hid (B2.out.trans (hb3.mono B2.out.size)); clear hb3)
          | fail)
        go_meet
        refine ⟨?_, B3.out⟩
        first | rfl | (congr 1; simp; omega) | (simp; omega)
    · have e1 : (Nm.seg a).isEmpty = false := by rw [esa, decide_eq_true (p := Nm.right a) ⟨by omega, by omega⟩]; rfl
      clear esa
      generalize Nm.seg a = sg at *
      rcases ki with ki | ki | ki
      · have e2 : (Nm.obj i [100, 97, 116, 97] 5).isEmpty = true := by rw [eoi, decide_eq_false (p := Nm.idly i) (fun h => by unfold Nm.idly at h; omega)]; rfl
        clear eoi
        generalize Nm.obj i [100, 97, 116, 97] 5 = og at *
        go_wp2_with (first
          | (go_at_call 10; refine (HSA.out _ (HV.out.below B1.out)).mono ?_; rintro e w2 ⟨rfl, hb2⟩; have B2 := Lib.hid (B1.out.trans (hb2.mono B1.out.size)); clear hb2)
          | (go_at_call 11; refine (HOI.out _ (HV.out.below B2.out)).mono ?_; rintro e w3 ⟨rfl, hb3⟩; have B3 := Lib.hid (B2.out.trans (hb3.mono B2.out.size)); clear hb3)
          | fail)
        go_meet
        refine ⟨?_, B3.out⟩
        first | rfl | (congr 1; simp; omega) | (simp; omega)
      · have e2 : (Nm.obj i [100, 97, 116, 97] 5).isEmpty = true := by rw [eoi, decide_eq_false (p := Nm.idly i) (fun h => by unfold Nm.idly at h; omega)]; rfl
        clear eoi
        generalize Nm.obj i [100, 97, 116, 97] 5 = og at *
        go_wp2_with (first
          | (go_at_call 10; refine (HSA.out _ (HV.out.below B1.out)).mono ?_; rintro e w2 ⟨rfl, hb2⟩; have B2 := Lib.hid (B1.out.trans (hb2.mono B1.out.size)); clear hb2)
          | (go_at_call 11; refine (HOI.out _ (HV.out.below B2.out)).mono ?_; rintro e w3 ⟨rfl, hb3⟩; have B3 := Lib.hid (B2.out.trans (hb3.mono B2.out.size)); clear hb3)
          | fail)
        go_meet
        refine ⟨?_, B3.out⟩
        first | rfl | (congr 1; simp; omega) | (simp; omega)
      · have e2 : (Nm.obj i [100, 97, 116, 97] 5).isEmpty = false := by rw [eoi, decide_eq_true (p := Nm.idly i) ⟨by omega, by omega⟩]; rfl
        clear eoi
        generalize Nm.obj i [100, 97, 116, 97] 5 = og at *
        go_wp2_with (first
          | (go_at_call 10; refine (HSA.out _ (HV.out.below B1.out)).mono ?_; rintro e w2 ⟨rfl, hb2⟩; have B2 := Lib.hid (B1.out.trans (hb2.mono B1.out.size)); clear hb2)
          | (go_at_call 11; refine (HOI.out _ (HV.out.below B2.out)).mono ?_; rintro e w3 ⟨rfl, hb3⟩; have B3 := Lib.hid (B2.out.trans (hb3.mono B2.out.size)); clear hb3)
          | fail)
        go_meet
        refine ⟨?_, B3.out⟩
        first | rfl | (congr 1; simp; omega) | (simp; omega)
  case rest =>
    obtain ⟨rfl, hbc⟩ := hcut
    have BC := Lib.hid hbc
    clear hbc HSA HOI esa eoi B1 HF
    have hri : Nm.idly (I : Int) := ⟨by omega, by omega⟩
    have hrj : Nm.idly (J : Int) := ⟨by omega, by omega⟩
    have hra : Nm.right (A : Int) := ⟨by omega, by omega⟩
    have hrb : Nm.right (B' : Int) := ⟨by omega, by omega⟩
    have HOX : Hid (∀ W, PowTab W → Calls Tryd.prog 11 #[.int .i64 (I : Int), .string ⟨#[100, 97, 116, 97]⟩, .int .i64 (A : Int)] W fun e w' => e = .returned (str (Nm.objN I [100, 97, 116, 97] A)) ∧ Below W.heap.size W w') := Lib.hid fun W hW => by
      have h := object_any (I : Int) [100, 97, 116, 97] (A : Int) W hW
      rwa [show Nm.obj (I : Int) [100, 97, 116, 97] (A : Int) = Nm.objN I [100, 97, 116, 97] A from by unfold Nm.obj; rw [if_pos ⟨hri, by decide, hra⟩]; rfl] at h
    have HOY : Hid (∀ W, PowTab W → Calls Tryd.prog 11 #[.int .i64 (J : Int), .string ⟨#[100, 97, 116, 97]⟩, .int .i64 (B' : Int)] W fun e w' => e = .returned (str (Nm.objN J [100, 97, 116, 97] B')) ∧ Below W.heap.size W w') := Lib.hid fun W hW => by
      have h := object_any (J : Int) [100, 97, 116, 97] (B' : Int) W hW
      rwa [show Nm.obj (J : Int) [100, 97, 116, 97] (B' : Int) = Nm.objN J [100, 97, 116, 97] B' from by unfold Nm.obj; rw [if_pos ⟨hrj, by decide, hrb⟩]; rfl] at h
    have HOM : Hid (∀ W, PowTab W → Calls Tryd.prog 11 #[.int .i64 (I : Int), .string ⟨#[109, 97, 114, 107, 115]⟩, .int .i64 (A : Int)] W fun e w' => e = .returned (str (Nm.objN I [109, 97, 114, 107, 115] A)) ∧ Below W.heap.size W w') := Lib.hid fun W hW => by
      have h := object_any (I : Int) [109, 97, 114, 107, 115] (A : Int) W hW
      rwa [show Nm.obj (I : Int) [109, 97, 114, 107, 115] (A : Int) = Nm.objN I [109, 97, 114, 107, 115] A from by unfold Nm.obj; rw [if_pos ⟨hri, by decide, hra⟩]; rfl] at h
    have HSG : Hid (∀ W, PowTab W → Calls Tryd.prog 10 #[.int .i64 (A : Int)] W fun e w' => e = .returned (str (Nm.segN A)) ∧ Below W.heap.size W w') := Lib.hid fun W hW => by
      have h := segment_any (A : Int) W hW
      rwa [show Nm.seg (A : Int) = Nm.segN A from by unfold Nm.seg; rw [if_pos hra]; rfl] at h
    have hlx := Nm.objN_length I [100, 97, 116, 97] A
    have hly := Nm.objN_length J [100, 97, 116, 97] B'
    have HUN : Hid (∀ W : World, Calls Tryd.prog 7 #[.string ⟨#[115, 101, 103, 45]⟩, .slice (some ⟨W.heap.size, 0, none⟩) 3 3] (W.alloc (.cells #[str (Nm.objN I [100, 97, 116, 97] A), str (Nm.segN A), str (Nm.objN J [100, 97, 116, 97] B')] 9)) fun e w' => ∃ v, e = .returned v ∧ OwnT w' W.heap.size v (Nm.rising [Nm.objN I [100, 97, 116, 97] A, Nm.objN J [100, 97, 116, 97] B']) ∧ Below W.heap.size W w') := Lib.hid fun W => by
      refine (under_any (some ⟨W.heap.size, 0, none⟩) 3 3 [Nm.objN I [100, 97, 116, 97] A, Nm.segN A, Nm.objN J [100, 97, 116, 97] B'] [115, 101, 103, 45] _ rfl (by omega) (ReadsT.made W _ _ _ _ _ rfl rfl)).mono ?_
      rintro e w' ⟨v, rfl, ho, hb⟩
      rw [Nm.under_seg] at ho
      exact ⟨v, rfl, ho.mono (by simp), (balloc (Below.refl _ _) _).trans (hb.mono (by simp))⟩
    have HRI : Hid (∀ W : World, Calls Tryd.prog 9 #[.slice (some ⟨W.heap.size, 0, none⟩) 2 2] (W.alloc (.cells #[str (Nm.objN I [100, 97, 116, 97] A), str (Nm.objN J [100, 97, 116, 97] B')] 9)) fun e w' => ∃ v, e = .returned v ∧ OwnT w' W.heap.size v (Nm.rising [Nm.objN I [100, 97, 116, 97] A, Nm.objN J [100, 97, 116, 97] B']) ∧ Below W.heap.size W w') := Lib.hid fun W => by
      refine (rising_any (some ⟨W.heap.size, 0, none⟩) 2 2 [Nm.objN I [100, 97, 116, 97] A, Nm.objN J [100, 97, 116, 97] B'] _ rfl (by omega) (fun x hx => ?_) (ReadsT.made W _ _ _ _ _ rfl rfl)).mono ?_
      · simp only [List.mem_cons, List.not_mem_nil, or_false] at hx
        rcases hx with rfl | rfl
        · rw [hlx]; decide
        · rw [hly]; decide
      rintro e w' ⟨v, rfl, ho, hb⟩
      exact ⟨v, rfl, ho.mono (by simp), (balloc (Below.refl _ _) _).trans (hb.mono (by simp))⟩
    have hxy := Nm.objN_lt I J [100, 97, 116, 97] A B' (by omega) (by omega) (by omega) (by omega)
    have hbl3 : Op.bytesLess (Nm.objN I [100, 97, 116, 97] A) (Nm.objN I [109, 97, 114, 107, 115] A) = true := by
      rw [Go.Proofs.bytesLess_eq]
      exact decide_eq_true (Nm.kinds_lt I A)
    have hrl := Nm.rising_len [Nm.objN I [100, 97, 116, 97] A, Nm.objN J [100, 97, 116, 97] B']
    simp only [List.length_cons, List.length_nil] at hrl
    generalize Nm.rising [Nm.objN I [100, 97, 116, 97] A, Nm.objN J [100, 97, 116, 97] B'] = L at *
    generalize Nm.objN I [100, 97, 116, 97] A = x at *
    generalize Nm.objN J [100, 97, 116, 97] B' = y at *
    generalize Nm.objN I [109, 97, 114, 107, 115] A = z at *
    generalize Nm.segN A = sg at *
    clear hlx hly hri hrj hra hrb
    by_cases hIJ : I = J
    · subst hIJ
      have hbl : (!Op.bytesLess x y == decide (A < B')) = false := by
        rw [Go.Proofs.bytesLess_eq]
        have e : decide (x < y) = decide (A < B') := decide_eq_decide.2 (hxy.trans ⟨fun h => by rcases h with h | h; exact absurd h (Nat.lt_irrefl _); exact h.2, fun h => .inr ⟨rfl, h⟩⟩)
        rw [e]; simp
      clear hxy
      go_wp2_with (first
      | (go_at_call 12; first | ((with_reducible refine (HLA.out _).mono ?_); rintro e wc' ⟨rfl, rfl⟩) | ((with_reducible refine (HLB.out _).mono ?_); rintro e wc' ⟨rfl, rfl⟩))
      | (go_at_call 6; first | ((with_reducible refine (HNI.out _).mono ?_); rintro e wc' ⟨rfl, rfl⟩) | ((with_reducible refine (HNJ.out _).mono ?_); rintro e wc' ⟨rfl, rfl⟩))
      | (go_at_call 11; refine (HOM.out _ (HV.out.below B8.out)).mono ?_; rintro e w9 ⟨rfl, hb9⟩; have B9 := Lib.hid (B8.out.trans (hb9.mono B8.out.size)); clear hb9)
      | (go_at_call 11; refine (HOX.out _ (HV.out.below B7.out)).mono ?_; rintro e w8 ⟨rfl, hb8⟩; have B8 := Lib.hid (B7.out.trans (hb8.mono B7.out.size)); clear hb8)
      | (go_at_call 11; refine (HOY.out _ (HV.out.below B2.out)).mono ?_; rintro e w3 ⟨rfl, hb3⟩; have B3 := Lib.hid (B2.out.trans (hb3.mono B2.out.size)); clear hb3)
      | (go_at_call 11; refine (HOX.out _ (HV.out.below BC.out)).mono ?_; rintro e w2 ⟨rfl, hb2⟩; have B2 := Lib.hid (BC.out.trans (hb2.mono BC.out.size)); clear hb2)
      | (go_at_call 10; refine (HSG.out _ (HV.out.below B3.out)).mono ?_; rintro e w4 ⟨rfl, hb4⟩; have B4 := Lib.hid (B3.out.trans (hb4.mono B3.out.size)); clear hb4)
      | (go_at_call 7; refine (HUN.out w4).mono ?_; rintro e w5 ⟨v5, rfl, ho5, hb5⟩; obtain ⟨A5, c5, rfl, hr5, -⟩ := ho5.reads; have HR5 := Lib.hid hr5; have B5 := Lib.hid (B4.out.trans (hb5.mono B4.out.size)); clear hb5 ho5 hr5)
      | (go_at_call 9; refine (HRI.out w5).mono ?_; rintro e w6 ⟨v6, rfl, ho6, hb6⟩; obtain ⟨A6, c6, rfl, hr6, -⟩ := ho6.reads; have HR6 := Lib.hid hr6; have HR56 := Lib.hid (HR5.out.below hb6 (Nat.le_refl _)); have B6 := Lib.hid (B5.out.trans (hb6.mono B5.out.size)); clear hb6 ho6 hr6)
      | (go_at_call 13; refine (sameTexts_any A5 A6 c5 c6 _ _ L L w6 rfl rfl (by omega) (by omega) HR56.out HR6.out).mono ?_; rintro e w7 ⟨rfl, q, hq⟩; rw [decide_eq_true rfl]; have B7 := Lib.hid (show Below w.heap.size w w7 by rw [hq]; exact below_drewN B6.out q); clear hq)
      | fail)
      go_ret
      exact ⟨rfl, B9.out⟩
    · have hbl : (!Op.bytesLess x y == decide (I < J)) = false := by
        rw [Go.Proofs.bytesLess_eq]
        have e : decide (x < y) = decide (I < J) := decide_eq_decide.2 (hxy.trans ⟨fun h => by rcases h with h | h; exact h; exact absurd h.1 hIJ, fun h => .inl h⟩)
        rw [e]; simp
      have hne : ((I : Int) == (J : Int)) = false := by rw [beq_eq_false_iff_ne]; omega
      clear hxy
      go_wp2_with (first
      | (go_at_call 12; first | ((with_reducible refine (HLA.out _).mono ?_); rintro e wc' ⟨rfl, rfl⟩) | ((with_reducible refine (HLB.out _).mono ?_); rintro e wc' ⟨rfl, rfl⟩))
      | (go_at_call 6; first | ((with_reducible refine (HNI.out _).mono ?_); rintro e wc' ⟨rfl, rfl⟩) | ((with_reducible refine (HNJ.out _).mono ?_); rintro e wc' ⟨rfl, rfl⟩))
      | (go_at_call 11; refine (HOM.out _ (HV.out.below B8.out)).mono ?_; rintro e w9 ⟨rfl, hb9⟩; have B9 := Lib.hid (B8.out.trans (hb9.mono B8.out.size)); clear hb9)
      | (go_at_call 11; refine (HOX.out _ (HV.out.below B7.out)).mono ?_; rintro e w8 ⟨rfl, hb8⟩; have B8 := Lib.hid (B7.out.trans (hb8.mono B7.out.size)); clear hb8)
      | (go_at_call 11; refine (HOY.out _ (HV.out.below B2.out)).mono ?_; rintro e w3 ⟨rfl, hb3⟩; have B3 := Lib.hid (B2.out.trans (hb3.mono B2.out.size)); clear hb3)
      | (go_at_call 11; refine (HOX.out _ (HV.out.below BC.out)).mono ?_; rintro e w2 ⟨rfl, hb2⟩; have B2 := Lib.hid (BC.out.trans (hb2.mono BC.out.size)); clear hb2)
      | (go_at_call 10; refine (HSG.out _ (HV.out.below B3.out)).mono ?_; rintro e w4 ⟨rfl, hb4⟩; have B4 := Lib.hid (B3.out.trans (hb4.mono B3.out.size)); clear hb4)
      | (go_at_call 7; refine (HUN.out w4).mono ?_; rintro e w5 ⟨v5, rfl, ho5, hb5⟩; obtain ⟨A5, c5, rfl, hr5, -⟩ := ho5.reads; have HR5 := Lib.hid hr5; have B5 := Lib.hid (B4.out.trans (hb5.mono B4.out.size)); clear hb5 ho5 hr5)
      | (go_at_call 9; refine (HRI.out w5).mono ?_; rintro e w6 ⟨v6, rfl, ho6, hb6⟩; obtain ⟨A6, c6, rfl, hr6, -⟩ := ho6.reads; have HR6 := Lib.hid hr6; have HR56 := Lib.hid (HR5.out.below hb6 (Nat.le_refl _)); have B6 := Lib.hid (B5.out.trans (hb6.mono B5.out.size)); clear hb6 ho6 hr6)
      | (go_at_call 13; refine (sameTexts_any A5 A6 c5 c6 _ _ L L w6 rfl rfl (by omega) (by omega) HR56.out HR6.out).mono ?_; rintro e w7 ⟨rfl, q, hq⟩; rw [decide_eq_true rfl]; have B7 := Lib.hid (show Below w.heap.size w w7 by rw [hq]; exact below_drewN B6.out q); clear hq)
      | fail)
      go_ret
      exact ⟨rfl, B9.out⟩
end Go.Proofs.YtnnobfdpbdkceaaDoor
