/-
  NameBack: what is named is read back; it is a name; later offsets have later names.
-/
import Derived.Test.YtklmbfmcfjibbaaDoorNsT
import Derived.Sort.Walk0
namespace Go.Proofs.YtklmbfmcfjibbaaDoor
open Go.RowKit Go.Shelf

def data4 : List UInt8 := [100, 97, 116, 97]
theorem ok_digits (k n : Nat) : (Nm.dgs k n).all okB = true := by
  rw [List.all_eq_true]
  intro c hc
  have h := Nm.dgs_digit k n c hc
  unfold Nm.digit at h
  unfold okB
  have h1 : (48 ≤ c) = True := by rw [UInt8.le_iff_toNat_le]; simpa using h.1
  have h2 : (c ≤ 57) = True := by rw [UInt8.le_iff_toNat_le]; simpa using h.2
  simp [h1, h2]
theorem ok_kind (k : List UInt8) (h : Nm.kindly k = true) : k.all okB = true := by
  unfold Nm.kindly at h
  simp only [Bool.and_eq_true] at h
  rw [List.all_eq_true] at h ⊢
  intro c hc
  have h3 := h.2 c hc
  unfold Nm.letter at h3
  simp only [Bool.and_eq_true, decide_eq_true_eq] at h3
  unfold okB
  simp [h3.1, h3.2]
theorem valid_seg (n : Nat) : validN (Nm.segN n) = true := by
  have hl := Nm.segN_length n
  have h := ok_digits 13 n
  unfold validN
  rw [hl]
  have h2 : (Nm.segN n).all okB = true := by unfold Nm.segN; rw [List.all_append, h]; decide
  rw [h2]
  have h3 : Nm.segN n ≠ [] := fun e => by rw [e] at hl; simp at hl
  simp [h3]
theorem valid_obj (i : Nat) (k : List UInt8) (b : Nat) (hk : Nm.kindly k = true) : validN (Nm.objN i k b) = true := by
  have hl := Nm.objN_length i k b
  have hk8 : k.length ≤ 8 := by
    have h := hk
    unfold Nm.kindly at h
    simp only [Bool.and_eq_true, decide_eq_true_eq] at h
    exact h.1.2
  unfold validN
  have h2 : (Nm.objN i k b).all okB = true := by
    unfold Nm.objN
    rw [List.all_append, List.all_append, List.all_cons, List.all_append, List.all_cons, ok_digits 10 i, ok_digits 13 b, ok_kind k hk]
    decide
  rw [h2]
  have h3 : Nm.objN i k b ≠ [] := fun e => by rw [e] at hl; simp at hl; omega
  have h4 : (Nm.objN i k b).length ≤ 64 := by omega
  simp [h3, h4]
theorem base_obj (i : Nat) (k : List UInt8) (b : Nat) : baseOf (Nm.objN i k b) = (0, false) := baseOf_no _ fun n _ e => by
  have h := congrArg (·.head?) e
  simp [Nm.objN, Nm.segN, Nm.seg4, Nm.log] at h
theorem parts_seg (n : Nat) : partsOf (Nm.segN n) = ⟨0, [], 0, false⟩ := partsOf_no _ fun i k b _ _ _ e => by
  have h := congrArg (·.head?) e
  simp [Nm.objN, Nm.segN, Nm.seg4, Nm.log] at h

set_option maxRecDepth 100000 in
set_option maxHeartbeats 4000000 in
theorem back_walk (i : Int) (kind : List UInt8) (a b : Int) (w : World) (hv : ParseVars w) (hm : MaxVar w) (hi : -9223372036854775808 ≤ i ∧ i ≤ 9223372036854775807) (ha : -9223372036854775808 ≤ a ∧ a ≤ 9223372036854775807) (hb : -9223372036854775808 ≤ b ∧ b ≤ 9223372036854775807) (hk : kind.length ≤ 9223372036854775807) :
    Calls Tryd.prog 4 #[.int .i64 i, str kind, .int .i64 a, .int .i64 b] w fun e w' => e = .returned (.bool true) ∧ Below w.heap.size w w' := by
  have HF := Lib.hid (first_name w hv.pow)
  have HLA : Hid (∀ W, Calls Tryd.prog 18 #[.int .i64 a, .int .i64 1099511627777] W fun e w' => e = .returned (.int .i64 (a % 1099511627777)) ∧ W = w') := Lib.hid fun W => long_any a 1099511627777 W (by omega) (by omega) ha.1 ha.2
  have HLB : Hid (∀ W, Calls Tryd.prog 18 #[.int .i64 b, .int .i64 1099511627777] W fun e w' => e = .returned (.int .i64 (b % 1099511627777)) ∧ W = w') := Lib.hid fun W => long_any b 1099511627777 W (by omega) (by omega) hb.1 hb.2
  have HNI : Hid (∀ W, Calls Tryd.prog 19 #[.int .i64 i, .int .i64 2147483648] W fun e w' => e = .returned (.int .i64 (i % 2147483648)) ∧ W = w') := Lib.hid fun W => number_any i 2147483648 W (by omega) (by omega) hi.1 hi.2
  have hra : Nm.right (a % 1099511627777) := by unfold Nm.right; omega
  have hrb : Nm.right (b % 1099511627777) := by unfold Nm.right; omega
  have hri : Nm.idly (i % 2147483648) := by unfold Nm.idly; omega
  obtain ⟨an, han⟩ := Int.eq_ofNat_of_zero_le hra.1
  obtain ⟨bn, hbn⟩ := Int.eq_ofNat_of_zero_le hrb.1
  obtain ⟨n, hin⟩ := Int.eq_ofNat_of_zero_le hri.1
  rw [han] at HLA hra
  rw [hbn] at HLB hrb
  rw [hin] at HNI hri
  clear han hbn hin hi ha hb
  have HV := Lib.hid hv
  have HM := Lib.hid hm
  have hsa : Nm.seg (an : Int) = Nm.segN an := by unfold Nm.seg; rw [if_pos hra]; rfl
  have hsb : Nm.seg (bn : Int) = Nm.segN bn := by unfold Nm.seg; rw [if_pos hrb]; rfl
  have ha13 : an < 10 ^ 13 := by have := Nm.right_lt hra; simpa using this
  have hb13 : bn < 10 ^ 13 := by have := Nm.right_lt hrb; simpa using this
  have hlt := Nm.segN_lt an bn ha13 hb13
  have HSA : Hid (∀ W, PowTab W → Calls Tryd.prog 14 #[.int .i64 (an : Int)] W fun e w' => e = .returned (str (Nm.segN an)) ∧ Below W.heap.size W w') := Lib.hid fun W hW => by
    have := segment_any (an : Int) W hW
    rwa [hsa] at this
  have HSB : Hid (∀ W, PowTab W → Calls Tryd.prog 14 #[.int .i64 (bn : Int)] W fun e w' => e = .returned (str (Nm.segN bn)) ∧ Below W.heap.size W w') := Lib.hid fun W hW => by
    have := segment_any (bn : Int) W hW
    rwa [hsb] at this
  have HBS : Hid (∀ W, ParseVars W → Calls Tryd.prog 8 #[str (Nm.segN an)] W fun e w' => e = .returned (.tuple #[.int .i64 (an : Int), .bool true]) ∧ Below W.heap.size W w') := Lib.hid fun W hW => by
    have := base_any (Nm.segN an) W (by rw [Nm.segN_length]; omega) hW
    rwa [baseOf_yes an hra] at this
  have HVS : Hid (∀ W, Calls Tryd.prog 12 #[str (Nm.segN an)] W fun e w' => e = .returned (.bool true) ∧ Below W.heap.size W w') := Lib.hid fun W => by
    have := valid_any (Nm.segN an) W
    rwa [valid_seg an] at this
  have hkd : Nm.kindly data4 = true := by decide
  have hod : Nm.obj (n : Int) data4 (an : Int) = Nm.objN n data4 an := by unfold Nm.obj; rw [if_pos ⟨hri, hkd, hra⟩]; rfl
  have HOD : Hid (∀ W, PowTab W → Calls Tryd.prog 16 #[.int .i64 (n : Int), .string ⟨#[100, 97, 116, 97]⟩, .int .i64 (an : Int)] W fun e w' => e = .returned (str (Nm.objN n data4 an)) ∧ Below W.heap.size W w') := Lib.hid fun W hW => by
    have := object_any (n : Int) data4 (an : Int) W hW
    rwa [hod] at this
  have hol := Nm.objN_length n data4 an
  have HPO : Hid (∀ W, ParseVars W → MaxVar W → Calls Tryd.prog 10 #[str (Nm.objN n data4 an)] W fun e w' => e = .returned (.tuple #[.int .i64 (n : Int), .string ⟨#[100, 97, 116, 97]⟩, .int .i64 (an : Int), .bool true]) ∧ Below W.heap.size W w') := Lib.hid fun W hW hX => by
    have := parts_any (Nm.objN n data4 an) W (by rw [hol]; decide) hW hX
    rwa [partsOf_yes n data4 an hri hkd hra] at this
  have HVO : Hid (∀ W, Calls Tryd.prog 12 #[str (Nm.objN n data4 an)] W fun e w' => e = .returned (.bool true) ∧ Below W.heap.size W w') := Lib.hid fun W => by
    have := valid_any (Nm.objN n data4 an) W
    rwa [valid_obj n data4 an hkd] at this
  have HBO : Hid (∀ W, ParseVars W → Calls Tryd.prog 8 #[str (Nm.objN n data4 an)] W fun e w' => e = .returned (.tuple #[.int .i64 0, .bool false]) ∧ Below W.heap.size W w') := Lib.hid fun W hW => by
    have := base_any (Nm.objN n data4 an) W (by rw [hol]; decide) hW
    rwa [base_obj] at this
  have HPS : Hid (∀ W, ParseVars W → MaxVar W → Calls Tryd.prog 10 #[str (Nm.segN an)] W fun e w' => e = .returned (.tuple #[.int .i64 0, .string ⟨#[]⟩, .int .i64 0, .bool false]) ∧ Below W.heap.size W w') := Lib.hid fun W hW hX => by
    have := parts_any (Nm.segN an) W (by rw [Nm.segN_length]; omega) hW hX
    rwa [parts_seg] at this
  have HOK : Hid (∀ W, PowTab W → Calls Tryd.prog 16 #[.int .i64 (n : Int), str kind, .int .i64 (an : Int)] W fun e w' => e = .returned (str (Nm.obj (n : Int) kind (an : Int))) ∧ Below W.heap.size W w') := Lib.hid fun W hW => object_any (n : Int) kind (an : Int) W hW
  have hz : Nm.obj (n : Int) kind (an : Int) = [] ∨ ((Nm.obj (n : Int) kind (an : Int)).length = 29 + kind.length ∧ kind.length ≤ 8) := by
    unfold Nm.obj
    split
    · rename_i hc
      have h := hc.2.1
      unfold Nm.kindly at h
      simp only [Bool.and_eq_true, decide_eq_true_eq] at h
      exact .inr ⟨Nm.objN_length _ _ _, h.1.2⟩
    · exact .inl rfl
  generalize Nm.obj (n : Int) kind (an : Int) = z at *
  generalize Nm.objN n data4 an = o at *
  generalize Nm.segN an = x at *
  generalize Nm.segN bn = y at *
  clear hra hrb hri hsa hsb ha13 hb13 hkd hod hol hv hm
  have hbl : (!Op.bytesLess x y == decide (an < bn)) = false := by
    rw [Go.Proofs.bytesLess_eq]
    simp [hlt]
  clear hlt
  have HIN : Hid (∀ W : World, Calls Tryd.prog 20 #[.slice (some ⟨W.heap.size, 0, none⟩) 1 1, str z] (W.alloc (.cells #[str z] 9)) fun e w' => e = .returned (.bool true) ∧ w' = W.alloc (.cells #[str z] 9)) := Lib.hid fun W => by
    have h := in_any (some ⟨W.heap.size, 0, none⟩) 1 1 [z] z (W.alloc (.cells #[str z] 9)) ⟨Nat.le_refl _, by omega, fun e => (by cases e), fun j hj => ⟨_, 0, rfl, by
      have hj0 : j = 0 := by simpa using hj
      subst hj0
      exact strs_at W [z] _ _ _ rfl 0 z rfl⟩⟩ rfl (by omega)
    simpa using h
  rcases hz with hz | ⟨hz, hk8⟩
  · subst hz
    go_enter Tryd.func4, Tryd.ntmps4
    go_wp2_with (first
      | (go_at_call 7; refine HF.out.mono ?_; rintro e w1 ⟨rfl, hb1⟩; have B1 := Lib.hid hb1; clear hb1)
      | (go_at_call 18; first | ((with_reducible refine (HLA.out _).mono ?_); rintro e w1' ⟨rfl, rfl⟩) | ((with_reducible refine (HLB.out _).mono ?_); rintro e w1' ⟨rfl, rfl⟩))
      | (go_at_call 19; refine (HNI.out _).mono ?_; rintro e w1' ⟨rfl, rfl⟩)
      | (go_at_call 14; refine (HSB.out _ (HV.out.pow.below B2.out)).mono ?_; rintro e w3 ⟨rfl, hb3⟩; have B3 := Lib.hid (B2.out.trans (hb3.mono B2.out.size)); clear hb3)
      | (go_at_call 14; refine (HSA.out _ (HV.out.pow.below B1.out)).mono ?_; rintro e w2 ⟨rfl, hb2⟩; have B2 := Lib.hid (B1.out.trans (hb2.mono B1.out.size)); clear hb2)
      | (go_at_call 8; refine (HBO.out _ (HV.out.below B8.out)).mono ?_; rintro e w9 ⟨rfl, hb9⟩; have B9 := Lib.hid (B8.out.trans (hb9.mono B8.out.size)); clear hb9)
      | (go_at_call 8; refine (HBS.out _ (HV.out.below B3.out)).mono ?_; rintro e w4 ⟨rfl, hb4⟩; have B4 := Lib.hid (B3.out.trans (hb4.mono B3.out.size)); clear hb4)
      | (go_at_call 12; refine (HVO.out w7).mono ?_; rintro e w8 ⟨rfl, hb8⟩; have B8 := Lib.hid (B7.out.trans (hb8.mono B7.out.size)); clear hb8)
      | (go_at_call 12; refine (HVS.out w4).mono ?_; rintro e w5 ⟨rfl, hb5⟩; have B5 := Lib.hid (B4.out.trans (hb5.mono B4.out.size)); clear hb5)
      | (go_at_call 16; refine (HOK.out _ (HV.out.pow.below B10.out)).mono ?_; rintro e w11 ⟨rfl, hb11⟩; have B11 := Lib.hid (B10.out.trans (hb11.mono B10.out.size)); clear hb11)
      | (go_at_call 16; refine (HOD.out _ (HV.out.pow.below B5.out)).mono ?_; rintro e w6 ⟨rfl, hb6⟩; have B6 := Lib.hid (B5.out.trans (hb6.mono B5.out.size)); clear hb6)
      | (go_at_call 10; refine (HPS.out _ (HV.out.below B9.out) (HM.out.below B9.out)).mono ?_; rintro e w10 ⟨rfl, hb10⟩; have B10 := Lib.hid (B9.out.trans (hb10.mono B9.out.size)); clear hb10)
      | (go_at_call 10; refine (HPO.out _ (HV.out.below B6.out) (HM.out.below B6.out)).mono ?_; rintro e w7 ⟨rfl, hb7⟩; have B7 := Lib.hid (B6.out.trans (hb7.mono B6.out.size)); clear hb7)
      | fail)
    go_ret
    exact ⟨rfl, B11.out⟩
  · have hze : z.isEmpty = false := by cases z with | nil => simp at hz; omega | cons _ _ => rfl
    have hw : IntKind.i64.wrap (29 + (kind.length : Int)) = ((29 + kind.length : Nat) : Int) := by rw [IntWalk.i64_in _ (by omega)]; omega
    have heq : ((z.length : Int) == 29 + (kind.length : Int)) = true := by rw [beq_iff_eq]; omega
    have HZ := Lib.hid hz
    clear hz
    go_enter Tryd.func4, Tryd.ntmps4
    go_wp2_with (first
      | (go_at_call 7; refine HF.out.mono ?_; rintro e w1 ⟨rfl, hb1⟩; have B1 := Lib.hid hb1; clear hb1)
      | (go_at_call 18; first | ((with_reducible refine (HLA.out _).mono ?_); rintro e w1' ⟨rfl, rfl⟩) | ((with_reducible refine (HLB.out _).mono ?_); rintro e w1' ⟨rfl, rfl⟩))
      | (go_at_call 19; refine (HNI.out _).mono ?_; rintro e w1' ⟨rfl, rfl⟩)
      | (go_at_call 14; refine (HSB.out _ (HV.out.pow.below B2.out)).mono ?_; rintro e w3 ⟨rfl, hb3⟩; have B3 := Lib.hid (B2.out.trans (hb3.mono B2.out.size)); clear hb3)
      | (go_at_call 14; refine (HSA.out _ (HV.out.pow.below B1.out)).mono ?_; rintro e w2 ⟨rfl, hb2⟩; have B2 := Lib.hid (B1.out.trans (hb2.mono B1.out.size)); clear hb2)
      | (go_at_call 8; refine (HBO.out _ (HV.out.below B8.out)).mono ?_; rintro e w9 ⟨rfl, hb9⟩; have B9 := Lib.hid (B8.out.trans (hb9.mono B8.out.size)); clear hb9)
      | (go_at_call 8; refine (HBS.out _ (HV.out.below B3.out)).mono ?_; rintro e w4 ⟨rfl, hb4⟩; have B4 := Lib.hid (B3.out.trans (hb4.mono B3.out.size)); clear hb4)
      | (go_at_call 12; refine (HVO.out w7).mono ?_; rintro e w8 ⟨rfl, hb8⟩; have B8 := Lib.hid (B7.out.trans (hb8.mono B7.out.size)); clear hb8)
      | (go_at_call 12; refine (HVS.out w4).mono ?_; rintro e w5 ⟨rfl, hb5⟩; have B5 := Lib.hid (B4.out.trans (hb5.mono B4.out.size)); clear hb5)
      | (go_at_call 16; refine (HOK.out _ (HV.out.pow.below B10.out)).mono ?_; rintro e w11 ⟨rfl, hb11⟩; have B11 := Lib.hid (B10.out.trans (hb11.mono B10.out.size)); clear hb11)
      | (go_at_call 16; refine (HOD.out _ (HV.out.pow.below B5.out)).mono ?_; rintro e w6 ⟨rfl, hb6⟩; have B6 := Lib.hid (B5.out.trans (hb6.mono B5.out.size)); clear hb6)
      | (go_at_call 10; refine (HPS.out _ (HV.out.below B9.out) (HM.out.below B9.out)).mono ?_; rintro e w10 ⟨rfl, hb10⟩; have B10 := Lib.hid (B9.out.trans (hb10.mono B9.out.size)); clear hb10)
      | (go_at_call 10; refine (HPO.out _ (HV.out.below B6.out) (HM.out.below B6.out)).mono ?_; rintro e w7 ⟨rfl, hb7⟩; have B7 := Lib.hid (B6.out.trans (hb7.mono B6.out.size)); clear hb7)
      | (go_at_call 20; refine (HIN.out w11).mono ?_; rintro e w12 ⟨rfl, rfl⟩)
      | fail)
    go_ret
    exact ⟨rfl, B11.out.alloc B11.out.size _⟩
end Go.Proofs.YtklmbfmcfjibbaaDoor
