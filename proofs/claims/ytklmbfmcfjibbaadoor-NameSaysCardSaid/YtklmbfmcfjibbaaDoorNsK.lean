/-
  The reference's objects' names read back.
-/
import Derived.Test.YtklmbfmcfjibbaaDoorNsI
namespace Go.Proofs.YtklmbfmcfjibbaaDoor
open Go.RowKit Go.Shelf

theorem kind_len {k : List UInt8} (h : Nm.kindly k = true) : 1 ≤ k.length ∧ k.length ≤ 8 := by
  unfold Nm.kindly at h
  simp only [Bool.and_eq_true, decide_eq_true_eq] at h
  exact h.1
theorem b45 {c : UInt8} (h : c ≠ 45) : (B c != 45) = true := by
  rw [bne_iff_ne]
  intro e
  unfold B at e
  exact h (UInt8.toNat_inj.1 (show c.toNat = 45 by omega))
/-- What an object's name is like. -/
structure ObjLike (s : List UInt8) (i : Nat) (k : List UInt8) (b : Nat) : Prop where
  len : s.length = 29 + k.length
  head : s.take 4 = [115, 101, 103, 45]
  at14 : s.getD 14 0 = 45
  atE : s.getD (s.length - 14) 0 = 45
  id : (s.drop 4).take 10 = Nm.dgs 10 i
  kind : (s.drop 15).take (s.length - 29) = k
  base : s.drop (s.length - 13) = Nm.dgs 13 b
theorem obj_like (i : Nat) (k : List UInt8) (b : Nat) : ObjLike (Nm.objN i k b) i k b := by
  have l1 := Nm.dgs_length 10 i
  have l2 := Nm.dgs_length 13 b
  have hl := Nm.objN_length i k b
  have e1 : ((Nm.objN i k b).drop 4).take 10 = Nm.dgs 10 i := by
    show (Nm.dgs 10 i ++ _).take 10 = _
    rw [← l1, List.take_left']
    rfl
  have e14 : (Nm.objN i k b).drop 14 = 45 :: (k ++ (45 :: Nm.dgs 13 b)) := by
    show (Nm.dgs 10 i ++ (45 :: (k ++ (45 :: Nm.dgs 13 b)))).drop 10 = _
    rw [List.drop_append, l1]
    simp [List.drop_eq_nil_of_le, l1]
  have e2 : (Nm.objN i k b).drop 15 = k ++ (45 :: Nm.dgs 13 b) := by
    rw [show 15 = 14 + 1 from rfl, ← List.drop_drop, e14]
    rfl
  have eE : (Nm.objN i k b).drop (15 + k.length) = 45 :: Nm.dgs 13 b := by
    rw [← List.drop_drop, e2]
    simp
  have e3 : (Nm.objN i k b).drop ((Nm.objN i k b).length - 13) = Nm.dgs 13 b := by
    rw [hl, show 29 + k.length - 13 = 15 + k.length + 1 by omega, ← List.drop_drop, eE]
    rfl
  have gd : ∀ (l : List UInt8) (j : Nat) (x : UInt8) (r : List UInt8), l.drop j = x :: r → l.getD j 0 = x := fun l j x r h => by
    have h1 : l[j]? = some x := by
      have := congrArg (·[0]?) h
      simpa [List.getElem?_drop] using this
    simp [List.getD, h1]
  exact ⟨hl, rfl, gd _ _ _ _ e14, by rw [hl, show 29 + k.length - 14 = 15 + k.length by omega]; exact gd _ _ _ _ eE, e1, by rw [e2, hl, show 29 + k.length - 29 = k.length by omega]; simp, e3⟩
theorem obj_made (s : List UInt8) (h30 : 30 ≤ s.length) (hd : s.take 4 = [115, 101, 103, 45]) (h14 : s.getD 14 0 = 45) (hE : s.getD (s.length - 14) 0 = 45)
    (h1 : ∀ c ∈ (s.drop 4).take 10, Nm.digit c) (h2 : ∀ c ∈ s.drop (s.length - 13), Nm.digit c) : s = Nm.objN (Nm.val 0 ((s.drop 4).take 10)) ((s.drop 15).take (s.length - 29)) (Nm.val 0 (s.drop (s.length - 13))) := by
  have l1 : ((s.drop 4).take 10).length = 10 := by rw [List.length_take, List.length_drop]; omega
  have l2 : (s.drop (s.length - 13)).length = 13 := by rw [List.length_drop]; omega
  unfold Nm.objN
  rw [Nm.dgs_val 10 _ l1 h1, Nm.dgs_val 13 _ l2 h2]
  have dc : ∀ (j : Nat), j < s.length → s.drop j = s.getD j 0 :: s.drop (j + 1) := fun j hj => by
    rw [List.drop_eq_getElem_cons hj]
    simp [List.getD, hj]
  have q1 := dc 14 (by omega)
  have q2 := dc (s.length - 14) (by omega)
  rw [h14] at q1
  rw [hE, show s.length - 14 + 1 = s.length - 13 by omega] at q2
  have q3 : s.drop 15 = (s.drop 15).take (s.length - 29) ++ s.drop (s.length - 14) := by
    have e : s.drop (s.length - 14) = (s.drop 15).drop (s.length - 29) := by rw [List.drop_drop]; congr 1; omega
    rw [e, List.take_append_drop]
  have q4 : s.drop 4 = (s.drop 4).take 10 ++ s.drop 14 := by
    have e : s.drop 14 = (s.drop 4).drop 10 := by rw [List.drop_drop]
    rw [e, List.take_append_drop]
  have q5 : s = s.take 4 ++ s.drop 4 := (List.take_append_drop 4 s).symm
  rw [← q2, ← q3, ← q1, ← q4]
  show s = [115, 101, 103, 45] ++ s.drop 4
  rw [← hd]
  exact q5

set_option maxRecDepth 100000 in
set_option maxHeartbeats 4000000 in
theorem parts1_any (s : List UInt8) (w : World) :
    Calls Tryd.prog 11 #[str s] w fun e w' => e = .returned (PtV (partsOf s)) ∧ w' = w := by
  obtain ⟨r, hr⟩ : ∃ r, r = PtV (partsOf s) := ⟨_, rfl⟩
  rw [← hr]
  have HR := Lib.hid hr
  clear hr
  have HNO : Hid ((∀ (i : Nat) k (b : Nat), Nm.idly (i : Int) → Nm.kindly k = true → Nm.right (b : Int) → s = Nm.objN i k b → False) → r = .tuple #[.int .i64 0, .string ⟨#[]⟩, .int .i64 0, .bool false]) := Lib.hid fun h => by
    rw [HR.out, partsOf_no s fun i k b h1 h2 h3 h4 => h i k b h1 h2 h3 h4]
    rfl
  obtain ⟨L, hL⟩ : ∃ L, L = s.length := ⟨_, rfl⟩
  have hsz : (⟨s.toArray⟩ : ByteArray).size = L := by rw [hL]; show s.toArray.size = _; simp
  by_cases c1 : L < 30
  · have HF := Lib.hid (HNO.out fun i k b _ hk _ e => by have h := (obj_like i k b).len; rw [← e] at h; have := kind_len hk; omega)
    clear hL
    have c1' : decide ((L : Int) < 30) = true := by simp; omega
    go_enter Tryd.func11, Tryd.ntmps11
    go_wp2_with fail
    go_returns
    exact ⟨by rw [HF.out] <;> rfl, rfl⟩
  by_cases c2 : 37 < L
  · have HF := Lib.hid (HNO.out fun i k b _ hk _ e => by have h := (obj_like i k b).len; rw [← e] at h; have := kind_len hk; omega)
    clear hL
    have c1' : decide ((L : Int) < 30) = false := by simp; omega
    have c2' : decide ((37 : Int) < (L : Int)) = true := by simp; omega
    go_enter Tryd.func11, Tryd.ntmps11
    go_wp2_with fail
    go_returns
    exact ⟨by rw [HF.out] <;> rfl, rfl⟩
  have c1' : decide ((L : Int) < 30) = false := by simp; omega
  have c2' : decide ((37 : Int) < (L : Int)) = false := by simp; omega
  have hb1 : (30 : Int) ≤ (L : Int) := by omega
  have hb2 : (L : Int) ≤ 37 := by omega
  have hc4 : (Instr.slice 9 (str s) none (some (.int .i64 4)) none).run Tryd.prog w = .ok (str (s.take 4)) w := cut_h s 4 (by omega) w
  have hi14 : (Instr.index 9 (str s) (.int .i64 14)).run Tryd.prog w = .ok (.int .u8 (B (s.getD 14 0))) w := str_index s 14 (by omega) w
  have hiE : (Instr.index 9 (str s) (.int .i64 ((L : Int) - 14))).run Tryd.prog w = .ok (.int .u8 (B (s.getD (s.length - 14) 0))) w := by
    have h := str_index s (s.length - 14) (by omega) w
    rwa [show ((s.length - 14 : Nat) : Int) = (L : Int) - 14 by omega] at h
  have hcI : (Instr.slice 9 (str s) (some (.int .i64 4)) (some (.int .i64 14)) none).run Tryd.prog w = .ok (str ((s.drop 4).take 10)) w := cut_lh s 4 14 (by omega) (by omega) w
  have hcB : (Instr.slice 9 (str s) (some (.int .i64 ((L : Int) - 13))) none none).run Tryd.prog w = .ok (str (s.drop (s.length - 13))) w := by
    have h := cut_l s (s.length - 13) (by omega) w
    rwa [show ((s.length - 13 : Nat) : Int) = (L : Int) - 13 by omega] at h
  have hcK : (Instr.slice 9 (str s) (some (.int .i64 15)) (some (.int .i64 ((L : Int) - 14))) none).run Tryd.prog w = .ok (str ((s.drop 15).take (s.length - 29))) w := by
    have h := cut_lh s 15 (s.length - 14) (by omega) (by omega) w
    rw [show s.length - 14 - 15 = s.length - 29 by omega] at h
    rwa [show ((s.length - 14 : Nat) : Int) = (L : Int) - 14 by omega] at h
  have hl10 : ((s.drop 4).take 10).length ≤ 17 := by rw [List.length_take]; omega
  have hl13 : (s.drop (s.length - 13)).length ≤ 17 := by rw [List.length_drop]; omega
  by_cases c3 : s.take 4 = [115, 101, 103, 45]
  case neg =>
    have HF := Lib.hid (HNO.out fun i k b _ _ _ e => c3 (by rw [e]; exact (obj_like i k b).head))
    have c3' : (!s.take 4 == [115, 101, 103, 45]) = true := by rw [Bool.not_eq_true', beq_eq_false_iff_ne]; exact c3
    generalize s.take 4 = t at *
    clear hL c1 c2 c3 hi14 hiE hcI hcB hcK hl10 hl13
    go_enter Tryd.func11, Tryd.ntmps11
    go_wp2_with fail
    go_returns
    exact ⟨by rw [HF.out] <;> rfl, rfl⟩
  have c3' : (!s.take 4 == [115, 101, 103, 45]) = false := by rw [c3]; rfl
  by_cases c4 : s.getD 14 0 = 45
  case neg =>
    have HF := Lib.hid (HNO.out fun i k b _ _ _ e => c4 (by rw [e]; exact (obj_like i k b).at14))
    have c4' : (B (s.getD 14 0) != 45) = true := b45 c4
    generalize B (s.getD 14 0) = x at *
    generalize s.take 4 = t at *
    clear hL c1 c2 c3 c4 hiE hcI hcB hcK hl10 hl13
    go_enter Tryd.func11, Tryd.ntmps11
    go_wp2_with fail
    go_returns
    exact ⟨by rw [HF.out] <;> rfl, rfl⟩
  have c4' : (B (s.getD 14 0) != 45) = false := by rw [c4]; rfl
  by_cases c5 : s.getD (s.length - 14) 0 = 45
  case neg =>
    have HF := Lib.hid (HNO.out fun i k b _ _ _ e => c5 (by rw [e]; exact (obj_like i k b).atE))
    have c5' := b45 c5
    generalize B (s.getD (s.length - 14) 0) = y at *
    generalize B (s.getD 14 0) = x at *
    generalize s.take 4 = t at *
    clear hL c1 c2 c3 c4 c5 hcI hcB hcK hl10 hl13
    go_enter Tryd.func11, Tryd.ntmps11
    go_wp2_with fail
    go_returns
    exact ⟨by rw [HF.out] <;> rfl, rfl⟩
  have c5' : (B (s.getD (s.length - 14) 0) != 45) = false := by rw [c5]; rfl
  have HNI := Lib.hid (number1_any ((s.drop 4).take 10) w hl10)
  have HNB := Lib.hid (number1_any (s.drop (s.length - 13)) w hl13)
  have HKD := Lib.hid (kindly1_any ((s.drop 15).take (s.length - 29)) w)
  have hid' := fun i k b (e : s = Nm.objN i k b) => show (s.drop 4).take 10 = Nm.dgs 10 i by rw [e]; exact (obj_like i k b).id
  have hbs' := fun i k b (e : s = Nm.objN i k b) => show s.drop (s.length - 13) = Nm.dgs 13 b by rw [e]; exact (obj_like i k b).base
  have hkd' := fun i k b (e : s = Nm.objN i k b) => show (s.drop 15).take (s.length - 29) = k by rw [e]; exact (obj_like i k b).kind
  have hmk := obj_made s (by omega) c3 c4 c5
  generalize hy : B (s.getD (s.length - 14) 0) = y at *
  generalize hx : B (s.getD 14 0) = x at *
  generalize ht4 : s.take 4 = t at *
  generalize (s.drop 4).take 10 = di at *
  generalize s.drop (s.length - 13) = db at *
  generalize (s.drop 15).take (s.length - 29) = kd at *
  clear hy hx ht4
  by_cases g1 : ∀ c ∈ di, Nm.digit c
  case neg =>
    have HF := Lib.hid (HNO.out fun i k b _ _ _ e => g1 (by rw [hid' i k b e]; exact Nm.dgs_digit 10 i))
    rw [show numB di = (0, false) from by unfold numB; rw [if_neg g1]] at HNI
    clear hL c1 c2 c3 c4 c5 hid' hbs' hkd' hmk g1 hl10 hl13
    generalize numB db = nb at *
    go_enter Tryd.func11, Tryd.ntmps11
    go_wp2_with (first
      | (go_at_call 26; first | ((with_reducible refine HNI.out.mono ?_); rintro e w1 ⟨rfl, rfl⟩) | ((with_reducible refine HNB.out.mono ?_); rintro e w1 ⟨rfl, rfl⟩))
      | (go_at_call 27; refine HNO.out.mono ?_; rintro e w1 ⟨rfl, rfl⟩)
      | (go_at_call 30; refine HKD.out.mono ?_; rintro e w1 ⟨rfl, rfl⟩)
      | fail)
    go_returns
    exact ⟨by rw [HF.out] <;> rfl, rfl⟩
  rw [show numB di = ((Nm.val 0 di : Int), true) from by unfold numB; rw [if_pos g1]] at HNI
  by_cases g2 : ∀ c ∈ db, Nm.digit c
  case neg =>
    have HF := Lib.hid (HNO.out fun i k b _ _ _ e => g2 (by rw [hbs' i k b e]; exact Nm.dgs_digit 13 b))
    rw [show numB db = (0, false) from by unfold numB; rw [if_neg g2]] at HNB
    clear hL c1 c2 c3 c4 c5 hid' hbs' hkd' hmk g1 g2 hl10 hl13
    generalize Nm.val 0 di = vi at *
    go_enter Tryd.func11, Tryd.ntmps11
    go_wp2_with (first
      | (go_at_call 26; first | ((with_reducible refine HNI.out.mono ?_); rintro e w1 ⟨rfl, rfl⟩) | ((with_reducible refine HNB.out.mono ?_); rintro e w1 ⟨rfl, rfl⟩))
      | (go_at_call 27; refine HNO.out.mono ?_; rintro e w1 ⟨rfl, rfl⟩)
      | (go_at_call 30; refine HKD.out.mono ?_; rintro e w1 ⟨rfl, rfl⟩)
      | fail)
    go_returns
    exact ⟨by rw [HF.out] <;> rfl, rfl⟩
  rw [show numB db = ((Nm.val 0 db : Int), true) from by unfold numB; rw [if_pos g2]] at HNB
  have hvi := fun i k b (hi : Nm.idly ((i : Nat) : Int)) (e : s = Nm.objN i k b) => show Nm.val 0 di = i by rw [hid' i k b e]; exact Nm.val_dgs 10 i (by have := Nm.idly_lt hi; simpa using this)
  have hvb := fun i k b (hb : Nm.right ((b : Nat) : Int)) (e : s = Nm.objN i k b) => show Nm.val 0 db = b by rw [hbs' i k b e]; exact Nm.val_dgs 13 b (by have := Nm.right_lt hb; simpa using this)
  have hmk2 := hmk g1 g2
  have hrt := right1_any ((Nm.val 0 db : Nat) : Int) w
  generalize Nm.val 0 di = vi at *
  generalize Nm.val 0 db = vb at *
  by_cases g3 : (2147483647 : Int) < (vi : Int)
  · have HF := Lib.hid (HNO.out fun i k b hi _ _ e => by have h := hvi i k b hi e; subst h; unfold Nm.idly at hi; omega)
    have g3' : decide ((2147483647 : Int) < (vi : Int)) = true := by simp [g3]
    clear hL c1 c2 c3 c4 c5 hid' hbs' hkd' hmk g1 g2 g3 hvi hvb hmk2 hl10 hl13 hrt
    go_enter Tryd.func11, Tryd.ntmps11
    go_wp2_with (first
      | (go_at_call 26; first | ((with_reducible refine HNI.out.mono ?_); rintro e w1 ⟨rfl, rfl⟩) | ((with_reducible refine HNB.out.mono ?_); rintro e w1 ⟨rfl, rfl⟩))
      | (go_at_call 27; refine HNO.out.mono ?_; rintro e w1 ⟨rfl, rfl⟩)
      | (go_at_call 30; refine HKD.out.mono ?_; rintro e w1 ⟨rfl, rfl⟩)
      | fail)
    go_returns
    exact ⟨by rw [HF.out] <;> rfl, rfl⟩
  have g3' : decide ((2147483647 : Int) < (vi : Int)) = false := by simp; omega
  by_cases g4 : Nm.right (vb : Int)
  case neg =>
    have HF := Lib.hid (HNO.out fun i k b _ _ hb e => g4 (by rw [hvb i k b hb e]; exact hb))
    rw [show rightB (vb : Int) = false from decide_eq_false g4] at hrt
    have HRT := Lib.hid hrt
    clear hL c1 c2 c3 c4 c5 hid' hbs' hkd' hmk g1 g2 g3 g4 hvi hvb hmk2 hl10 hl13 hrt
    go_enter Tryd.func11, Tryd.ntmps11
    go_wp2_with (first
      | (go_at_call 26; first | ((with_reducible refine HNI.out.mono ?_); rintro e w1 ⟨rfl, rfl⟩) | ((with_reducible refine HNB.out.mono ?_); rintro e w1 ⟨rfl, rfl⟩))
      | (go_at_call 27; refine HRT.out.mono ?_; rintro e w1 ⟨rfl, rfl⟩)
      | (go_at_call 30; refine HKD.out.mono ?_; rintro e w1 ⟨rfl, rfl⟩)
      | fail)
    go_returns
    exact ⟨by rw [HF.out] <;> rfl, rfl⟩
  rw [show rightB (vb : Int) = true from decide_eq_true g4] at hrt
  have HRT := Lib.hid hrt
  cases g5 : Nm.kindly kd with
  | false =>
    have HF := Lib.hid (HNO.out fun i k b _ hk _ e => by rw [← hkd' i k b e, g5] at hk; cases hk)
    rw [g5] at HKD
    clear hL c1 c2 c3 c4 c5 hid' hbs' hkd' hmk g1 g2 g3 g4 g5 hvi hvb hmk2 hl10 hl13 hrt
    go_enter Tryd.func11, Tryd.ntmps11
    go_wp2_with (first
      | (go_at_call 26; first | ((with_reducible refine HNI.out.mono ?_); rintro e w1 ⟨rfl, rfl⟩) | ((with_reducible refine HNB.out.mono ?_); rintro e w1 ⟨rfl, rfl⟩))
      | (go_at_call 27; refine HRT.out.mono ?_; rintro e w1 ⟨rfl, rfl⟩)
      | (go_at_call 30; refine HKD.out.mono ?_; rintro e w1 ⟨rfl, rfl⟩)
      | fail)
    go_returns
    exact ⟨by rw [HF.out] <;> rfl, rfl⟩
  | true =>
    have HF : Hid (r = .tuple #[.int .i64 (vi : Int), str kd, .int .i64 (vb : Int), .bool true]) := Lib.hid (by
      rw [HR.out, hmk2, partsOf_yes vi kd vb (by unfold Nm.idly; omega) g5 g4]
      rfl)
    rw [g5] at HKD
    clear hL c1 c2 c3 c4 c5 hid' hbs' hkd' hmk g1 g2 g3 g4 g5 hvi hvb hmk2 hl10 hl13 hrt
    go_enter Tryd.func11, Tryd.ntmps11
    go_wp2_with (first
      | (go_at_call 26; first | ((with_reducible refine HNI.out.mono ?_); rintro e w1 ⟨rfl, rfl⟩) | ((with_reducible refine HNB.out.mono ?_); rintro e w1 ⟨rfl, rfl⟩))
      | (go_at_call 27; refine HRT.out.mono ?_; rintro e w1 ⟨rfl, rfl⟩)
      | (go_at_call 30; refine HKD.out.mono ?_; rintro e w1 ⟨rfl, rfl⟩)
      | fail)
    go_returns
    exact ⟨by rw [HF.out] <;> rfl, rfl⟩
end Go.Proofs.YtklmbfmcfjibbaaDoor
