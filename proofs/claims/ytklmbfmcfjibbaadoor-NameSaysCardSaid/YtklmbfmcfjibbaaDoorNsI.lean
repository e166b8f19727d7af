/-
  The reference's names read back: segments, objects.
-/
import Derived.Test.YtklmbfmcfjibbaaDoorNsH
import Derived.Laws.Strings2
import Derived.Laws.Strings3
namespace Go.Proofs.YtklmbfmcfjibbaaDoor
open Go.RowKit Go.Shelf

theorem ext_str (l : List UInt8) (lo hi : Nat) : Value.string ((⟨l.toArray⟩ : ByteArray).extract lo hi) = str ((l.drop lo).take (hi - lo)) := by
  rw [str_data]
  congr 2
  simp [List.extract_eq_take_drop]
theorem cut_lh (l : List UInt8) (lo hi : Nat) (h1 : lo ≤ hi) (h2 : hi ≤ l.length) (W : World) : (Instr.slice 9 (str l) (some (.int .i64 (lo : Int))) (some (.int .i64 (hi : Int))) none).run Tryd.prog W = .ok (str ((l.drop lo).take (hi - lo))) W := by
  have hsz : (⟨l.toArray⟩ : ByteArray).size = l.length := by show l.toArray.size = _; simp
  rw [run_slice_string _ _ _ _ _ _ _ Tryd.underlying9 (by omega) (by omega) (by rw [hsz]; omega)]
  rw [Int.toNat_natCast, Int.toNat_natCast, ext_str]
theorem cut_h (l : List UInt8) (hi : Nat) (h2 : hi ≤ l.length) (W : World) : (Instr.slice 9 (str l) none (some (.int .i64 (hi : Int))) none).run Tryd.prog W = .ok (str (l.take hi)) W := by
  have hsz : (⟨l.toArray⟩ : ByteArray).size = l.length := by show l.toArray.size = _; simp
  rw [run_slice_string_to_if _ _ _ _ _ Tryd.underlying9, if_pos ⟨by omega, by rw [hsz]; omega⟩]
  rw [Int.toNat_natCast, ext_str]
  simp
theorem cut_l (l : List UInt8) (lo : Nat) (h2 : lo ≤ l.length) (W : World) : (Instr.slice 9 (str l) (some (.int .i64 (lo : Int))) none none).run Tryd.prog W = .ok (str (l.drop lo)) W := by
  have hsz : (⟨l.toArray⟩ : ByteArray).size = l.length := by show l.toArray.size = _; simp
  rw [run_slice_string_from_if _ _ _ _ _ Tryd.underlying9, if_pos ⟨by omega, by rw [hsz]; omega⟩]
  rw [Int.toNat_natCast, ext_str, hsz, List.take_of_length_le (by simp)]

set_option maxRecDepth 100000 in
set_option maxHeartbeats 1000000 in
theorem object1_any (i : Int) (k : List UInt8) (b : Int) (w : World) :
    Calls Tryd.prog 17 #[.int .i64 i, str k, .int .i64 b] w fun e w' => e = .returned (str (Nm.obj i k b)) ∧ w' = w := by
  have HK := Lib.hid (kindly1_any k w)
  by_cases h1 : i < 0
  · have d1 : decide (i < 0) = true := by simp [h1]
    have ho : Nm.obj i k b = [] := by unfold Nm.obj; rw [if_neg (fun h => by have := h.1; unfold Nm.idly at this; omega)]
    rw [ho]
    clear ho
    go_enter Tryd.func17, Tryd.ntmps17
    go_wp2_with fail
    go_ret
    exact ⟨rfl, rfl⟩
  · have d1 : decide (i < 0) = false := by simp; omega
    by_cases h2 : 2147483647 < i
    · have d2 : decide (2147483647 < i) = true := by simp [h2]
      have ho : Nm.obj i k b = [] := by unfold Nm.obj; rw [if_neg (fun h => by have := h.1; unfold Nm.idly at this; omega)]
      rw [ho]
      clear ho
      go_enter Tryd.func17, Tryd.ntmps17
      go_wp2_with fail
      go_ret
      exact ⟨rfl, rfl⟩
    · have d2 : decide (2147483647 < i) = false := by simp; omega
      cases h3 : Nm.kindly k with
      | false =>
        have ho : Nm.obj i k b = [] := by unfold Nm.obj; rw [if_neg (fun h => by rw [h3] at h; cases h.2.1)]
        rw [ho]
        rw [h3] at HK
        clear ho h3
        go_enter Tryd.func17, Tryd.ntmps17
        go_wp2_with (first
          | (go_at_call 30; refine HK.out.mono ?_; rintro e w1 ⟨rfl, rfl⟩)
          | fail)
        go_ret
        exact ⟨rfl, rfl⟩
      | true =>
        rw [h3] at HK
        by_cases h4 : Nm.right b
        · have hb := h4
          unfold Nm.right at hb
          obtain ⟨bn, rfl⟩ := Int.eq_ofNat_of_zero_le hb.1
          obtain ⟨n, rfl⟩ := Int.eq_ofNat_of_zero_le (show 0 ≤ i by omega)
          have hr := right1_any (bn : Int) w
          rw [show rightB (bn : Int) = true from decide_eq_true h4] at hr
          have HR := Lib.hid hr
          have HD1 := Lib.hid (digits1_any 10 n 10 rfl w (by omega) (by omega))
          have HD2 := Lib.hid (digits1_any 13 bn 13 rfl w (by omega) (by omega))
          have ho : Nm.obj (n : Int) k (bn : Int) = Nm.seg4 ++ (Nm.dgs 10 n ++ (45 :: (k ++ (45 :: Nm.dgs 13 bn)))) := by
            unfold Nm.obj
            rw [if_pos ⟨by unfold Nm.idly; omega, h3, h4⟩]
            rfl
          have hl1 : (Nm.dgs 10 n).length ≤ 10 := by rw [Nm.dgs_length]; exact Nat.le_refl _
          have hl2 : (Nm.dgs 13 bn).length ≤ 13 := by rw [Nm.dgs_length]; exact Nat.le_refl _
          have hk : k.length ≤ 8 := by
            have h3' := h3
            unfold Nm.kindly at h3'
            simp only [Bool.and_eq_true, decide_eq_true_eq] at h3'
            exact h3'.1.2
          have HO := Lib.hid ho
          generalize Nm.obj (n : Int) k (bn : Int) = o at *
          generalize Nm.dgs 10 n = x1 at *
          generalize Nm.dgs 13 bn = x2 at *
          clear ho h3 hr h4 hb
          go_enter Tryd.func17, Tryd.ntmps17
          go_wp2_with (first
            | (go_at_call 30; refine HK.out.mono ?_; rintro e w1 ⟨rfl, rfl⟩)
            | (go_at_call 27; refine HR.out.mono ?_; rintro e w1 ⟨rfl, rfl⟩)
            | (go_at_call 34; first | ((with_reducible refine HD1.out.mono ?_); rintro e w1 ⟨rfl, rfl⟩) | ((with_reducible refine HD2.out.mono ?_); rintro e w1 ⟨rfl, rfl⟩))
            | fail)
          go_ret
          refine ⟨?_, rfl⟩
          rw [HO.out]
          show Ending.returned (Value.string _) = _
          congr 2
          apply ByteArray.ext
          simp [Nm.seg4]
        · have hr := right1_any b w
          rw [show rightB b = false from decide_eq_false h4] at hr
          have HR := Lib.hid hr
          have ho : Nm.obj i k b = [] := by unfold Nm.obj; rw [if_neg (fun h => h4 h.2.2)]
          rw [ho]
          clear ho h3 hr h4
          go_enter Tryd.func17, Tryd.ntmps17
          go_wp2_with (first
            | (go_at_call 30; refine HK.out.mono ?_; rintro e w1 ⟨rfl, rfl⟩)
            | (go_at_call 27; refine HR.out.mono ?_; rintro e w1 ⟨rfl, rfl⟩)
            | fail)
          go_ret
          exact ⟨rfl, rfl⟩

set_option maxRecDepth 100000 in
set_option maxHeartbeats 1000000 in
theorem base1_any (s : List UInt8) (w : World) :
    Calls Tryd.prog 9 #[str s] w fun e w' => e = .returned (.tuple #[.int .i64 (baseOf s).1, .bool (baseOf s).2]) ∧ w' = w := by
  obtain ⟨r, hr⟩ : ∃ r, r = baseOf s := ⟨_, rfl⟩
  rw [← hr]
  have HR := Lib.hid hr
  clear hr
  have hsz : (⟨s.toArray⟩ : ByteArray).size = s.length := by show s.toArray.size = _; simp
  by_cases hL : s.length = 17
  · have hc4 : (Instr.slice 9 (str s) none (some (.int .i64 4)) none).run Tryd.prog w = .ok (str (s.take 4)) w := cut_h s 4 (by omega) w
    have hcd : (Instr.slice 9 (str s) (some (.int .i64 4)) none none).run Tryd.prog w = .ok (str (s.drop 4)) w := cut_l s 4 (by omega) w
    have hdl : (s.drop 4).length = 13 := by rw [List.length_drop]; omega
    have hs : s = s.take 4 ++ s.drop 4 := (List.take_append_drop 4 s).symm
    have hd17 : ((s.length : Int) != 17) = false := by rw [hL]; rfl
    have hd17' : (s.length != 17) = false := by rw [hL]; rfl
    by_cases hp : s.take 4 = Nm.log
    · have HN := Lib.hid (number1_any (s.drop 4) w (by omega))
      have hpe : (!s.take 4 == [108, 111, 103, 45]) = false := by rw [hp]; rfl
      rw [hp] at hs
      generalize hdd : s.drop 4 = d at *
      by_cases hdg : ∀ c ∈ d, Nm.digit c
      · have hn : numB d = ((Nm.val 0 d : Int), true) := by unfold numB; rw [if_pos hdg]
        rw [hn] at HN
        have hdv := Nm.dgs_val 13 d hdl hdg
        have hseg : s = Nm.segN (Nm.val 0 d) := by rw [hs]; unfold Nm.segN; rw [hdv]
        have hvn : ∀ n : Nat, Nm.right (n : Int) → s = Nm.segN n → Nm.val 0 d = n := fun n h1 h2 => by
          have e1 : d = Nm.dgs 13 n := by rw [← hdd, h2]; rfl
          rw [e1]
          exact Nm.val_dgs 13 n (by have := Nm.right_lt h1; simpa using this)
        generalize Nm.val 0 d = v at *
        have hrt := right1_any (v : Int) w
        by_cases hrr : Nm.right (v : Int)
        · rw [show rightB (v : Int) = true from decide_eq_true hrr] at hrt
          have HF : Hid (r = ((v : Int), true)) := Lib.hid (by rw [HR.out, hseg]; exact baseOf_yes v hrr)
          have HRT := Lib.hid hrt
          clear hs hdg hn hdv hseg hrt hrr hp hdd hdl hL hvn
          go_enter Tryd.func9, Tryd.ntmps9
          go_wp2_with (first
            | (go_at_call 26; refine HN.out.mono ?_; rintro e w1 ⟨rfl, rfl⟩)
            | (go_at_call 27; refine HRT.out.mono ?_; rintro e w1 ⟨rfl, rfl⟩)
            | fail)
          go_ret2
          exact ⟨by rw [HF.out]; rfl, rfl⟩
        · rw [show rightB (v : Int) = false from decide_eq_false hrr] at hrt
          have HF : Hid (r = (0, false)) := Lib.hid (by
            rw [HR.out]
            exact baseOf_no s fun n h1 h2 => hrr (by rw [hvn n h1 h2]; exact h1))
          have HRT := Lib.hid hrt
          clear hs hdg hn hdv hseg hrt hrr hp hdd hdl hL hvn
          go_enter Tryd.func9, Tryd.ntmps9
          go_wp2_with (first
            | (go_at_call 26; refine HN.out.mono ?_; rintro e w1 ⟨rfl, rfl⟩)
            | (go_at_call 27; refine HRT.out.mono ?_; rintro e w1 ⟨rfl, rfl⟩)
            | fail)
          go_ret2
          exact ⟨by rw [HF.out]; rfl, rfl⟩
      · have hn : numB d = (0, false) := by unfold numB; rw [if_neg hdg]
        rw [hn] at HN
        have HF : Hid (r = (0, false)) := Lib.hid (by
          rw [HR.out]
          refine baseOf_no s fun n h1 h2 => hdg ?_
          have e1 : d = Nm.dgs 13 n := by rw [← hdd, h2]; rfl
          rw [e1]
          exact Nm.dgs_digit 13 n)
        clear hs hdg hn hp hdd hdl hL
        go_enter Tryd.func9, Tryd.ntmps9
        go_wp2_with (first
          | (go_at_call 26; refine HN.out.mono ?_; rintro e w1 ⟨rfl, rfl⟩)
          | fail)
        go_ret2
        exact ⟨by rw [HF.out]; rfl, rfl⟩
    · have hpe : (!s.take 4 == [108, 111, 103, 45]) = true := by rw [Bool.not_eq_true', beq_eq_false_iff_ne]; exact hp
      have HF : Hid (r = (0, false)) := Lib.hid (by
        rw [HR.out]
        exact baseOf_no s fun n h1 h2 => hp (by rw [h2]; rfl))
      generalize s.take 4 = t at *
      clear hs hcd hdl hp hL
      go_enter Tryd.func9, Tryd.ntmps9
      go_wp2_with fail
      go_ret2
      exact ⟨by rw [HF.out]; rfl, rfl⟩
  · have hd17 : ((s.length : Int) != 17) = true := by rw [bne_iff_ne]; omega
    have hd17' : (s.length != 17) = true := by rw [bne_iff_ne]; omega
    have HF : Hid (r = (0, false)) := Lib.hid (by
      rw [HR.out]
      exact baseOf_no s fun n h1 h2 => hL (by rw [h2]; exact Nm.segN_length n))
    clear hL
    go_enter Tryd.func9, Tryd.ntmps9
    go_wp2_with fail
    go_ret2
    exact ⟨by rw [HF.out]; rfl, rfl⟩
end Go.Proofs.YtklmbfmcfjibbaaDoor
