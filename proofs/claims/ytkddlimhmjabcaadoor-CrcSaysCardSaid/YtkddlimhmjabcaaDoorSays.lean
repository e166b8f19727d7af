/-
  The walk through CrcSays: whatever the bytes, the package's answers are the reference's.
-/
import Derived.Test.YtkddlimhmjabcaaDoorRef3
import Derived.Test.YtkddlimhmjabcaaDoorIs
namespace Go.Proofs.YtkddlimhmjabcaaDoor
open Go.RowKit Crc
attribute [local go_sem] BtoNat x32 n32 x8 and8_15 mod256 wrap8 xs32 Bd16toNat mul2

theorem four (d : List UInt8) (h : d.length = 4) : ∃ x0 x1 x2 x3, d = [x0, x1, x2, x3] := by
  match d, h with
  | [a, b, c, d], _ => exact ⟨a, b, c, d, rfl⟩

/-- What both Opens answer: one text and one error's number. -/
theorem opens_both (A : Option Addr) (cap : Nat) (l : List UInt8) (w : World) (p : Nat → Addr) (hl : l.length ≤ 500) (ha : Arg w A cap l) (ht : Tabs w) (hs : Sents w p) (hw : 4 ≤ w.heap.size) :
    ∃ (lx : List UInt8) (bad : Int), lx.length ≤ 500 ∧
      (∀ W, Below w.heap.size w W → Calls Tryd.prog 9 #[.slice A l.length cap] W fun e w' => ∃ Ax nx cx ev, e = .returned (.tuple #[.slice Ax nx cx, ev]) ∧ Reads w' Ax lx ∧ lx.length = nx ∧
        (∀ W', Below w.heap.size w W' → Calls Tryd.prog 17 #[ev, .int .i64 bad] W' fun e w'' => e = .returned (.bool true) ∧ Below w.heap.size w w'') ∧ Below W.heap.size W w') ∧
      (∀ W, Below w.heap.size w W → Calls Tryd.prog 10 #[.slice A l.length cap] W fun e w' => ∃ Ay ny cy, e = .returned (.tuple #[.slice Ay ny cy, .int .i64 bad]) ∧ Reads w' Ay lx ∧ lx.length = ny ∧ Below W.heap.size W w') := by
  have argW : ∀ W, Below w.heap.size w W → Arg W A cap l := fun W hb => ⟨ha.le, ha.max, ha.nil, ha.reads.below hb (Nat.le_refl _)⟩
  have isW : ∀ (k : Nat) (hk : k < 19) W', Below w.heap.size w W' → Calls Tryd.prog 17 #[errV (p k), .int .i64 ((101 + k : Nat) : Int)] W' fun e w'' => e = .returned (.bool true) ∧ Below w.heap.size w w'' := fun k hk W' hb =>
    (is_sent W' p (hs.below hb) k hk ((101 + k : Nat) : Int)).mono fun e w'' ⟨he, hb2⟩ => ⟨by rw [he]; simp, hb.trans (hb2.mono hb.size)⟩
  by_cases h4 : l.length < 4
  · refine ⟨[], 101, by simp, fun W hb => ?_, fun W hb => ?_⟩
    · refine (open_short A cap l.length W p h4 (hs.below hb)).mono ?_
      rintro e w' ⟨rfl, hb2⟩
      exact ⟨none, 0, 0, errV (p 0), rfl, .inl rfl, rfl, isW 0 (by omega), hb2⟩
    · refine (refOpen_short A cap l.length W h4).mono ?_
      rintro e w' ⟨rfl, rfl⟩
      exact ⟨none, 0, 0, rfl, .inl rfl, rfl, Below.refl _ _⟩
  · obtain ⟨n, hn⟩ : ∃ n, l.length = n + 4 := ⟨l.length - 4, by omega⟩
    obtain ⟨x0, x1, x2, x3, hx⟩ := four (l.drop n) (by simp; omega)
    have hword : w4 x0 x1 x2 x3 = word (l.drop n) := by rw [← w4_word, hx]; rfl
    have ho : Crc.opens l ↔ sum (l.take n) = word (l.drop n) := by unfold Crc.opens; rw [hn, Nat.add_sub_cancel]
    have htl : (l.take n).length = n := by simp; omega
    -- the reference's, at an address
    have refW : ∀ W, Below w.heap.size w W → ∀ nb, (U (w4 x0 x1 x2 x3) != U (sum (l.take n))) = nb → Calls Tryd.prog 10 #[.slice A l.length cap] W (RefOpenPost (!nb) A cap n W) := fun W hb nb hnb => by
      have hr := (argW W hb).reads
      rcases hr with h0 | ⟨b, off, e, hbb, hc⟩
      · rw [h0] at hn; simp at hn
      · subst e
        rw [hn]
        have hle := ha.le
        exact refOpen_long b off cap n l W hn (by omega) (by omega) (.inr ⟨b, off, rfl, hbb, hc⟩) x0 x1 x2 x3 hx nb hnb
    by_cases hg : Crc.opens l
    · refine ⟨l.take n, 0, by omega, fun W hb => ?_, fun W hb => ?_⟩
      · refine (open_at A cap l W p true (by simp [hg]) (by omega) (by omega) (argW W hb) (ht.below hb hw) (hs.below hb)).mono ?_
        rintro e w' ⟨hb2, h2⟩
        simp only [if_true] at h2
        obtain ⟨A3, c3, he, hr3⟩ := h2
        rw [hn, Nat.add_sub_cancel] at he hr3
        exact ⟨A3, n, c3, .nilIface, he, hr3, htl, fun W' hb' => (is_nil 0 W').mono fun e w'' ⟨he, hb3⟩ => ⟨by rw [he]; simp, hb'.trans (hb3.mono hb'.size)⟩, hb2⟩
      · refine (refW W hb false (by rw [bne_eq_false_iff_eq, hword, ho.1 hg])).mono ?_
        rintro e w' ⟨hb2, h2⟩
        simp only [Bool.not_false, if_true] at h2
        exact ⟨A, n, cap, h2, ((argW W hb).reads.below hb2 (Nat.le_refl _)).first n, htl, hb2⟩
    · refine ⟨[], 102, by simp, fun W hb => ?_, fun W hb => ?_⟩
      · refine (open_at A cap l W p false (by simp [hg]) (by omega) (by omega) (argW W hb) (ht.below hb hw) (hs.below hb)).mono ?_
        rintro e w' ⟨hb2, h2⟩
        simp only [Bool.false_eq_true, if_false] at h2
        exact ⟨none, 0, 0, errV (p 1), h2, .inl rfl, rfl, isW 1 (by omega), hb2⟩
      · refine (refW W hb true (by rw [bne_iff_ne]; intro e; apply hg; rw [ho]; have := U_inj e; rw [← this, hword])).mono ?_
        rintro e w' ⟨hb2, h2⟩
        simp only [Bool.not_true, Bool.false_eq_true, if_false] at h2
        exact ⟨none, 0, 0, h2, .inl rfl, rfl, hb2⟩

theorem readsAll_two (w : World) (a a' : Option Addr) (n n' cap cap' g : Nat) (l m : List UInt8) (e : TypeId) (hn : l.length = n) (hn' : m.length = n') (hg : g = w.heap.size) (h : Reads w a l) (h' : Reads w a' m) (hl : n ≤ 9223372036854775807) (hl' : n' ≤ 9223372036854775807) :
    ReadsAll (w.alloc (.cells #[.slice a n cap, .slice a' n' cap'] e)) (some ⟨g, 0, none⟩) [⟨a, cap, l⟩, ⟨a', cap', m⟩] := by
  subst hn hn' hg
  refine .inr ⟨_, _, rfl, by simp, fun k hk => ?_⟩
  match k, hk with
  | 0, _ =>
    refine ⟨?_, hl, h.alloc _⟩
    rw [World.cell?_alloc_mark]; simp [Part.val]
  | 1, _ =>
    refine ⟨?_, hl', h'.alloc _⟩
    rw [World.cell?_alloc_mark]; simp [Part.val]
  | k + 2, h => exact absurd h (by simp)

theorem says_far (A A' : Option Addr) (cap cap' : Nat) (l m : List UInt8) (w : World) (ha : Arg w A cap l) (ha' : Arg w A' cap' m) (ht : Tabs w) (hw : 4 ≤ w.heap.size) (hl : 500 < l.length ∨ 500 < m.length) :
    Calls Tryd.prog 3 #[.slice A l.length cap, .slice A' m.length cap'] w fun e w' => e = .returned (.bool true) ∧ Below w.heap.size w w' := by
  have h1 := ha.le
  have h2 := ha.max
  have h3 := ha'.le
  have h4 := ha'.max
  clear ha ha'
  by_cases a1 : 500 < l.length
  · clear hl
    go_enter Tryd.func3, Tryd.ntmps3
    go_wp2_with (go_at_call 8; refine (first_any _ ht hw).mono ?_; rintro e w1 ⟨rfl, hb1⟩)
    go_ret
    exact ⟨rfl, hb1⟩
  · have a2 : 500 < m.length := by omega
    clear hl
    go_enter Tryd.func3, Tryd.ntmps3
    go_wp2_with (go_at_call 8; refine (first_any _ ht hw).mono ?_; rintro e w1 ⟨rfl, hb1⟩)
    go_ret
    exact ⟨rfl, hb1⟩

set_option maxRecDepth 100000 in
set_option maxHeartbeats 2000000 in
theorem says_near (A A' : Option Addr) (cap cap' : Nat) (l m : List UInt8) (w : World) (p : Nat → Addr) (ha : Arg w A cap l) (ha' : Arg w A' cap' m) (ht : Tabs w) (hs : Sents w p) (hw : 4 ≤ w.heap.size) (hl : l.length ≤ 500) (hm : m.length ≤ 500) :
    Calls Tryd.prog 3 #[.slice A l.length cap, .slice A' m.length cap'] w fun e w' => e = .returned (.bool true) ∧ Below w.heap.size w w' := by
  obtain ⟨lx, bad, hlx, hC, hR⟩ := opens_both A cap l w p hl ha ht hs hw
  have HC := hide hC
  have HRO := hide hR
  have HRD := hide (fun (W : World) (h : Below w.heap.size w W) => ha.reads.below h (Nat.le_refl _))
  have HRD' := hide (fun (W : World) (h : Below w.heap.size w W) => ha'.reads.below h (Nat.le_refl _))
  have HTB := hide (fun (W : World) (h : Below w.heap.size w W) => ht.below h hw)
  have h1 := ha.le
  have h2 := ha.max
  have h3 := ha'.le
  have h4 := ha'.max
  clear hC hR ha ha' hs
  have HT := hide ht
  clear ht
  go_enter Tryd.func3, Tryd.ntmps3
  go_wp2_with (first
    | (go_at_call 8; refine (first_any _ HT.out hw).mono ?_; rintro e w1 ⟨rfl, hb1⟩)
    | (at_make; refine wpList_mk rfl (.const (.int .i64 0)) (.const (.int .i64 1000)) rfl 0 1000 _ _ rfl rfl rfl rfl (by omega) (by omega) ?_; intro w2 hown2 hb2 hs2; have HB2 := hide (hb1.trans (hb2.mono hb1.size)); have HS1 := hide hb1.size; have HO2 := hide hown2; have HZ2 := hide hb2.size; clear hb2 hs2 hown2)
    | (at_builtin; refine wpList_app (o := ⟨some 29, _, _, _, _, _⟩) rfl (.tmp 27) (.tmp 28) rfl w1.heap.size _ [] l rfl HO2.out A l.length cap rfl rfl (HRD.out _ HB2.out) (by simp; omega) HZ2.out ?_; intro v3 w3 hown3 hg3 hv3; have HB3 := hide (HB2.out.grown hg3 HB2.out.size (fun g hg => Nat.le_trans HS1.out (HO2.out.lt g hg).1)); have HO3 := hide hown3; have HZ3 := hide (Nat.le_trans HZ2.out hg3.size); clear hown3 hg3 hv3)
    | (at_builtin; refine wpList_app (o := ⟨some 31, _, _, _, _, _⟩) rfl (.tmp 29) (.tmp 30) rfl w1.heap.size v3 ([] ++ l) m rfl HO3.out A' m.length cap' rfl rfl (HRD'.out _ HB3.out) (by simp; omega) HZ3.out ?_; intro v4 w4_ hown4 hg4 hv4; have HB4 := hide (HB3.out.grown hg4 HB3.out.size (fun g hg => Nat.le_trans HS1.out (HO3.out.lt g hg).1)); have HO4 := hide hown4; clear hown4 hg4 hv4))
  have hlm : ([] ++ l ++ m).length = l.length + m.length := by simp
  obtain ⟨A4, c4, hv4, hr4, _⟩ := HO4.out.reads
  rw [hlm] at hv4
  subst hv4
  have HLM := hide hlm
  have HR4 := hide hr4
  have HSUM : Hid (sum ([] ++ l ++ m) = sum (l ++ m)) := by show _ = _; rw [List.nil_append]
  clear hlm hr4 HO2 HO3 HZ2 HZ3
  refine (HC.out w4_ HB4.out).mono ?_
  rintro e w5 ⟨Ax, nx, cx, ev, rfl, hrx, hnx, his, hb5⟩
  have HB5 := hide (HB4.out.trans (hb5.mono HB4.out.size))
  have HB45 := hide hb5
  have HRX := hide hrx
  have HNX := hide hnx
  have HIS := hide his
  clear hrx hnx his hb5 HC
  go_wp2_with fail
  refine (HRO.out w5 HB5.out).mono ?_
  rintro e w6 ⟨Ay, ny, cy, rfl, hry, hny, hb6⟩
  have HB6 := hide (HB5.out.trans (hb6.mono HB5.out.size))
  have HRX6 := hide (HRX.out.below hb6 (Nat.le_refl _))
  have HR46 := hide ((HR4.out.below HB45.out (Nat.le_refl _)).below hb6 (Nat.le_refl _))
  have HRY := hide hry
  have HNY := hide hny
  have HW6 := hide (fun (W : World) (h : Below w6.heap.size w6 W) => HB6.out.trans (h.mono HB6.out.size))
  clear hry hny hb6 HRO HB45 HR4 HRX HO4
  go_wp2_with fail
  refine (of_at _ _ _ [⟨A, cap, l⟩, ⟨A', cap', m⟩] _ rfl (Nat.le_of_ble_eq_true rfl) (readsAll_two _ _ _ _ _ _ _ _ _ _ _ rfl rfl rfl (HRD.out _ HB6.out) (HRD'.out _ HB6.out) (by omega) (by omega)) (HTB.out _ (below_alloc HB6.out _))).mono ?_
  rintro e w7 ⟨rfl, q7, rfl⟩
  rw [show flat [⟨A, cap, l⟩, ⟨A', cap', m⟩] = l ++ m from by simp [flat]]
  have hb7 : Below w6.heap.size w6 ((w6.alloc (Obj.cells #[.slice A l.length cap, .slice A' m.length cap'] 22)).drewN q7) := below_drewN (below_alloc (Below.refl _ _) _) _
  generalize (w6.alloc (Obj.cells #[.slice A l.length cap, .slice A' m.length cap'] 22)).drewN q7 = w7 at *
  have HB67 := hide hb7
  clear hb7
  go_wp2_with fail
  refine (refSum_any A4 c4 _ ([] ++ l ++ m) w7 HLM.out (by omega) (HR46.out.below HB67.out (Nat.le_refl _))).mono ?_
  rintro e w7' ⟨rfl, rfl⟩
  rw [HSUM.out]
  have HMS := hide (more_sum l m)
  generalize sum (l ++ m) = SLM at *
  go_wp2_with fail
  refine (of_B (w0 := w6) w7.heap.size l.length cap A l _ (below_alloc HB67.out _) (by simp) rfl (by omega) (HRD.out _ (HW6.out _ (below_alloc HB67.out _))) (HTB.out _ (HW6.out _ (below_alloc HB67.out _)))).mono ?_
  rintro e w8 ⟨rfl, hb8⟩
  have HB68 := hide hb8
  clear hb8
  go_wp2_with fail
  refine (more_B (w0 := w6) A' cap' m.length m (sum l) w8 HB68.out rfl (by omega) (HRD'.out _ (HW6.out _ HB68.out)) (HTB.out _ (HW6.out _ HB68.out))).mono ?_
  rintro e w9 ⟨rfl, hb9⟩
  have HB69 := hide hb9
  clear hb9
  rw [HMS.out]
  go_wp2_with fail
  refine (refSum_any A4 c4 _ ([] ++ l ++ m) w9 HLM.out (by omega) (HR46.out.below HB69.out (Nat.le_refl _))).mono ?_
  rintro e w9' ⟨rfl, rfl⟩
  rw [HSUM.out]
  go_wp2_with fail
  refine (seal_B (w0 := w6) A cap l.length l w9 HB69.out rfl (by omega) (HRD.out _ (HW6.out _ HB69.out)) (HTB.out _ (HW6.out _ HB69.out)) (by have := HB6.out.size; omega)).mono ?_
  rintro e w10 ⟨A10, c10, rfl, -, hr10, -, hb10⟩
  have HB610 := hide hb10
  have HR10 := hide hr10
  clear hr10 hb10
  go_wp2_with fail
  refine (refSeal_any A cap l.length l w10 rfl (by omega) (HRD.out _ (HW6.out _ HB610.out))).mono ?_
  rintro e w11 ⟨v11, rfl, ho11, hb11⟩
  have hl4 : (l ++ little (sum l)).length = l.length + 4 := by simp [little_len]
  obtain ⟨A11, c11, hv11, hr11, _⟩ := ho11.reads
  rw [hl4] at hv11
  subst hv11
  have HL4 := hide hl4
  have HB611 := hide (HB610.out.trans (hb11.mono HB610.out.size))
  have HR10' := hide (HR10.out.below hb11 (Nat.le_refl _))
  have HR11 := hide hr11
  clear hl4 hr11 hb11 ho11
  go_wp2_with fail
  refine (sameBytes_any A10 A11 c10 c11 (l.length + 4) (l.length + 4) (l ++ little (sum l)) (l ++ little (sum l)) w11 HL4.out HL4.out (by omega) (by omega) HR10'.out HR11.out).mono ?_
  rintro e w12 ⟨rfl, q12, rfl⟩
  rw [decide_eq_true rfl]
  have HB612 := hide (below_drewN HB611.out q12)
  generalize w11.drewN q12 = w12 at *
  go_wp2_with fail
  refine (sameBytes_any Ax Ay cx cy nx ny lx lx w12 HNX.out HNY.out (by have := HNX.out; omega) (by have := HNY.out; omega) (HRX6.out.below HB612.out (Nat.le_refl _)) (HRY.out.below HB612.out (Nat.le_refl _))).mono ?_
  rintro e w13 ⟨rfl, q13, rfl⟩
  rw [decide_eq_true rfl]
  have HB613 := hide (below_drewN HB612.out q13)
  generalize w12.drewN q13 = w13 at *
  go_wp2_with fail
  refine (HIS.out w13 (HW6.out _ HB613.out)).mono ?_
  rintro e w14 ⟨rfl, hb14⟩
  have HB14 := hide hb14
  clear hb14
  go_wp2_with fail
  go_ret
  exact ⟨rfl, HB14.out⟩

theorem says_walk (A A' : Option Addr) (cap cap' : Nat) (l m : List UInt8) (w : World) (p : Nat → Addr) (ha : Arg w A cap l) (ha' : Arg w A' cap' m) (ht : Tabs w) (hs : Sents w p) (hw : 4 ≤ w.heap.size) :
    Calls Tryd.prog 3 #[.slice A l.length cap, .slice A' m.length cap'] w fun e w' => e = .returned (.bool true) ∧ Below w.heap.size w w' := by
  by_cases h1 : 500 < l.length
  · exact says_far A A' cap cap' l m w ha ha' ht hw (.inl h1)
  · by_cases h2 : 500 < m.length
    · exact says_far A A' cap cap' l m w ha ha' ht hw (.inr h2)
    · exact says_near A A' cap cap' l m w p ha ha' ht hs hw (by omega) (by omega)
end Go.Proofs.YtkddlimhmjabcaaDoor
