/-
  The walk through CrcRows: every sum in it is one sum, whatever the bytes and the cut.
-/
import Derived.Test.YtdiplknlkmealaaDoorSeal
import Derived.Test.YtdiplknlkmealaaDoorCuts
import Derived.Test.YtdiplknlkmealaaDoorArgs
import Derived.Test.YtdiplknlkmealaaDoorFrameA
import Derived.Test.YtdiplknlkmealaaDoorRegion
import Derived.Deep.DeepCutAuto
namespace Go.Proofs.YtdiplknlkmealaaDoor
open Go.RowKit Crc
attribute [local go_sem] BtoNat x32 n32 x8 and8_15 mod256 wrap8 xs32 Bd16toNat mul2

theorem sum_step (l : List UInt8) (k : Nat) (h : k < l.length) : sum (l.take (k + 1)) = more (sum (l.take k)) ((l.drop k).take 1) := by
  rw [more_sum, List.take_succ_eq_append_getElem h]
  congr 2
  rw [List.drop_eq_getElem_cons h]; rfl
theorem more_at (A : Option Addr) (cap n : Nat) (l : List UInt8) (s : BitVec 32) (w : World) (hn : l.length = n) (hl : n ≤ 9223372036854775807) (hr : Reads w A l) (ht : Tabs w) :
    Calls Tryd.prog 19 #[.int .u32 (U s), .slice A n cap] w fun e w' => e = .returned (.int .u32 (U (more s l))) ∧ ∃ n, w' = w.drewN n := by
  subst hn; exact more_any A cap l s w hl hr ht

theorem of_one (g n c : Nat) (A : Option Addr) (l : List UInt8) (W : World) (hc : W.cell? ⟨g, 0, none⟩ = some (.slice A n c)) (hn : l.length = n) (hl : n ≤ 1000000) (hr : Reads W A l) (ht : Tabs W) :
    Calls Tryd.prog 17 #[.slice (some ⟨g, 0, none⟩) 1 1] W fun e w' => e = .returned (.int .u32 (U (sum l))) ∧ ∃ k, w' = W.drewN k := by
  have hg : g < W.heap.size := by
    rcases Nat.lt_or_ge g W.heap.size with h | h
    · exact h
    · simp [World.cell?, Array.getElem?_eq_none h] at hc
  have h := of_at (some ⟨g, 0, none⟩) 1 1 [⟨A, c, l⟩] W rfl (Nat.le_of_ble_eq_true rfl) (.inr ⟨g, 0, rfl, hg, fun k hk => by
    have hk0 : k = 0 := by simpa using hk
    subst hk0
    exact ⟨by rw [Nat.zero_add, hc, ← hn]; rfl, by show l.length ≤ _; omega, hr⟩⟩) ht
  rwa [show flat [⟨A, c, l⟩] = l from by simp [flat]] at h

theorem join_at (a b c : BitVec 32) (N : Int) (n : Nat) (hN : N = n) (hn : n ≤ 1048576) (hc : prod a (sts (8 * n) unit) ^^^ b = c) (w : World) :
    Calls Tryd.prog 26 #[.int .u32 (U a), .int .u32 (U b), .int .i64 N] w fun e w' => e = .returned (.int .u32 (U c)) ∧ w = w' := by
  subst hN hc; exact join_any a b n w hn
theorem of_B {w0 : World} (g n c : Nat) (A : Option Addr) (l : List UInt8) (W : World) (hb : Below w0.heap.size w0 W) (hc : W.cell? ⟨g, 0, none⟩ = some (.slice A n c)) (hn : l.length = n) (hl : n ≤ 1000000) (hr : Reads W A l) (ht : Tabs W) :
    Calls Tryd.prog 17 #[.slice (some ⟨g, 0, none⟩) 1 1] W fun e w' => e = .returned (.int .u32 (U (sum l))) ∧ Below w0.heap.size w0 w' :=
  (of_one g n c A l W hc hn hl hr ht).mono fun e w' ⟨he, k, hk⟩ => ⟨he, hk ▸ below_drewN hb k⟩
theorem more_B {w0 : World} (A : Option Addr) (cap n : Nat) (l : List UInt8) (s : BitVec 32) (W : World) (hb : Below w0.heap.size w0 W) (hn : l.length = n) (hl : n ≤ 1000000) (hr : Reads W A l) (ht : Tabs W) :
    Calls Tryd.prog 19 #[.int .u32 (U s), .slice A n cap] W fun e w' => e = .returned (.int .u32 (U (more s l))) ∧ Below w0.heap.size w0 w' :=
  (more_at A cap n l s W hn (by omega) hr ht).mono fun e w' ⟨he, k, hk⟩ => ⟨he, hk ▸ below_drewN hb k⟩
theorem seal_B {w0 : World} (A : Option Addr) (cap n : Nat) (l : List UInt8) (W : World) (hb : Below w0.heap.size w0 W) (hn : l.length = n) (hl : n ≤ 1000000) (hr : Reads W A l) (ht : Tabs W) (hw : 4 ≤ w0.heap.size) :
    Calls Tryd.prog 21 #[.slice A n cap] W fun e w' => ∃ A' c', e = .returned (.slice A' (n + 4) c') ∧ Own w' W.heap.size (.slice A' (n + 4) c') (l ++ little (sum l)) ∧ Reads w' A' (l ++ little (sum l)) ∧ Below W.heap.size W w' ∧ Below w0.heap.size w0 w' :=
  (seal_any A cap n l W hn hl hr ht (by have := hb.size; omega)).mono fun e w' ⟨v, he, ho, hk⟩ => by
    obtain ⟨A', c', hv, hr', _⟩ := ho.reads
    have e2 : (l ++ little (sum l)).length = n + 4 := by simp [little_len, hn]
    rw [e2] at hv
    subst hv
    exact ⟨A', c', he, ho, hr', hk, hb.trans (hk.mono hb.size)⟩

theorem rows_far (A : Option Addr) (cap : Nat) (l : List UInt8) (cut : Int) (w : World) (ha : Arg w A cap l) (ht : Tabs w) (hw : 4 ≤ w.heap.size) (hl : 200 < l.length) :
    Calls Tryd.prog 7 #[.slice A l.length cap, .int .i64 cut] w fun e w' => e = .returned (.bool true) ∧ Below w.heap.size w w' := by
  have HA := hide ha
  have h1 := ha.le
  have h2 := ha.max
  clear ha
  go_enter Tryd.func7, Tryd.ntmps7
  go_wp2_with (go_at_call 14; refine (first_any _ ht hw).mono ?_; rintro e w1 ⟨rfl, hb1⟩)
  go_ret
  exact ⟨rfl, hb1⟩

set_option maxHeartbeats 1000000 in
set_option maxRecDepth 100000 in
theorem rows_near (A : Option Addr) (cap : Nat) (l : List UInt8) (cut : Int) (w : World) (ha : Arg w A cap l) (ht : Tabs w) (hw : 4 ≤ w.heap.size) (hl : l.length ≤ 200)
   (c1 : -9223372036854775808 ≤ cut) (c2 : cut ≤ 9223372036854775807) :
    Calls Tryd.prog 7 #[.slice A l.length cap, .int .i64 cut] w fun e w' => e = .returned (.bool true) ∧ Below w.heap.size w w' := by
  have HA := hide ha
  have HT := hide ht
  have h1 := ha.le
  have h2 := ha.max
  clear ha ht
  go_enter Tryd.func7, Tryd.ntmps7
  go_wp2_with (first
    | (go_at_call 14; refine (first_any _ HT.out hw).mono ?_; rintro e w1 ⟨rfl, hb1⟩)
    | (go_at_call 17; refine (of_at _ _ _ [] _ rfl (Nat.zero_le _) (.inl rfl) (HT.out.below hb1 hw)).mono ?_; rintro e w2 ⟨rfl, n, rfl⟩))
  rw [show flat [] = [] from rfl]
  have HB1 := hide hb1
  clear hb1
  go_loopw [6, 7] (fun s i wr => ∃ k : Nat, k ≤ l.length ∧ i = .int .i64 k ∧ s = .int .u32 (U (sum (l.take k))) ∧ Below w.heap.size w wr) (fun _ i _ => l.length - (intOf i).toNat)
  case atStart => exact ⟨0, Nat.zero_le _, rfl, rfl, below_drewN HB1.out n⟩
  case round =>
    obtain ⟨k, hk, rfl, rfl, hbr⟩ := hrel
    have HBR := hide hbr
    clear hbr
    by_cases hlt : k < l.length
    · have HS := hide (sum_step l k hlt)
      generalize sum (l.take k) = C at *
      have hA := HA.out.reads
      rcases hA with rfl | ⟨b, off, rfl, hb, hc⟩
      · simp at hlt
      clear hc
      go_wp2_with (go_at_call 19; refine (more_at _ _ 1 ((l.drop k).take 1) C _ (by simp; omega) (by omega) (HA.out.reads.below HBR.out (Nat.le_refl _) |>.sub k 1) (HT.out.below HBR.out hw)).mono ?_; rintro e w3 ⟨rfl, m, rfl⟩)
      go_roundw
      case rel => exact ⟨k + 1, by omega, by go_num, by rw [HS.out], below_drewN HBR.out m⟩
      case measure => simp [intOf]; omega
    · have : k = l.length := by omega
      subst this
      rw [List.take_length]
      clear hk hlt
      have hq := num_lt cut (l.length + 1) (by omega)
      have hnum := fun w => num_at cut (l.length + 1 : Nat) (l.length + 1) w rfl (by omega) (by omega) c1 c2
      generalize num cut (l.length + 1) = q at *
      have HNUM := hide hnum
      clear hnum
      go_wp2_with (go_at_call 24; refine (HNUM.out _).mono ?_; rintro e w3 ⟨rfl, rfl⟩)
      go_cut [9] (fun v wc => v = .int .u32 (U (sum l)) ∧ Below w.heap.size w wc)
      case first =>
        have hr1 := fun (W : World) (h : Below w.heap.size w W) => (HA.out.reads.below h (Nat.le_refl _)).first q
        have hr2 := fun (W : World) (h : Below w.heap.size w W) => (HA.out.reads.below h (Nat.le_refl _)).cut cap q h1 HA.out.nil (by omega)
        have htb := fun (W : World) (h : Below w.heap.size w W) => HT.out.below h hw
        have hjs := join_sum (l.take q) (l.drop q)
        rw [List.take_append_drop] at hjs
        have HJ := hide (fun w => join_at _ _ _ ((l.length : Int) - q) _ (by simp; omega) (by simp; omega) hjs w)
        have k1 := fun W => run_cut_h W A l.length cap q (by omega)
        have k2 := fun W => run_cut_l W A l.length cap q (by omega)
        have HTB := hide htb
        have HR1 := hide hr1
        have HR2 := hide hr2
        generalize cutA A cap q = A2 at *
        clear htb hr1 hr2 hjs HA HT HNUM HB1
        refine wp_region_made [40, 41, 42, 43, 44, 45, 46, 47, 48, 49, 50, 51, 52, 53, 54] (fun d => match d with
          | 40 => .is (.slice A l.length cap) | 41 => .is (.int .i64 q) | 42 => .is (.slice A q cap) | 43 => .one (.slice A q cap) | 44 => .is (.int .u32 (U (sum (l.take q))))
          | 45 => .is (.slice A l.length cap) | 46 => .is (.int .i64 q) | 47 => .is (.slice A2 (l.length - q) (cap - q)) | 48 => .one (.slice A2 (l.length - q) (cap - q)) | 49 => .is (.int .u32 (U (sum (l.drop q))))
          | 50 => .is (.slice A l.length cap) | 51 => .is (.int .i64 l.length) | 52 => .is (.int .i64 q) | 53 => .is (.int .i64 ((l.length : Int) - q)) | 54 => .is (.int .u32 (U (sum l)))
          | _ => .any) _ (by kernel_rfl) (by kernel_rfl) rfl (by kernel_rfl) ?_ ?_
        · simp only [List.size_toArray, List.length_cons, List.length_nil, List.take_succ_cons, List.take_zero, StepsOk]
          refine ⟨?_, ?_, ?_, ?_, ?_, ?_, ?_, ?_, ?_, ?_, ?_, ?_, ?_, ?_, ?_, trivial⟩
          all_goals
            intro ev w1 hb hev hd
            have ev0 : ev (.tmp 0) = .slice A l.length cap := hev _ (by simp)
            have ev8 : ev (.tmp 8) = .int .i64 q := hev _ (by simp)
            have evf : ∀ f, ev (.func f) = .func (.func f) #[] #[] := fun f => hev _ (by simp)
            clear hev
            simp [DepsOk, Known.is, Known.one] at hd
            try simp [OpRuns, execOp, go_sem, Known.is, Known.one, Below.refl, *]
          · exact below_alloc (Below.refl _ _) _
          · obtain ⟨g, g1, g2, g3⟩ := hd
            have hbw := HBR.out.trans (hb.mono HBR.out.size)
            rw [g1]
            refine (of_one g q cap A (l.take q) w1 g3 (by simp; omega) (by omega) (HR1.out _ hbw) (HTB.out _ hbw)).mono ?_
            rintro e w3 ⟨rfl, m, rfl⟩
            exact ⟨rfl, below_drewN (Below.refl _ _) m⟩
          · exact below_alloc (Below.refl _ _) _
          · obtain ⟨⟨g, g1, g2, g3⟩, _⟩ := hd
            have hbw := HBR.out.trans (hb.mono HBR.out.size)
            rw [g1]
            refine (of_one g _ _ A2 (l.drop q) w1 g3 (by simp) (by omega) (HR2.out _ hbw) (HTB.out _ hbw)).mono ?_
            rintro e w3 ⟨rfl, m, rfl⟩
            exact ⟨rfl, below_drewN (Below.refl _ _) m⟩
          · exact IntWalk.i64_in _ ⟨by omega, by omega⟩
          · refine (HJ.out _).mono ?_
            rintro e w3 ⟨rfl, rfl⟩
            exact ⟨rfl, Below.refl _ _⟩
        · intro f w1 hb hf
          have hbw := hide (HBR.out.trans (hb.mono HBR.out.size))
          have e54 : f 54 = .int .u32 (U (sum l)) := hf 54 (by simp)
          clear hf hb k1 k2
          simp only [puts]
          go_wp2_with fail
          go_meet
          exact ⟨rfl, hbw.out⟩
      case rest =>
        obtain ⟨rfl, hbc⟩ := hcut
        have HBC := hide hbc
        have htb := fun (W : World) (h : Below w.heap.size w W) => HT.out.below h hw
        have hrd := fun (W : World) (h : Below w.heap.size w W) => HA.out.reads.below h (Nat.le_refl _)
        have HTB := hide htb
        have HRD := hide hrd
        clear hbc htb hrd HBR HB1 HA HT HNUM
        have hlen4 : (l ++ little (sum l)).length = l.length + 4 := by simp [little_len]
        have HL4 := hide hlen4
        have HS := hide (sum_sealed l)
        have HS0 := hide (sum_sealed [])
        clear hlen4
        go_wp2_with fail
        refine (of_B wc.heap.size l.length cap A l _ (below_alloc HBC.out _) (by simp) rfl (by omega) (HRD.out _ (below_alloc HBC.out _)) (HTB.out _ (below_alloc HBC.out _))).mono ?_
        rintro e w3 ⟨rfl, hb3⟩
        have HB3 := hide hb3
        clear hb3
        go_wp2_with fail
        refine (more_B none 0 0 [] (sum l) w3 HB3.out rfl (by omega) (.inl rfl) (HTB.out _ HB3.out)).mono ?_
        rintro e w4 ⟨rfl, hb4⟩
        have HB4 := hide hb4
        clear hb4
        rw [more_nil]
        go_wp2_with fail
        refine (seal_B A cap l.length l w4 HB4.out rfl (by omega) (HRD.out _ HB4.out) (HTB.out _ HB4.out) hw).mono ?_
        rintro e w5 ⟨A5, c5, rfl, -, hr5, -, hb5⟩
        have HB5 := hide hb5
        have HR5 := hide hr5
        clear hb5 hr5
        go_wp2_with fail
        refine (of_B w5.heap.size (l.length + 4) c5 A5 (l ++ little (sum l)) _ (below_alloc HB5.out _) (by simp) HL4.out (by omega) (HR5.out.alloc _) (HTB.out _ (below_alloc HB5.out _))).mono ?_
        rintro e w6 ⟨rfl, hb6⟩
        have HB6 := hide hb6
        clear hb6
        rw [HS.out]
        go_wp2_with fail
        refine (seal_B none 0 0 [] w6 HB6.out rfl (by omega) (.inl rfl) (HTB.out _ HB6.out) hw).mono ?_
        rintro e w7 ⟨A7, c7, rfl, -, hr7, -, hb7⟩
        have HB7 := hide hb7
        have HR7 := hide hr7
        clear hb7 hr7
        go_wp2_with fail
        refine (of_B w7.heap.size (0 + 4) c7 A7 ([] ++ little (sum [])) _ (below_alloc HB7.out _) (by simp) (by simp [little_len]) (by omega) (HR7.out.alloc _) (HTB.out _ (below_alloc HB7.out _))).mono ?_
        rintro e w8 ⟨rfl, hb8⟩
        have HB8 := hide hb8
        clear hb8
        rw [HS0.out]
        go_wp2_with fail
        refine (of_at none 0 0 [] w8 rfl (by omega) (.inl rfl) (HTB.out _ HB8.out)).mono ?_
        rintro e w9 ⟨rfl, m9, rfl⟩
        rw [show flat [] = [] from rfl, sum_nil, U_zero]
        go_wp2_with fail
        go_ret
        exact ⟨rfl, below_drewN HB8.out m9⟩

theorem rows_walk (A : Option Addr) (cap : Nat) (l : List UInt8) (cut : Int) (w : World) (ha : Arg w A cap l) (ht : Tabs w) (hw : 4 ≤ w.heap.size)
   (c1 : -9223372036854775808 ≤ cut) (c2 : cut ≤ 9223372036854775807) :
    Calls Tryd.prog 7 #[.slice A l.length cap, .int .i64 cut] w fun e w' => e = .returned (.bool true) ∧ Below w.heap.size w w' := by
  by_cases h : l.length ≤ 200
  · exact rows_near A cap l cut w ha ht hw h c1 c2
  · exact rows_far A cap l cut w ha ht hw (by omega)
end Go.Proofs.YtdiplknlkmealaaDoor
