/-
  IndexSpoilt, walked.
-/
import Derived.Test.YteeadlefbehhfaaDoorIxRm
import Derived.Test.YteeadlefbehhfaaDoorIxIv
import Derived.Test.YteeadlefbehhfaaDoorIxW
import Derived.Test.YteeadlefbehhfaaDoorArgsI
import Derived.Deep.LoopGhost
import Derived.Test.YteeadlefbehhfaaDoorOwnSet
namespace Go.Proofs.YteeadlefbehhfaaDoor
open Go.RowKit
attribute [local go_sem] x8

theorem marksB_len : ∀ (l : List Ix.Mark) (a : Ix.Mark), Ix.steps a l → (Ix.marksB a l).length ≤ 30 * l.length
  | [], _, _ => Nat.le_refl _
  | m :: l, a, h => by
    have h1 := Ix.stepB_len a m h.1
    have h2 := marksB_len l m h.2
    simp only [Ix.marksB, List.length_append, List.length_cons]
    omega
theorem bytes_le {s : Ix.St} (h : Ix.Inv0 s) (hn : s.marks.length ≤ 4096) : (Ix.bytes s).length ≤ 24 + 30 * s.marks.length := by
  have h1 := marksB_len s.marks Ix.z0 h.steps
  have h2 := Vi.size_le10 (n := s.every.toNat) (by have := h.ok.every; omega)
  have h3 := Vi.size_le10 (n := s.marks.length) (by omega)
  unfold Vi.size at h2 h3
  rw [Ix.bytes_len]
  simp only [Ix.body, List.length_append]
  omega
/-- Read, where the sum is wrong. -/
theorem ixRead_sum (A : Option Addr) (cap n : Nat) (b : List UInt8) (w : World) (p : Nat → Addr) (hn : b.length = n) (hg : ¬ Crc.opens b) (h4 : 4 ≤ n) (hl : n ≤ 1000000) (ha : Arg w A cap b) (ht : Tabs w) (hs : SentsI w p) :
    Calls Tryd.prog 10 #[.slice A n cap] w fun e w' => e = .returned (.tuple #[.pointer none, errV (p 1)]) ∧ Below w.heap.size w w' := by
  subst hn
  refine (ixRead_bad A cap b w p false (by simp [hg]) hl ha ht hs (.inr rfl) (Ix.new 1)).mono ?_
  rintro e w' ⟨hb, E, hE, he⟩
  have hf : Ix.fault4 false b = (102, none) := by unfold Ix.fault4; rw [if_neg (by omega), if_pos rfl]
  rw [hf] at hE he
  rcases he with ⟨_, he⟩ | ⟨h, _⟩
  · rcases hE with ⟨h, _⟩ | ⟨_, _, h⟩ | ⟨_, _, h, _⟩
    · simp at h
    · exact ⟨by rw [he, h]; rfl, hb⟩
    · simp at h
  · simp at h
/-- Read, of too few bytes. -/
theorem ixRead_end (A : Option Addr) (cap n : Nat) (b : List UInt8) (w : World) (p : Nat → Addr) (hn : b.length = n) (h4 : n < 4) (ha : Arg w A cap b) (ht : Tabs w) (hs : SentsI w p) :
    Calls Tryd.prog 10 #[.slice A n cap] w fun e w' => e = .returned (.tuple #[.pointer none, errV (p 0)]) ∧ Below w.heap.size w w' := by
  subst hn
  obtain ⟨good, hg⟩ : ∃ good : Bool, good = true ↔ Crc.opens b := by
    by_cases h : Crc.opens b
    · exact ⟨true, by simp [h]⟩
    · exact ⟨false, by simp [h]⟩
  refine (ixRead_bad A cap b w p good hg (by omega) ha ht hs (.inl h4) (Ix.new 1)).mono ?_
  rintro e w' ⟨hb, E, hE, he⟩
  have hf : Ix.fault4 good b = (101, none) := if_pos h4
  rw [hf] at hE he
  rcases he with ⟨_, he⟩ | ⟨h, _⟩
  · rcases hE with ⟨h, _⟩ | ⟨_, _, h⟩ | ⟨_, _, h, _⟩
    · simp at h
    · exact ⟨by rw [he, h]; rfl, hb⟩
    · simp at h
  · simp at h
/-- Read, of an index's own bytes. -/
theorem ixRead_own (A : Option Addr) (cap n : Nat) (s : Ix.St) (w : World) (p : Nat → Addr) (hn : (Ix.bytes s).length = n) (hi : Ix.Inv0 s) (hm : s.marks.length ≤ 4096) (hl : n ≤ 1000000) (ha : Arg w A cap (Ix.bytes s)) (ht : Tabs w) (hs : SentsI w p) :
    Calls Tryd.prog 10 #[.slice A n cap] w fun e w' => ∃ X, e = .returned (.tuple #[.pointer (some ⟨X, 0, none⟩), .nilIface]) ∧ IxAt w' X (Ix.ofMarks s.every s.marks) (fun k => w.heap.size ≤ k ∧ k < w'.heap.size) ∧ Below w.heap.size w w' := by
  subst hn
  have hbl := Ix.bytes_len s
  have htk : (Ix.bytes s).take ((Ix.bytes s).length - 4) = Ix.body s := by
    rw [hbl, Nat.add_sub_cancel]
    unfold Ix.bytes
    rw [List.take_append_of_le_length (Nat.le_refl _), List.take_of_length_le (Nat.le_refl _)]
  obtain ⟨f1, f2, f3⟩ := Ix.read_body hi.ok hi.rise hm
  refine (ixRead_good A cap (Ix.bytes s) w p (Crc.opens_sealed _) (by omega) hl ha ht hs).mono ?_
  rintro e w' ⟨hb, E, hE, he⟩
  rw [htk, f1] at hE he
  have hr : Ix.read (Ix.body s) = Ix.ofMarks s.every s.marks := by
    have e1 : Ix.read (Ix.body s) = Ix.ofMarks (Ix.read (Ix.body s)).every (Ix.read (Ix.body s)).marks := rfl
    rw [e1, f2, f3]
  rcases he with ⟨h, _⟩ | ⟨_, X, he, hix⟩
  · simp at h
  · rcases hE with ⟨_, h⟩ | ⟨_, h, _⟩ | ⟨_, _, h, _⟩
    · exact ⟨X, by rw [he, h], hr ▸ hix, hb⟩
    · omega
    · simp at h

set_option maxRecDepth 100000 in
set_option maxHeartbeats 4000000 in
theorem ixSpoilt_any (w : World) (p : Nat → Addr) (hs : Sents w p) (ht : Tabs w) (hz4 : 4 ≤ w.heap.size) (A : Option Addr) (cap n : Nat) (zs : List Int) (c0 : Int) (by_ : UInt8) (hn : zs.length = n) (hc : n ≤ cap) (hA : Ints w A zs) (hz : ∀ k, k < n → -9223372036854775808 ≤ zs.getD k 0 ∧ zs.getD k 0 ≤ 9223372036854775807) (hc0 : -9223372036854775808 ≤ c0 ∧ c0 ≤ 9223372036854775807) :
    Calls Tryd.prog 8 #[.slice A n cap, .int .i64 c0, .int .u8 (B by_)] w fun e w' => e = .returned (.bool true) ∧ Below w.heap.size w w' := by
  have hs4 : Sent4 w p := hs.mono fun j hj => by omega
  have HF := hide (firstI_any w p hs4)
  have HS4 := hide hs4
  have HS := hide hs
  have HT := hide ht
  have hB0 := B_lo by_
  have hB1 := B_hi by_
  by_cases h30 : 30 < n
  · have d0 : decide ((30 : Int) < n) = true := by simp; omega
    clear hA hz hn hc hs hc0 ht
    go_enter Tryd.func8, Tryd.ntmps8
    go_wp2_with (first
      | (go_at_call 9; refine HF.out.mono ?_; rintro e w1 ⟨rfl, hb⟩; have HB1 := hide hb; clear hb)
      | fail)
    go_ret
    exact ⟨rfl, HB1.out⟩
  · have d0 : decide ((30 : Int) < n) = false := by simp; omega
    have hn30 : n ≤ 30 := by omega
    by_cases hb0 : by_ = 0
    · have d1 : (B by_ == 0) = true := by rw [hb0]; rfl
      clear hA hz hn hc hs hc0 ht
      go_enter Tryd.func8, Tryd.ntmps8
      go_wp2_with (first
        | (go_at_call 9; refine HF.out.mono ?_; rintro e w1 ⟨rfl, hb⟩; have HB1 := hide hb; clear hb)
        | fail)
      go_ret
      exact ⟨rfl, HB1.out⟩
    · have d1 : (B by_ == 0) = false := by
        rw [beq_eq_false_iff_ne]
        intro e
        apply hb0
        have : by_.toNat = 0 := by unfold B at e; omega
        exact UInt8.toNat_inj.1 this
      have HB0 := hide hb0
      have HZ := hide hz
      have HN := hide hn
      have HA := hide hA
      have HC0 := hide hc0
      obtain ⟨z, hzd⟩ : ∃ z, z = zd zs := ⟨_, rfl⟩
      have HZB : Hid (∀ k, 1 ≤ z k ∧ z k ≤ 90) := hide (fun k => by rw [hzd]; exact zd_le zs k)
      have HZE : Hid (∀ k, zs.getD k 0 % 60 + 1 = z k) := hide (fun k => by rw [hzd]; rfl)
      clear hA hz hn hs hc0 ht hzd h30 hb0
      go_enter Tryd.func8, Tryd.ntmps8
      go_wp2_with (first
        | (go_at_call 9; refine HF.out.mono ?_; rintro e w1 ⟨rfl, hb⟩; have HNW := hide (new_ixS w 20 w1 hb (by omega)); clear hb)
        | (go_at_call 18; refine HNW.out.mono ?_; rintro e w2 ⟨rfl, hi⟩; have I2 := hide hi; clear hi HNW)
        | fail)
      obtain ⟨X, hX⟩ : ∃ X, X = w1.heap.size := ⟨_, rfl⟩
      rw [← hX] at I2 ⊢
      clear hX
      go_loopw [10, 11, 12] (fun ps iv _ wr => ∃ i : Nat, i ≤ n ∧ iv = .int .i64 i ∧ ps = .int .i64 (Ix.posF z i) ∧ IxS w X (Ix.stS z i) wr) (fun _ iv _ _ => n - (intOf iv).toNat)
      case atStart => exact ⟨0, Nat.zero_le _, rfl, rfl, I2.out⟩
      case round =>
        obtain ⟨i, hi, rfl, rfl, hr⟩ := hrel
        have I := hide hr
        clear hr
        obtain ⟨hinv, hadds, hev⟩ := Ix.stS_spec HZB.out i (by omega)
        have hal : (Ix.stS z i).adds.length = i := by rw [hadds]; simp
        have hml := hinv.len
        by_cases hin : i < n
        · obtain ⟨b, off, rfl, hbl, hcell⟩ : ∃ b off, A = some ⟨b, off, none⟩ ∧ b < w.heap.size ∧ w.cell? ⟨b, off + i, none⟩ = some (.int .i64 (zs.getD i 0)) := by
            rcases HA.out with e | ⟨b, off, e, hb, hc'⟩
            · have := HN.out; rw [e] at this; simp at this; omega
            · exact ⟨b, off, e, hb, hc' i (by rw [HN.out]; exact hin)⟩
          have cc0 := (I.out.bel.cell (p := ⟨b, off + i, none⟩) hbl).trans hcell
          have hyb := HZ.out i hin
          have hwz := HZE.out i
          obtain ⟨y, hy⟩ : ∃ y, y = zs.getD i 0 := ⟨_, rfl⟩
          rw [← hy] at cc0 hyb hwz
          have HL := hide (fun V => number_any y 60 V (by omega) (by omega) hyb.1 hyb.2)
          replace hwz : IntKind.i64.wrap (y % 60 + 1) = z i := by rw [← hwz, IntKind.wrap_i64]; omega
          obtain ⟨r, hr⟩ : ∃ r, r = y % 60 := ⟨_, rfl⟩
          rw [← hr] at HL hwz
          clear hr hy hyb hcell
          have hpb := Ix.posF_le HZB.out i
          have hzb := HZB.out i
          have hadx := I.out.add p HS4.out (i : Int) 0 (Ix.posF z i) (z i) (by omega) (by omega)
          rw [Ix.addS HZB.out i (by omega)] at hadx
          simp only [errR] at hadx
          have HADX := hide hadx
          have HP1 : Hid (Ix.posF z (i + 1) = Ix.posF z i + z i) := hide rfl
          have hwp : IntKind.i64.wrap (Ix.posF z i + z i) = Ix.posF z (i + 1) := by rw [HP1.out, IntKind.wrap_i64]; omega
          have dn : decide ((i : Int) < n) = true := decide_eq_true (by omega)
          clear hadx hml hal hadds hinv hev
          obtain ⟨ps, hps⟩ : ∃ ps, ps = Ix.posF z i := ⟨_, rfl⟩
          obtain ⟨zk, hzk⟩ : ∃ zk, zk = z i := ⟨_, rfl⟩
          rw [← hps, ← hzk] at HADX hwp
          rw [← hzk] at hwz
          rw [← hps]
          clear hps hzk hpb hzb
          go_wp2_with (first
            | (go_at_call 17; refine (HL.out _).mono ?_; rintro e w3 ⟨rfl, e⟩; subst e)
            | (go_at_call 19; refine HADX.out.mono ?_; rintro e w5 ⟨rfl, h5⟩; have I5 := hide h5; clear h5)
            | fail)
          go_roundw
          case rel => exact ⟨i + 1, by omega, by go_num, rfl, I5.out⟩
          case measure => simp [intOf]; omega
        · obtain rfl : i = n := by omega
          have dn : decide ((i : Int) < i) = false := decide_eq_false (by omega)
          have HINV := hide hinv
          have hmb : (Ix.stS z i).marks.length ≤ 60 := by omega
          have HMB := hide hmb
          obtain ⟨s, hse⟩ : ∃ s, s = Ix.stS z i := ⟨_, rfl⟩
          rw [← hse] at HINV HMB I hev
          have HTW := hide (fun (W : World) (hb : Below w.heap.size w W) => HT.out.below hb (Nat.le_refl _))
          have HSI : Hid (∀ W, Below w.heap.size w W → SentsI W p) := hide (fun W hb => (HS.out.below hb).mono fun j hj => by omega)
          have hbw := I.out.bel.size
          have HBY := hide (ixBytes_any X s _ wr I.out.ix (by omega) (by have := HMB.out; omega) HINV.out.toInv0.steps (HTW.out _ I.out.bel) (by omega))
          have hle : 4 ≤ (Ix.bytes s).length := by rw [Ix.bytes_len]; omega
          have hlb : (Ix.bytes s).length ≤ 2000 := by
            have := bytes_le HINV.out.toInv0 (by have := HMB.out; omega)
            have := HMB.out
            omega
          clear hinv hadds hal hml hmb hse hev hin HZ HN HA HZB HZE d0 d1 dn
          obtain ⟨l, hle'⟩ : ∃ l, l = Ix.bytes s := ⟨_, rfl⟩
          obtain ⟨L, hLe⟩ : ∃ L, L = l.length := ⟨_, rfl⟩
          have HLE := hide hle'
          rw [← hle'] at HBY hle hlb
          rw [← hLe] at hle hlb
          have HLN := hide hLe.symm
          have HOPN : Hid (Crc.opens l) := hide (by rw [hle']; exact Crc.opens_sealed _)
          have HNC := hide (fun V => number_any c0 (L : Int) V (by omega) (by omega) HC0.out.1 HC0.out.2)
          obtain ⟨k, hk⟩ : ∃ k : Nat, (k : Int) = c0 % (L : Int) := ⟨(c0 % (L : Int)).toNat, by have := Int.emod_nonneg c0 (show (L : Int) ≠ 0 by omega); omega⟩
          have hkL : k < L := by have := Int.emod_lt_of_pos c0 (show 0 < (L : Int) by omega); omega
          rw [← hk] at HNC
          clear hle' hLe hk
          go_upto_region 18 with (first
            | (go_at_call 16; refine HBY.out.mono ?_; rintro e w6 ⟨v6, rfl, ho6, hb6⟩; obtain ⟨A6, c6, rfl, ha6⟩ := ho6.arg; have I6 := hide (I.out.below hb6); rw [HLN.out]; have HBB := hide (bytes_any A6 c6 L l w6 HLN.out (by omega) ha6.reads); have HA6 := hide ha6; clear ho6 hb6 ha6)
            | fail)
          go_upto_region 19 with (first
            | (go_at_call 25; refine HBB.out.mono ?_; rintro e w7 ⟨v7, rfl, ho7, hb7⟩; have HO7 := hide ho7; have HB7 := hide hb7; clear ho7 hb7)
            | fail)
          obtain ⟨g7, c7, rfl, hg7, hg7s, ha7, hf7, hset7⟩ := HO7.out.open_ (by have := HLN.out; omega)
          have hck := reads_cell ha7.reads k (by have := HLN.out; omega)
          rw [Nat.zero_add] at hck
          have hfk := hf7 k
          have hlc7 := ha7.le
          have hmc7 := ha7.max
          have HLC := hide (And.intro hlc7 hmc7)
          have HSK := hide (hset7 k (l.getD k 0 ^^^ by_) (by have := HLN.out; omega))
          have HNO := hide (not_opens_setD l k by_ (by have := HLN.out; omega) HB0.out (by have := HLN.out; omega) HOPN.out)
          have HB78 : Hid (Below w6.heap.size w6 (w7.setCell ⟨g7, k, none⟩ (.int .u8 (B (l.getD k 0 ^^^ by_))))) := hide (HB7.out.setCell (by show w6.heap.size ≤ g7; exact hg7) _)
          rw [HLN.out]
          generalize hxk : l.getD k 0 = xk at *
          clear hxk ha7 hf7 hset7 hg7 HO7 HB7 HBB HBY hlc7 hmc7
          go_upto_region 20 with (first
            | (go_at_call 17; refine (HNC.out _).mono ?_; rintro e w3 ⟨rfl, e⟩; subst e)
            | fail)
          have HR8 := hide HSK.out
          have HB8 := HB78
          generalize w7.setCell ⟨g7, k, none⟩ (.int .u8 (B (xk ^^^ by_))) = w8 at *
          clear hfk hck HSK HB78 HNC hg7s
          have I8 := hide (I6.out.below HB8.out)
          have HA8 := hide (HA6.out.below HB8.out (Nat.le_refl _))
          have hlen' : (l.set k (xk ^^^ by_)).length = L := by rw [List.length_set]; exact HLN.out
          have HRS := hide (ixRead_sum (some ⟨g7, 0, none⟩) c7 L _ w8 p hlen' HNO.out hle (by omega) ⟨by rw [hlen', ← HLN.out]; exact HLC.out.1, HLC.out.2, fun e => (by cases e), HR8.out⟩ (HTW.out _ I8.out.bel) (HSI.out _ I8.out.bel))
          have hLc6 : L ≤ c6 := by have := HA6.out.le; have := HLN.out; omega
          have h3c : (3 : Nat) ≤ c6 := by omega
          clear hlen' HNO HR8 HLC I6 HA6 HB8
          go_upto_region 21 with (first
            | (go_at_call 10; refine HRS.out.mono ?_; rintro e w9 ⟨rfl, hb9⟩; have I9 := hide (I8.out.below hb9); have HA9 := hide (HA8.out.below hb9 (Nat.le_refl _)); clear hb9)
            | fail)
          have HRO := hide (ixRead_own A6 c6 L s w9 p (by rw [← HLE.out]; exact HLN.out) HINV.out.toInv0 (by have := HMB.out; omega) (by omega) (by rw [← HLE.out]; exact HA9.out) (HTW.out _ I9.out.bel) (HSI.out _ I9.out.bel))
          go_upto_region 22 with (first
            | (go_at_call 10; refine HRO.out.mono ?_; rintro e w10 ⟨Y, rfl, hy, hb10⟩; have HY10 := hide hy; have I10 := hide (I9.out.below hb10); have HA10 := hide (HA9.out.below hb10 (Nat.le_refl _)); clear hb10 hy)
            | fail)
          have hl3 : (l.take 3).length = 3 := by rw [List.length_take]; have := HLN.out; omega
          have HRE := hide (ixRead_end A6 c6 3 (l.take 3) w10 p hl3 (by omega) (HA10.out.first 3) (HTW.out _ I10.out.bel) (HSI.out _ I10.out.bel))
          clear hl3 HRS HRO
          have hA6 : A6 ≠ none := fun e => by
            have h1 := HA10.out.nil e
            omega
          go_upto_region 23 with (first
            | (go_at_call 10; refine HRE.out.mono ?_; rintro e w11 ⟨rfl, hb11⟩; have HY11 := hide (HY10.out.same fun k _ hk => hb11.block k hk); have I11 := hide (I10.out.below hb11); clear hb11)
            | fail)
          have HIS1 := hide (fun (W : World) (hb : Below w.heap.size w W) => is_sent W p (HS.out.below hb) 1 (by omega) 102)
          have HIS0 := hide (fun (W : World) (hb : Below w.heap.size w W) => is_sent W p (HS.out.below hb) 0 (by omega) 101)
          rw [decide_eq_true (show (((101 + 1 : Nat) : Int)) = 102 from rfl)] at HIS1
          rw [decide_eq_true (show (((101 + 0 : Nat) : Int)) = 101 from rfl)] at HIS0
          have HMY := hide (fun (W : World) (hb : Below w11.heap.size w11 W) => marks_any Y _ _ W (by show s.marks.length ≤ 1000000; have := HMB.out; omega) (HY11.out.same fun k _ hk => hb.block k hk))
          have HMX := hide (fun (W : World) (hb : Below w11.heap.size w11 W) => marks_any X s _ W (by have := HMB.out; omega) (I11.out.below hb).ix)
          simp only [show (Ix.ofMarks s.every s.marks).marks = s.marks from rfl] at HMY
          obtain ⟨nm, hnm⟩ : ∃ nm, nm = s.marks.length := ⟨_, rfl⟩
          have HNM := hide hnm
          have hee : ((nm : Int) == nm) = true := beq_self_eq_true _
          clear hnm
          go_wp2_with (first
            | (go_at_call 24; (with_reducible refine (HIS1.out _ I11.out.bel).mono ?_); rintro e w12 ⟨rfl, hb⟩; have HB12 := hide hb; clear hb)
            | (go_at_call 14; have _t := HB13; refine (HMX.out _ HB13.out).mono ?_; rintro e w14 ⟨v14, rfl, hv, hb⟩; obtain ⟨A14, c14, rfl, -⟩ := marks_at hv; have HB14 := hide (HB13.out.trans (hb.mono HB13.out.size)); rw [← HNM.out]; clear hv hb)
            | (go_at_call 14; refine (HMY.out _ HB12.out).mono ?_; rintro e w13 ⟨v13, rfl, hv, hb⟩; obtain ⟨A13, c13, rfl, -⟩ := marks_at hv; have HB13 := hide (HB12.out.trans (hb.mono HB12.out.size)); rw [← HNM.out]; clear hv hb)
            | (go_at_call 24; have _t := HB14; (with_reducible refine (HIS0.out _ (I11.out.bel.trans (HB14.out.mono I11.out.bel.size))).mono ?_); rintro e w15 ⟨rfl, hb⟩; have HB15 := hide (HB14.out.trans (hb.mono HB14.out.size)); clear hb)
            | fail)
          go_ret
          exact ⟨rfl, I11.out.bel.trans (HB15.out.mono I11.out.bel.size)⟩
end Go.Proofs.YteeadlefbehhfaaDoor
