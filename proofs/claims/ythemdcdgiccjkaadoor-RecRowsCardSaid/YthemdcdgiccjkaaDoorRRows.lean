/-
  The walk through RecRows: batches one behind the other are read as they are, up to where they are cut; what is left is less than one.
-/
import Derived.Test.YthemdcdgiccjkaaDoorRcAll
import Derived.Test.YthemdcdgiccjkaaDoorRcAp
import Derived.Test.YthemdcdgiccjkaaDoorRSameB
import Derived.Test.YthemdcdgiccjkaaDoorRRow
import Derived.Test.YthemdcdgiccjkaaDoorIs
namespace Go.Proofs.YthemdcdgiccjkaaDoor
open Go.RowKit Crc

namespace Rc
theorem all_cut (bs : List Bat) (h : ∀ b ∈ bs, Good b) (m k : Nat) (hm : m ≤ (bs.flatMap bytes).length) (hk : k ≤ bs.length) (h1 : off bs k ≤ m) (h2 : k < bs.length → m < off bs (k + 1)) :
    all ((bs.flatMap bytes).take m) = (bs.take k, off bs k, if off bs k = m then 0 else 101) := by
  have key : ∃ rest, (bs.flatMap bytes).take m = fl bs k ++ rest ∧ rest.length = m - off bs k ∧ (0 < rest.length → rcode rest = 101) := by
    rcases Nat.lt_or_ge k bs.length with hlt | hge
    · have e := good_some bs k hlt
      have h3 := h2 hlt
      rw [off_succ bs k hlt] at h3
      refine ⟨(bytes bs[k]).take (m - off bs k), ?_, ?_, fun _ => cut_short _ (h _ (List.getElem_mem hlt)) _ (by omega)⟩
      · rw [e, List.take_append, List.take_of_length_le (show ((bs.take k).flatMap bytes).length ≤ m from h1), show m - ((bs.take k).flatMap bytes).length = m - off bs k from rfl, List.take_append_of_le_length (by omega)]
        rfl
      · rw [List.length_take]; omega
    · have hkn : k = bs.length := by omega
      have e : fl bs k = bs.flatMap bytes := by unfold fl; rw [hkn, List.take_length]
      have e2 : off bs k = (bs.flatMap bytes).length := by unfold off; rw [e]
      refine ⟨[], ?_, ?_, fun h => by simp at h⟩
      · rw [e, List.append_nil, List.take_of_length_le (by omega)]
      · simp; omega
  obtain ⟨rest, e, hl, hc⟩ := key
  have hrun := all_run (bs.take k) [] rest [] (fun b hb => h b (List.mem_of_mem_take hb))
  simp only [List.nil_append, List.length_nil, Nat.zero_add, Nat.sub_zero] at hrun
  rw [show (bs.take k).flatMap bytes = fl bs k from rfl] at hrun
  rw [e]
  unfold all
  rw [hrun, show (fl bs k).length = off bs k from rfl]
  by_cases h0 : off bs k = m
  · have hr : rest = [] := List.eq_nil_of_length_eq_zero (by omega)
    rw [if_pos h0, hr, List.append_nil]
    exact all_end (fl bs k) _
  · rw [if_neg h0]
    have hd : (fl bs k ++ rest).drop (off bs k) = rest := drop_pad _ _ _ rfl
    have hstop := all_stop (fl bs k ++ rest) (off bs k) (bs.take k) (by rw [List.length_append]; show (fl bs k).length < _; omega) (by rw [hd, hc (by omega)]; omega)
    rw [hd, hc (by omega)] at hstop
    exact hstop
theorem off_mono (bs : List Bat) (a b : Nat) (h : a ≤ b) : off bs a ≤ off bs b := by
  obtain ⟨d, rfl⟩ := Nat.exists_eq_add_of_le h
  unfold off fl
  rw [List.take_add, List.flatMap_append, List.length_append]
  omega
theorem last_one (bs : List Bat) (m : Nat) : ∀ n, ∃ k, k ≤ n ∧ off bs k ≤ m ∧ (k < n → m < off bs (k + 1)) := by
  intro n
  induction n with
  | zero => exact ⟨0, Nat.le_refl _, by simp [off, fl], fun h => by omega⟩
  | succ n ih =>
    obtain ⟨k, h1, h2, h3⟩ := ih
    by_cases hk : k < n
    · exact ⟨k, by omega, h2, fun _ => h3 hk⟩
    · obtain rfl : k = n := by omega
      by_cases h4 : off bs (k + 1) ≤ m
      · exact ⟨k + 1, Nat.le_refl _, h4, fun h => by omega⟩
      · exact ⟨k, by omega, h2, fun _ => by omega⟩
end Rc
/-- A row of numbers of the call's own: where each batch ends. -/
def Ends (w : World) (lo : Nat) (v : Value) (bs : List Rc.Bat) (j : Nat) : Prop := w.ownsRow lo 3 1 v j ((List.range j).map fun m => Value.int .i64 (Rc.off bs (m + 1) : Nat))
theorem ends_ne {w : World} {lo lo' : Nat} {v u : Value} {l : List UInt8} {bs : List Rc.Bat} {j : Nat} (h : Own w lo v l) (k : Ends w lo' u bs j) : (v.ownBlock = none ∨ v.ownBlock ≠ u.ownBlock) ∧ (u.ownBlock = none ∨ u.ownBlock ≠ v.ownBlock) := by
  have hh : ∀ g, v.ownBlock = some g → u.ownBlock ≠ some g := by
    intro g hg hk
    rcases h.2 with ⟨rfl, _⟩ | ⟨g1, c1, cur1, rfl, _, h1, _⟩
    · simp [Value.ownBlock] at hg
    rcases k.2 with ⟨rfl, _⟩ | ⟨g2, c2, cur2, rfl, _, h2, _⟩
    · simp [Value.ownBlock] at hk
    simp [Value.ownBlock] at hg hk
    subst hg hk
    rw [h1] at h2
    injection h2 with h2
    injection h2 with _ h2
    exact absurd h2 (by decide)
  cases e : v.ownBlock with
  | none => exact ⟨.inl rfl, by cases e2 : u.ownBlock <;> simp⟩
  | some g =>
    have := hh g e
    exact ⟨.inr (fun e2 => this e2.symm), .inr this⟩
theorem Ends.cells {w : World} {lo : Nat} {v : Value} {bs : List Rc.Bat} {j : Nat} (h : Ends w lo v bs j) : ∃ A c, v = .slice A j c ∧ (j = 0 ∨ ∃ g, A = some ⟨g, 0, none⟩ ∧ g < w.heap.size ∧ ∀ m, m < j → w.cell? ⟨g, m, none⟩ = some (.int .i64 (Rc.off bs (m + 1) : Nat))) := by
  rcases h.2 with ⟨rfl, h0⟩ | ⟨g, cap, cur, rfl, hb, hg, _⟩
  · exact ⟨_, _, by rw [h0], .inl h0⟩
  · refine ⟨_, _, rfl, .inr ⟨g, rfl, ?_, fun m hm => ?_⟩⟩
    · rcases Nat.lt_or_ge g w.heap.size with hlt | hge
      · exact hlt
      · rw [Array.getElem?_eq_none hge] at hg; cases hg
    · have h1 := World.ownsRow.cells h (g := g) rfl m (.int .i64 (Rc.off bs (m + 1) : Nat)) (by simp [hm])
      rw [Addr.add_lit, Nat.zero_add] at h1
      exact h1

set_option maxRecDepth 100000 in
set_option maxHeartbeats 4000000 in
theorem rrows_near (A : Option Addr) (cap : Nat) (zs : List Int) (cut : Int) (w : World) (p : Nat → Addr) (hs : Sents w p) (ht : Tabs w) (hA : Ints w A zs) (_ : zs.length ≤ cap) (hz : ∀ k, k < zs.length → -9223372036854775808 ≤ zs.getD k 0 ∧ zs.getD k 0 ≤ 9223372036854775807) (hc1 : -9223372036854775808 ≤ cut) (hc2 : cut ≤ 9223372036854775807) (h12 : zs.length ≤ 12) :
    Calls Tryd.prog 5 #[.slice A zs.length cap, .int .i64 cut] w fun e w' => e = .returned (.bool true) ∧ Below w.heap.size w w' := by
  have HF := hide (rfirst_any w p hs.five.two ht)
  have HS := hide (fun W (hw : Below w.heap.size w W) => hs.below hw)
  have HT := hide (fun W (hw : Below w.heap.size w W) => ht.below hw (Nat.le_refl _))
  have HRW := hide (fun W (hw : Below w.heap.size w W) => row_any 5 A cap zs.length 3 zs W rfl (by omega) (by omega) (by omega) (by omega) (by
    rcases hA with h | ⟨b, off, e, hl, hc⟩
    · exact .inl h
    · exact .inr ⟨b, off, e, Nat.lt_of_lt_of_le hl hw.size, fun k hk => (hw.cell (p := ⟨b, off + k, none⟩) hl).trans (hc k hk)⟩) hz)
  have hok := Rw.go_ok zs ((5 : Nat) : Int) 0 3 (by omega) (by omega) (by omega)
  have hll := Rw.go_len zs ((5 : Nat) : Int) 0 3
  have q2 : decide ((12 : Int) < (zs.length : Int)) = false := by simp; omega
  have HOK := hide hok
  have HLL := hide hll
  clear hs ht hA hz hok hll
  generalize hLL : Rw.go ((5 : Nat) : Int) 0 3 zs = LL at *
  clear hLL
  generalize hn : zs.length = n at *
  clear hn
  go_enter Tryd.func5, Tryd.ntmps5
  go_wp2_with fail
  refine HF.out.mono ?_
  rintro e w1 ⟨rfl, hb1⟩
  have HB1 := hide hb1
  clear hb1 HF
  go_wp2_with fail
  refine (HRW.out w1 HB1.out).mono ?_
  rintro e w2 ⟨⟨A8, c8, rfl, hc8, hm8, hbats⟩, hb2⟩
  have HB2 := hide (HB1.out.trans (hb2.mono HB1.out.size))
  have HBT := hide hbats
  clear hb2 hbats HRW HB1
  go_upto_block 0 with fail
  go_cut [7, 8] (fun vb vf wx => Own wx w2.heap.size vb (Rc.fl LL n) ∧ Ends wx w2.heap.size vf LL n ∧ Below w2.heap.size w2 wx ∧ Rc.off LL n ≤ 3100 * n)
  case first =>
    go_wp2_with fail
    go_loopw [7, 8, 9] (fun vb vf i wr => ∃ j : Nat, j ≤ n ∧ i = .int .i64 j ∧ Own wr w2.heap.size vb (Rc.fl LL j) ∧ Ends wr w2.heap.size vf LL j ∧ Below w2.heap.size w2 wr ∧ Rc.off LL j ≤ 3100 * j) (fun _ _ i _ => n - (intOf i).toNat)
    case atStart => exact ⟨0, Nat.zero_le _, rfl, Own.nil _ _, World.ownsRow_nil _ _ _ 1, Below.refl _ _, Nat.le_refl _⟩
    case round =>
      obtain ⟨j, hj, rfl, ho, hf, hb, hle⟩ := hrel
      have HO := hide ho
      have HFR := hide hf
      have HBK := hide hb
      clear ho hf hb
      by_cases hlt : j < n
      · have hjl : j < LL.length := by have := HLL.out; omega
        rcases HBT.out with e0 | ⟨b, off, rfl, hb0, hcl⟩
        · rw [e0] at hjl; simp at hjl
        obtain ⟨Ax, cx, d0, d1, d2, hib⟩ := (hcl j hjl).ex
        have k0 := (HBK.out.cell (p := ⟨b, off + j * 3, none⟩) hb0).trans d0
        have k1 := (HBK.out.cell (p := ⟨b, off + j * 3 + 1, none⟩) hb0).trans d1
        have k2 := (HBK.out.cell (p := ⟨b, off + j * 3 + 2, none⟩) hb0).trans d2
        have hbr : b < wr.heap.size := Nat.lt_of_lt_of_le hb0 HBK.out.size
        have hgood := (HOK.out LL[j] (List.getElem_mem hjl))
        have hwr := HB2.out.trans (HBK.out.mono HB2.out.size)
        have hib1 := hib.below HBK.out (Nat.le_refl _)
        have HBYS := hide (batBytes_any LL[j] Ax cx LL[j].recs.length wr p hib1 (HS.out wr hwr).five.two (HT.out wr hwr) rfl hgood.1)
        have HSZ := hide (fun W (hw : Below wr.heap.size wr W) => size_any_bat LL[j] Ax cx LL[j].recs.length W p (hib1.below hw (Nat.le_refl _)) ((HS.out wr hwr).five.two.below hw) rfl)
        rw [if_pos ((Rc.bad_good LL[j]).2 hgood.1)] at HSZ
        have HSUC := hide (Rc.fl_succ LL j hjl)
        have HOSU := hide (Rc.off_succ LL j hjl)
        have hbl := Rc.body_len LL[j] hgood.1
        have hbl2 := Rc.bytes_len LL[j]
        have hrl := hgood.2.1
        have hbs : (Rc.bytes LL[j]).length ≤ 3100 := by omega
        clear hcl d0 d1 d2 hib hib1 hgood hbl hbl2 hrl hwr
        generalize LL[j] = bt at *
        generalize hbs' : Rc.bytes bt = bs at *
        clear hbs'
        go_wp2_with fail
        refine HBYS.out.mono ?_
        rintro e w3 ⟨vx, rfl, hox, hbx⟩
        obtain ⟨A5, c5, rfl, ha5⟩ := hox.arg
        have HOX := hide hox
        have HBW := hide hbx
        have k3 := (hbx.cell (p := ⟨b, off + j * 3, none⟩) hbr).trans k0
        have k4 := (hbx.cell (p := ⟨b, off + j * 3 + 1, none⟩) hbr).trans k1
        have k5 := (hbx.cell (p := ⟨b, off + j * 3 + 2, none⟩) hbr).trans k2
        clear hox hbx ha5 HBYS k0 k1 k2
        go_wp2_with fail
        refine (HSZ.out w3 HBW.out).mono ?_
        rintro e w4 ⟨rfl, hb4⟩
        have hb34 := HBW.out.trans (hb4.mono HBW.out.size)
        have HOX4 := hide (HOX.out.below hb4 (Nat.le_refl _))
        have HO4 := hide (HO.out.below hb34 (Nat.le_refl _))
        have HF4 : Hid (Ends w4 w2.heap.size u8 LL j) := hide (HFR.out.kept (grown_of_below hb34 none) (by cases u8.ownBlock <;> simp))
        have hbx4 := HBK.out.trans (hb34.mono HBK.out.size)
        have HBX := hide hbx4
        have hz4 := hbx4.size
        have q5 : ((bs.length : Int) != bs.length) = false := by simp
        clear hb4 hb34 hbx4 HSZ k3 k4 k5 HOX HO HFR HBK HBW
        obtain ⟨A9, c9, rfl, ha9⟩ := HO4.out.arg
        clear ha9
        have hfl : (Rc.fl LL j).length ≤ 3100 * j := hle
        obtain ⟨i0, hi, hz, hs1, hby⟩ := info_parts int_info
        go_wp2_with first | (at_builtin; refine wpList_app rfl (.tmp 57) (.tmp 58) rfl w2.heap.size (.slice A9 (Rc.fl LL j).length c9) (Rc.fl LL j) bs rfl HO4.out A5 bs.length c5 rfl rfl (own_reads HOX4.out) (by omega) (by omega) ?_; intro v6 we hown6 hg6 hat6; have HF6 : Hid (Ends we w2.heap.size u8 LL j) := hide (World.ownsRow.kept HF4.out hg6 (ends_ne HO4.out HF4.out).2); have hb6 := (HBX.out.grown hg6 (by omega) (fun g hg => (HO4.out.lt g hg).1)); have HB6 := hide hb6; have hz6 := hb6.size; rw [← HSUC.out] at hown6; have HO6 := hide hown6; obtain ⟨A6, c6, rfl, _⟩ := hown6.arg; clear hown6 hg6 hat6 hb6) | (at_builtin; refine wpList_append_own_at (w := we.alloc _) rfl (.tmp 60) (.tmp 63) 49 rfl w2.heap.size 3 i0 _ 1 8 Tryd.underlying49 hi hz hs1 hby rfl (by omega) u8 j ((List.range j).map fun m => Value.int .i64 (Rc.off LL (m + 1) : Nat)) rfl (HF6.out.alloc _) ⟨we.heap.size, 0, none⟩ 1 1 [Value.int .i64 ((Rc.fl LL (j + 1)).length : Nat)] rfl rfl (cell_one_new _ _ _) (by intro u hu; simp at hu; subst hu; rfl) (by simp only [maxLen]; omega) (by omega) (by simp; omega) ?_; intro v5 wd hown5 hg5 hnil5 hat5; have HO5 : Hid (Own wd w2.heap.size (.slice A6 (Rc.fl LL (j + 1)).length c6) (Rc.fl LL (j + 1))) := hide (World.ownsRow.kept (HO6.out.alloc _) hg5 (ends_ne HO6.out HF6.out).1); have HF5 : Hid (Ends wd w2.heap.size v5 LL (j + 1)) := hide (by unfold Ends; rw [List.range_succ, List.map_append]; exact hown5); have HBD := hide ((balloc HB6.out _).grown hg5 (by simp; omega) (fun g hg => (World.ownsRow.lt HF6.out g hg).1)); clear hown5 hg5 hnil5 hat5)
        go_round
        case rel => exact ⟨j + 1, by omega, by go_num, HO5.out, HF5.out, HBD.out, by rw [HOSU.out]; omega⟩
        case measure => simp [intOf]; omega
      · obtain rfl : j = n := by omega
        go_wp2_with fail
        go_meet
        exact ⟨HO.out, HFR.out, HBK.out, hle⟩
  case rest =>
    obtain ⟨ho, hf, hb, hle⟩ := hcut
    have hFL : Rc.fl LL n = LL.flatMap Rc.bytes := by unfold Rc.fl; rw [← HLL.out, List.take_length]
    have hlen : (Rc.fl LL n).length ≤ 37200 := by have : (Rc.fl LL n).length ≤ 3100 * n := hle; omega
    obtain ⟨Ai, ci, rfl, hci⟩ := hf.cells
    obtain ⟨A9, c9, rfl, ha9⟩ := ho.arg
    obtain ⟨m, hm⟩ : ∃ m, m = num cut ((Rc.fl LL n).length + 1) := ⟨_, rfl⟩
    have hml : m < (Rc.fl LL n).length + 1 := by rw [hm]; exact num_lt _ _ (by omega)
    have HNA := hide (fun W => num_at cut (((Rc.fl LL n).length : Int) + 1) ((Rc.fl LL n).length + 1) W (by omega) (by omega) (by omega) hc1 hc2)
    rw [← hm] at HNA
    have HB := hide hb
    have HCUT := hide (fun k hk h1 h2 => Rc.all_cut LL (fun b hb => (HOK.out b hb).1) m k (by rw [← hFL]; omega) hk h1 h2)
    rw [← hFL] at HCUT
    have hoff : Rc.off LL n = (Rc.fl LL n).length := rfl
    have HIL : Hid (m ≤ Rc.off LL n) := hide (by omega)
    have h9 := ha9.le
    have HA9 := hide ha9
    have HCI := hide hci
    clear hm hb hle hci ha9 ho hf hoff
    generalize hLn : (Rc.fl LL n).length = ln at *
    generalize Rc.fl LL n = L at *
    have hm9 := HA9.out.max
    go_upto_region 18 with
      (refine (HNA.out _).mono ?_
       rintro e wf ⟨rfl, rfl⟩)
    clear HNA
    obtain ⟨k0, hk0, hk1, hk2⟩ := Rc.last_one LL m n
    have HALL := hide (HCUT.out k0 (by have := HLL.out; omega) hk1 (fun h => hk2 (by have := HLL.out; omega)))
    have HTK : Hid ((LL.take k0).length = k0) := hide (by rw [List.length_take]; have := HLL.out; omega)
    have HWC := hide (HB2.out.trans (HB.out.mono HB2.out.size))
    have HBTC := hide (HBT.out.below HB.out (Nat.le_refl _))
    have HRD := hide (all_any A9 c9 m (L.take m) wc p (by rw [List.length_take]; omega) (by omega) (HA9.out.first m) (HS.out _ HWC.out).five (HT.out _ HWC.out))
    unfold AllPost at HRD
    rw [HALL.out] at HRD
    simp only at HRD
    rw [HTK.out] at HRD
    obtain ⟨ev, hev⟩ : ∃ ev, ev = errOf p (if Rc.off LL k0 = m then 0 else 101) := ⟨_, rfl⟩
    rw [← hev] at HRD
    have HEV := hide hev
    clear hev HALL HCUT HA9 HBT HB
    have hmc : m ≤ c9 := by omega
    go_wp2_with fail
    refine HRD.out.mono ?_
    rintro e wf ⟨⟨Ap, cp, rfl, hcp1, hcp2, hbp⟩, hbf⟩
    have HBP := hide hbp
    have HWF := hide (HWC.out.trans (hbf.mono HWC.out.size))
    have HBTF := hide (HBTC.out.below hbf (Nat.le_refl _))
    have hcif : n = 0 ∨ ∃ g, Ai = some ⟨g, 0, none⟩ ∧ ∀ m, m < n → wf.cell? ⟨g, m, none⟩ = some (.int .i64 (Rc.off LL (m + 1) : Nat)) := by
      rcases HCI.out with h | ⟨g, hg, hgl, hc⟩
      · exact .inl h
      · exact .inr ⟨g, hg, fun m hm => (hbf.cell (p := ⟨g, m, none⟩) hgl).trans (hc m hm)⟩
    have HCF := hide hcif
    clear hbp hbf hcif HCI HBTC HRD
    go_upto_block 2 with fail
    go_cut [16] (fun vk wx => wf = wx ∧ vk = .int .i64 k0)
    case first =>
      go_wp2_with fail
      go_loop [16] (fun v => ∃ k : Nat, v = .int .i64 k ∧ k ≤ k0) (fun v => n - (intOf v).toNat)
      case atStart => exact ⟨0, rfl, by omega⟩
      case round =>
        obtain ⟨k, rfl, hk⟩ := hrel
        by_cases hkk : k < k0
        · have hkn : k < n := by omega
          rcases HCF.out with h | ⟨g, rfl, hcf⟩
          · omega
          have hc1' := hcf k hkn
          have hmono := Rc.off_mono LL (k + 1) k0 (by omega)
          have hd1 : decide ((k : Int) < (n : Int)) = true := by simp; omega
          have hd2 : decide (((Rc.off LL (k + 1) : Nat) : Int) ≤ (m : Int)) = true := by simp; omega
          clear hcf
          go_wp2_with fail
          go_round
          case rel => exact ⟨k + 1, by go_num, by omega⟩
          case measure => simp [intOf]; omega
        · have hke : k = k0 := by omega
          clear hk hkk
          subst hke
          by_cases hkn : k < n
          · rcases HCF.out with h | ⟨g, rfl, hcf⟩
            · omega
            have hc1' := hcf k hkn
            have hlt := hk2 hkn
            have hd1 : decide ((k : Int) < (n : Int)) = true := by simp; omega
            have hd2 : decide (((Rc.off LL (k + 1) : Nat) : Int) ≤ (m : Int)) = false := by simp; omega
            clear hcf
            go_wp2_with fail
            go_meet
            exact ⟨rfl, rfl⟩
          · have hd1 : decide ((k : Int) < (n : Int)) = false := by simp; omega
            go_wp2_with fail
            go_meet
            exact ⟨rfl, rfl⟩
    case rest =>
      obtain ⟨rfl, rfl⟩ := hcut
      have HSB := hide (sameBatches_eq Ap A8 cp c8 k0 (LL.take k0) wf HTK.out (by omega) HBP.out (HBTF.out.first k0) (fun b hb => by
        have h := HOK.out b (List.mem_of_mem_take hb)
        refine ⟨by omega, fun r hr => ?_⟩
        have h2 := h.2.2 r hr
        exact ⟨by omega, by omega⟩))
      have hkc : k0 ≤ c8 := by omega
      clear HBP HBTF HTK
      by_cases hz0 : k0 = 0
      · subst hz0
        have ho0 : Rc.off LL 0 = 0 := by simp [Rc.off, Rc.fl]
        rw [ho0] at hk1
        go_wp2_with fail
        refine HSB.out.mono ?_
        rintro e wh ⟨rfl, hbh⟩
        have HWH := hide (HWF.out.trans (hbh.mono HWF.out.size))
        clear hbh HSB
        have he := HEV.out
        rw [ho0] at he
        clear ho0
        clear HEV
        by_cases heq : 0 = m
        · rw [if_pos heq] at he
          obtain rfl : ev = .nilIface := he
          have hq : ((0 : Int) == (m : Int)) = true := by rw [← heq]; rfl
          clear heq
          go_wp2_with fail
          go_ret
          exact ⟨rfl, HWH.out⟩
        · rw [if_neg heq] at he
          obtain rfl : ev = .iface 147 (.pointer (some (p 0))) := he
          have hq : ((0 : Int) == (m : Int)) = false := by rw [beq_eq_false_iff_ne]; omega
          have HIZ := hide (is_sent _ p (HS.out _ HWH.out) 0 (by omega) 101)
          unfold errV at HIZ
          generalize (.pointer (some (p 0)) : Value) = xe at *
          have k1 := neq_nil 147 xe
          clear heq
          go_wp2_with fail
          refine HIZ.out.mono ?_
          rintro e wi ⟨rfl, hbi⟩
          have HWI := hide (HWH.out.trans (hbi.mono HWH.out.size))
          clear hbi
          go_wp2_with fail
          go_ret
          exact ⟨rfl, HWI.out⟩
      · have hd4 : decide ((0 : Int) < (k0 : Int)) = true := by simp; omega
        rcases HCF.out with h | ⟨g, rfl, hcf⟩
        · omega
        have hc1' := hcf (k0 - 1) (by omega)
        rw [Nat.sub_add_cancel (by omega)] at hc1'
        have hk1n : ((k0 : Int) - 1) = ((k0 - 1 : Nat) : Int) := by omega
        have hu : (((Rc.off LL k0 : Nat) : Int) == ((Rc.off LL k0 : Nat) : Int)) = true := by simp
        clear hcf
        go_wp2_with fail
        refine HSB.out.mono ?_
        rintro e wh ⟨rfl, hbh⟩
        have HWH := hide (HWF.out.trans (hbh.mono HWF.out.size))
        clear hbh HSB
        have he := HEV.out
        clear HEV
        by_cases heq : Rc.off LL k0 = m
        · rw [if_pos heq] at he
          obtain rfl : ev = .nilIface := he
          have hq : (((Rc.off LL k0 : Nat) : Int) == (m : Int)) = true := by simp; omega
          clear heq
          go_wp2_with fail
          go_ret
          exact ⟨rfl, HWH.out⟩
        · rw [if_neg heq] at he
          obtain rfl : ev = .iface 147 (.pointer (some (p 0))) := he
          have hq : (((Rc.off LL k0 : Nat) : Int) == (m : Int)) = false := by rw [beq_eq_false_iff_ne]; omega
          have HIZ := hide (is_sent _ p (HS.out _ HWH.out) 0 (by omega) 101)
          unfold errV at HIZ
          generalize (.pointer (some (p 0)) : Value) = xe at *
          have k1 := neq_nil 147 xe
          clear heq
          go_wp2_with fail
          refine HIZ.out.mono ?_
          rintro e wi ⟨rfl, hbi⟩
          have HWI := hide (HWH.out.trans (hbi.mono HWH.out.size))
          clear hbi
          go_wp2_with fail
          go_ret
          exact ⟨rfl, HWI.out⟩

set_option maxRecDepth 100000 in
set_option maxHeartbeats 1000000 in
theorem rrows_far (A : Option Addr) (cap n : Nat) (cut : Int) (w : World) (p : Nat → Addr) (hs : Sents w p) (ht : Tabs w) (hm : n ≤ 9223372036854775807) (h1 : 12 < n) :
    Calls Tryd.prog 5 #[.slice A n cap, .int .i64 cut] w fun e w' => e = .returned (.bool true) ∧ Below w.heap.size w w' := by
  have HF := hide (rfirst_any w p hs.five.two ht)
  clear hs ht
  have q2 : decide ((12 : Int) < (n : Int)) = true := by simp; omega
  go_enter Tryd.func5, Tryd.ntmps5
  go_wp2_with fail
  refine HF.out.mono ?_
  rintro e w1 ⟨rfl, hb1⟩
  have HB1 := hide hb1
  clear hb1 HF
  go_wp2_with fail
  go_ret
  exact ⟨rfl, HB1.out⟩

theorem rrows_walk (A : Option Addr) (cap n : Nat) (zs : List Int) (cut : Int) (w : World) (p : Nat → Addr) (hs : Sents w p) (ht : Tabs w) (hn : zs.length = n) (hA : Ints w A zs) (hc : zs.length ≤ cap) (hm : cap ≤ 9223372036854775807) (hz : ∀ k, k < zs.length → -9223372036854775808 ≤ zs.getD k 0 ∧ zs.getD k 0 ≤ 9223372036854775807) (hc1 : -9223372036854775808 ≤ cut) (hc2 : cut ≤ 9223372036854775807) :
    Calls Tryd.prog 5 #[.slice A n cap, .int .i64 cut] w fun e w' => e = .returned (.bool true) ∧ Below w.heap.size w w' := by
  subst hn
  by_cases h : 12 < zs.length
  · exact rrows_far A cap zs.length cut w p hs ht (by omega) h
  · exact rrows_near A cap zs cut w p hs ht hA hc hz hc1 hc2 (by omega)
end Go.Proofs.YthemdcdgiccjkaaDoor
