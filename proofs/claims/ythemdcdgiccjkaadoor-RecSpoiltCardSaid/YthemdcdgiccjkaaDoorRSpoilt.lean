/-
  The walk through RecSpoilt: all that is ahead of a batch that was spoilt is read; from it on nothing is.
-/
import Derived.Test.YthemdcdgiccjkaaDoorRcAll
import Derived.Test.YthemdcdgiccjkaaDoorRcAp
import Derived.Test.YthemdcdgiccjkaaDoorRSameB
import Derived.Test.YthemdcdgiccjkaaDoorRRow
import Derived.Test.YthemdcdgiccjkaaDoorIs
namespace Go.Proofs.YthemdcdgiccjkaaDoor
open Go.RowKit Crc

theorem int_info : (Tryd.prog.info? 3).map (fun i => (i.zero, i.size, i.bytes)) = some (some (.int .i64 0), 1, 8) := by kernel_rfl
def Rc.fl (bs : List Rc.Bat) (k : Nat) : List UInt8 := (bs.take k).flatMap Rc.bytes
def Rc.off (bs : List Rc.Bat) (k : Nat) : Nat := (Rc.fl bs k).length
theorem Rc.fl_succ (bs : List Rc.Bat) (k : Nat) (h : k < bs.length) : Rc.fl bs (k + 1) = Rc.fl bs k ++ Rc.bytes bs[k] := by
  unfold Rc.fl
  rw [List.take_succ_eq_append_getElem h, List.flatMap_append, List.flatMap_cons, List.flatMap_nil, List.append_nil]
theorem Rc.off_succ (bs : List Rc.Bat) (k : Nat) (h : k < bs.length) : Rc.off bs (k + 1) = Rc.off bs k + (Rc.bytes bs[k]).length := by
  unfold Rc.off
  rw [Rc.fl_succ bs k h, List.length_append]
/-- A row of numbers of the call's own: where each batch begins. -/
def Froms (w : World) (lo : Nat) (v : Value) (bs : List Rc.Bat) (j : Nat) : Prop := w.ownsRow lo 3 1 v j ((List.range j).map fun m => Value.int .i64 (Rc.off bs m : Nat))
theorem ints_apart {w : World} {lo lo' : Nat} {v u : Value} {l : List UInt8} {bs : List Rc.Bat} {j : Nat} (h : Own w lo v l) (k : Froms w lo' u bs j) : ∀ g, v.ownBlock = some g → u.ownBlock ≠ some g := by
  intro g hg hk
  rcases h.2 with ⟨rfl, _⟩ | ⟨g1, c1, cur1, rfl, _, h1, _⟩
  · simp [Value.ownBlock] at hg
  rcases k.2 with ⟨rfl, _⟩ | ⟨g2, c2, cur2, rfl, _, h2, _⟩
  · simp [Value.ownBlock] at hk
  simp [Value.ownBlock] at hg hk
  subst hg hk
  rw [h1] at h2
  injection h2 with h2
  injection h2 with _ h2
  exact absurd h2 (by decide)
theorem Froms.cell {w : World} {lo g c : Nat} {bs : List Rc.Bat} {j : Nat} (h : Froms w lo (.slice (some ⟨g, 0, none⟩) j c) bs j) : ∀ m, m < j → w.cell? ⟨g, m, none⟩ = some (.int .i64 (Rc.off bs m : Nat)) := by
  intro m hm
  have h1 := World.ownsRow.cells h (g := g) rfl m (.int .i64 (Rc.off bs m : Nat)) (by simp [hm])
  rw [Addr.add_lit, Nat.zero_add] at h1
  exact h1
theorem Froms.form {w : World} {lo : Nat} {v : Value} {bs : List Rc.Bat} {j : Nat} (h : Froms w lo v bs j) (hn : 0 < j) : ∃ g cap, v = .slice (some ⟨g, 0, none⟩) j cap ∧ lo ≤ g ∧ g < w.heap.size := by
  rcases h.2 with ⟨_, h0⟩ | ⟨g, cap, cur, hv, hb, hg, _⟩
  · omega
  · refine ⟨g, cap, hv, hb, ?_⟩
    rcases Nat.lt_or_ge g w.heap.size with hlt | hge
    · exact hlt
    · rw [Array.getElem?_eq_none hge] at hg; cases hg
theorem own_reads {w : World} {lo : Nat} {A : Option Addr} {n c : Nat} {l : List UInt8} (h : Own w lo (.slice A n c) l) : Reads w A l := by
  obtain ⟨A', c', e, ha⟩ := h.arg
  injection e with e1 e2 e3
  subst e1
  exact ha.reads
theorem ints_ne {w : World} {lo lo' : Nat} {v u : Value} {l : List UInt8} {bs : List Rc.Bat} {j : Nat} (h : Own w lo v l) (k : Froms w lo' u bs j) : (v.ownBlock = none ∨ v.ownBlock ≠ u.ownBlock) ∧ (u.ownBlock = none ∨ u.ownBlock ≠ v.ownBlock) := by
  have hh := ints_apart h k
  cases e : v.ownBlock with
  | none => exact ⟨.inl rfl, by cases e2 : u.ownBlock <;> simp⟩
  | some g =>
    have := hh g e
    exact ⟨.inr (fun e2 => this e2.symm), .inr this⟩

attribute [local go_sem] x8

set_option maxRecDepth 100000 in
set_option maxHeartbeats 4000000 in
theorem rspoilt_near (A : Option Addr) (cap : Nat) (zs : List Int) (at_ : Int) (by_ : UInt8) (w : World) (p : Nat → Addr) (hs : Sents w p) (ht : Tabs w) (hA : Ints w A zs) (_ : zs.length ≤ cap) (hz : ∀ k, k < zs.length → -9223372036854775808 ≤ zs.getD k 0 ∧ zs.getD k 0 ≤ 9223372036854775807) (ha1 : -9223372036854775808 ≤ at_) (ha2 : at_ ≤ 9223372036854775807) (h0 : zs.length ≠ 0) (h10 : zs.length ≤ 10) (hby : by_ ≠ 0) :
    Calls Tryd.prog 9 #[.slice A zs.length cap, .int .i64 at_, .int .u8 (B by_)] w fun e w' => e = .returned (.bool true) ∧ Below w.heap.size w w' := by
  have HF := hide (rfirst_any w p hs.five.two ht)
  have HS := hide (fun W (hw : Below w.heap.size w W) => hs.below hw)
  have HT := hide (fun W (hw : Below w.heap.size w W) => ht.below hw (Nat.le_refl _))
  have HRW := hide (fun W (hw : Below w.heap.size w W) => row_any 0 A cap zs.length 2 zs W rfl (by omega) (by omega) (by omega) (by omega) (by
    rcases hA with h | ⟨b, off, e, hl, hc⟩
    · exact .inl h
    · exact .inr ⟨b, off, e, Nat.lt_of_lt_of_le hl hw.size, fun k hk => (hw.cell (p := ⟨b, off + k, none⟩) hl).trans (hc k hk)⟩) hz)
  have hok := Rw.go_ok zs 0 0 2 (by omega) (by omega) (by omega)
  have hll := Rw.go_len zs 0 0 2
  have q1 : ((zs.length : Int) == 0) = false := by rw [beq_eq_false_iff_ne]; omega
  have q2 : decide ((10 : Int) < (zs.length : Int)) = false := by simp; omega
  have q3 : (B by_ == 0) = false := by
    rw [beq_eq_false_iff_ne]
    intro e
    exact hby (B_inj (a := by_) (b := 0) e)
  have HOK := hide hok
  have HLL := hide hll
  have HBY := hide hby
  clear hs ht hA hz hok hll hby
  generalize hLL : Rw.go ((0 : Nat) : Int) 0 2 zs = LL at *
  clear hLL
  generalize hn : zs.length = n at *
  clear hn
  go_enter Tryd.func9, Tryd.ntmps9
  go_wp2_with fail
  refine HF.out.mono ?_
  rintro e w1 ⟨rfl, hb1⟩
  have HB1 := hide hb1
  clear hb1 HF
  go_wp2_with fail
  refine (HRW.out w1 HB1.out).mono ?_
  rintro e w2 ⟨⟨A8, c8, rfl, hc8, hm8, hbats⟩, hb2⟩
  have HB2 := hide (HB1.out.trans (hb2.mono HB1.out.size))
  have HBT := hide hbats
  clear hb2 hbats HRW HB1
  go_upto_block 0 with fail
  go_cut [9, 10] (fun vb vf wx => Own wx w2.heap.size vb (Rc.fl LL n) ∧ Froms wx w2.heap.size vf LL n ∧ Below w2.heap.size w2 wx ∧ Rc.off LL n ≤ 3100 * n)
  case first =>
    go_wp2_with fail
    go_loopw [9, 10, 11] (fun vb vf i wr => ∃ j : Nat, j ≤ n ∧ i = .int .i64 j ∧ Own wr w2.heap.size vb (Rc.fl LL j) ∧ Froms wr w2.heap.size vf LL j ∧ Below w2.heap.size w2 wr ∧ Rc.off LL j ≤ 3100 * j) (fun _ _ i _ => n - (intOf i).toNat)
    case atStart => exact ⟨0, Nat.zero_le _, rfl, Own.nil _ _, World.ownsRow_nil _ _ _ 1, Below.refl _ _, Nat.le_refl _⟩
    case round =>
      obtain ⟨j, hj, rfl, ho, hf, hb, hle⟩ := hrel
      have HO := hide ho
      have HFR := hide hf
      have HBK := hide hb
      clear ho hf hb
      by_cases hlt : j < n
      · have hjl : j < LL.length := by have := HLL.out; omega
        rcases HBT.out with e0 | ⟨b, off, rfl, hb0, hcl⟩
        · rw [e0] at hjl; simp at hjl
        obtain ⟨Ax, cx, d0, d1, d2, hib⟩ := (hcl j hjl).ex
        have k0 := (HBK.out.cell (p := ⟨b, off + j * 3, none⟩) hb0).trans d0
        have k1 := (HBK.out.cell (p := ⟨b, off + j * 3 + 1, none⟩) hb0).trans d1
        have k2 := (HBK.out.cell (p := ⟨b, off + j * 3 + 2, none⟩) hb0).trans d2
        have hgood := (HOK.out LL[j] (List.getElem_mem hjl))
        have hwr := HB2.out.trans (HBK.out.mono HB2.out.size)
        have HBYS := hide (batBytes_any LL[j] Ax cx LL[j].recs.length wr p (hib.below HBK.out (Nat.le_refl _)) (HS.out wr hwr).five.two (HT.out wr hwr) rfl hgood.1)
        have HSUC := hide (Rc.fl_succ LL j hjl)
        have HOSU := hide (Rc.off_succ LL j hjl)
        have hbl := Rc.body_len LL[j] hgood.1
        have hbl2 := Rc.bytes_len LL[j]
        have hrl := hgood.2.1
        have hbs : (Rc.bytes LL[j]).length ≤ 3100 := by omega
        clear hcl d0 d1 d2 hib hgood hbl hbl2 hrl hwr
        generalize LL[j] = bt at *
        generalize hbs' : Rc.bytes bt = bs at *
        clear hbs'
        go_wp2_with fail
        refine HBYS.out.mono ?_
        rintro e w3 ⟨vx, rfl, hox, hbx⟩
        obtain ⟨A5, c5, rfl, ha5⟩ := hox.arg
        have HOX := hide hox
        have HO3 := hide (HO.out.below hbx (Nat.le_refl _))
        have HF3 : Hid (Froms w3 w2.heap.size u10 LL j) := hide (HFR.out.kept (grown_of_below hbx none) (by cases u10.ownBlock <;> simp))
        have hbx2 := HBK.out.trans (hbx.mono HBK.out.size)
        have HBX := hide hbx2
        have hz3 := hbx2.size
        clear hox hbx ha5 hbx2 HBYS k0 k1 k2 HO HFR HBK
        obtain ⟨A9, c9, rfl, ha9⟩ := HO3.out.arg
        clear ha9
        have hfl : (Rc.fl LL j).length ≤ 3100 * j := hle
        obtain ⟨i0, hi, hz, hs1, hby⟩ := info_parts int_info
        go_upto_region 15 with fail
        go_wp2_with first | (at_builtin; refine wpList_append_own_at (w := w3.alloc _) rfl (.tmp 57) (.tmp 60) 49 rfl w2.heap.size 3 i0 _ 1 8 Tryd.underlying49 hi hz hs1 hby rfl (by omega) u10 j ((List.range j).map fun m => Value.int .i64 (Rc.off LL m : Nat)) rfl (HF3.out.alloc _) ⟨w3.heap.size, 0, none⟩ 1 1 [Value.int .i64 ((Rc.fl LL j).length : Nat)] rfl rfl (cell_one_new _ _ _) (by intro u hu; simp at hu; subst hu; rfl) (by simp only [maxLen]; omega) (by omega) (by simp; omega) ?_; intro v5 wd hown5 hg5 hnil5 hat5; have HO5 : Hid (Own wd w2.heap.size (.slice A9 (Rc.fl LL j).length c9) (Rc.fl LL j)) := hide (World.ownsRow.kept (HO3.out.alloc _) hg5 (ints_ne HO3.out HF3.out).1); have HOX5 : Hid (Own wd wr.heap.size (.slice A5 bs.length c5) bs) := hide (World.ownsRow.kept (HOX.out.alloc _) hg5 (ints_ne HOX.out HF3.out).1); have HF5 : Hid (Froms wd w2.heap.size v5 LL (j + 1)) := hide (by unfold Froms; rw [List.range_succ, List.map_append]; exact hown5); have hbd := ((balloc HBX.out _).grown hg5 (by simp; omega) (fun g hg => (World.ownsRow.lt HF3.out g hg).1)); have HBD := hide hbd; have hzd := hbd.size; clear hown5 hg5 hnil5 hat5 hbd) | (at_builtin; refine wpList_app rfl (.tmp 62) (.tmp 63) rfl w2.heap.size (.slice A9 (Rc.fl LL j).length c9) (Rc.fl LL j) bs rfl HO5.out A5 bs.length c5 rfl rfl (own_reads HOX5.out) (by omega) (by omega) ?_; intro v6 we hown6 hg6 hat6; have HF6 : Hid (Froms we w2.heap.size v5 LL (j + 1)) := hide (World.ownsRow.kept HF5.out hg6 (ints_ne HO5.out HF5.out).2); have HB6 := hide (HBD.out.grown hg6 (by omega) (fun g hg => (HO5.out.lt g hg).1)); have HO6 := hide hown6; clear hown6 hg6 hat6)
        go_round
        case rel => exact ⟨j + 1, by omega, by go_num, by rw [HSUC.out]; exact HO6.out, HF6.out, HB6.out, by rw [HOSU.out]; omega⟩
        case measure => simp [intOf]; omega
      · obtain rfl : j = n := by omega
        go_wp2_with fail
        go_meet
        exact ⟨HO.out, HFR.out, HBK.out, hle⟩
  case rest =>
    obtain ⟨ho, hf, hb, hle⟩ := hcut
    have hFL : Rc.fl LL n = LL.flatMap Rc.bytes := by unfold Rc.fl; rw [← HLL.out, List.take_length]
    have hpos : 0 < (Rc.fl LL n).length := by
      have h1 := Rc.off_succ LL 0 (by have := HLL.out; omega)
      have h2 := Rc.bytes_pos (LL[0]'(by have := HLL.out; omega))
      have h3 : Rc.off LL 1 ≤ Rc.off LL n := by
        unfold Rc.off Rc.fl
        have hh : LL.take n = LL.take 1 ++ (LL.drop 1).take (n - 1) := by
          rw [show n = 1 + (n - 1) by omega, List.take_add]; simp
        rw [hh, List.flatMap_append, List.length_append]; omega
      unfold Rc.off at h1 h3
      rw [Nat.zero_add] at h1
      omega
    have hlen : (Rc.fl LL n).length ≤ 31000 := by have : (Rc.fl LL n).length ≤ 3100 * n := hle; omega
    obtain ⟨gi, ci, rfl, hgi, hgil⟩ := Froms.form hf (by omega)
    have hci := Froms.cell hf
    obtain ⟨g, c8', rfl, hg8, hl8, ha8, hfr8, hset8⟩ := ho.open_ hpos
    have hgne : g ≠ gi := fun e => ints_apart ho hf g rfl (by rw [e]; rfl)
    clear ho hf
    obtain ⟨i0, hi0⟩ : ∃ i0, i0 = num at_ (Rc.fl LL n).length := ⟨_, rfl⟩
    have hil : i0 < (Rc.fl LL n).length := by rw [hi0]; exact num_lt _ _ hpos
    have HNA := hide (fun W => num_at at_ ((Rc.fl LL n).length : Int) (Rc.fl LL n).length W rfl hpos (by omega) ha1 ha2)
    rw [← hi0] at HNA
    have HB := hide hb
    have HSP := hide (fun k hk h1 h2 => Rc.all_spoilt LL (fun b hb => (HOK.out b hb).1) k i0 by_ hk h1 h2 HBY.out)
    rw [← hFL] at HSP
    have HIL : Hid (i0 < Rc.off LL n) := hide hil
    have HCI := hide hci
    have HA8 := hide ha8
    have HFR := hide hfr8
    have HSET := hide hset8
    clear hi0 hb hle hci ha8 hfr8 hset8
    generalize hLn : (Rc.fl LL n).length = ln at *
    generalize Rc.fl LL n = L at *
    go_upto_block 2 with
      (refine (HNA.out _).mono ?_
       rintro e wf ⟨rfl, rfl⟩)
    clear HNA
    go_cut [15] (fun vk wx => wx = wc ∧ ∃ k : Nat, vk = .int .i64 k ∧ k < n ∧ Rc.off LL k ≤ i0 ∧ i0 < Rc.off LL (k + 1))
    case first =>
      go_wp2_with fail
      go_loop [15] (fun v => ∃ k : Nat, v = .int .i64 k ∧ k < n ∧ Rc.off LL k ≤ i0) (fun v => n - (intOf v).toNat)
      case atStart => exact ⟨0, rfl, by omega, by simp [Rc.off, Rc.fl]⟩
      case round =>
        obtain ⟨k, rfl, hk, hok⟩ := hrel
        by_cases hk1 : k + 1 < n
        · have hc1 := HCI.out (k + 1) hk1
          have hd1 : decide ((k : Int) + 1 < (n : Int)) = true := by simp; omega
          by_cases hle : Rc.off LL (k + 1) ≤ i0
          · have hd2 : decide (((Rc.off LL (k + 1) : Nat) : Int) ≤ (i0 : Int)) = true := by simp; omega
            go_wp2_with fail
            go_round
            case rel => exact ⟨k + 1, by go_num, hk1, hle⟩
            case measure => simp [intOf]; omega
          · have hd2 : decide (((Rc.off LL (k + 1) : Nat) : Int) ≤ (i0 : Int)) = false := by simp; omega
            go_wp2_with fail
            go_meet
            exact ⟨rfl, k, rfl, hk, hok, by omega⟩
        · have hd1 : decide ((k : Int) + 1 < (n : Int)) = false := by simp; omega
          have hkn : k + 1 = n := by omega
          have hlt := HIL.out
          rw [← hkn] at hlt
          go_wp2_with fail
          go_meet
          exact ⟨rfl, k, rfl, hk, hok, hlt⟩
    case rest =>
      obtain ⟨rfl, k, rfl, hk, hok, hok1⟩ := hcut
      have hck := HCI.out k hk
      by_cases hin : i0 < Rc.off LL k + 4
      · have hd3 : decide ((i0 : Int) < ((Rc.off LL k : Nat) : Int) + 4) = true := by simp; omega
        go_wp2_with fail
        go_ret
        exact ⟨rfl, HB2.out.trans (HB.out.mono HB2.out.size)⟩
      · have hd3 : decide ((i0 : Int) < ((Rc.off LL k : Nat) : Int) + 4) = false := by simp; omega
        go_upto_region 23 with fail
        have hLn' := hLn
        have hcell := reads_cell HA8.out.reads i0 (by omega)
        rw [Nat.zero_add] at hcell
        have hfr := HFR.out i0
        have HST := hide (HSET.out i0 (L.getD i0 0 ^^^ by_) (by omega))
        have HALL := hide (HSP.out k (by have := HLL.out; omega) (by show Rc.off LL k + 4 ≤ i0; omega) hok1)
        have hwg : World.cell? _ _ = _ := (World.cell?_setCell_far wc ⟨g, i0, none⟩ ⟨gi, k, none⟩ (.int .u8 (B (L.getD i0 0 ^^^ by_))) hgne).trans hck
        have HCK := hide hwg
        have hb9 := HB.out.setCell (p := ⟨g, i0, none⟩) hg8 (.int .u8 (B (L.getD i0 0 ^^^ by_)))
        have HB9 := hide hb9
        have HW9 := hide (HB2.out.trans (hb9.mono HB2.out.size))
        have HBT9 := hide (HBT.out.below hb9 (Nat.le_refl _))
        have HTK : Hid ((LL.take k).length = k) := hide (by rw [List.length_take]; have := HLL.out; omega)
        have HGI : Hid (gi < (wc.setCell ⟨g, i0, none⟩ (.int .u8 (B (L.getD i0 0 ^^^ by_)))).heap.size) := hide (by rw [World.size_setCell]; exact hgil)
        generalize L.getD i0 0 = y0 at *
        have HAZ : Hid (Arg (wc.setCell ⟨g, i0, none⟩ (.int .u8 (B (y0 ^^^ by_)))) (some ⟨g, 0, none⟩) c8' (L.set i0 (y0 ^^^ by_))) := hide ⟨by rw [List.length_set]; exact HA8.out.le, HA8.out.max, fun e => (by cases e), HST.out⟩
        have HRD := hide (all_any (some ⟨g, 0, none⟩) c8' ln (L.set i0 (y0 ^^^ by_)) _ p (by rw [List.length_set]; exact hLn') (by omega) HAZ.out (HS.out _ HW9.out).five (HT.out _ HW9.out))
        unfold AllPost at HRD
        rw [HALL.out] at HRD
        simp only at HRD
        rw [HTK.out, show ((LL.take k).flatMap Rc.bytes).length = Rc.off LL k from rfl, show errOf p 102 = .iface 147 (.pointer (some (p 1))) from rfl] at HRD
        have HBT0 := hide (HBT9.out.first k)
        clear hwg hb9 hck HST HSET HFR HAZ HALL HSP hLn hLn' HBT HBT9 HCI HB HIL hd3
        go_wp2_with fail
        refine HRD.out.mono ?_
        rintro e wf ⟨⟨Ap, cp, rfl, hcp1, hcp2, hbp⟩, hbf⟩
        have HBP := hide hbp
        have HBF := hide (HB9.out.trans (hbf.mono HB9.out.size))
        have HWF := hide (HW9.out.trans (hbf.mono HW9.out.size))
        have HBT1 := hide (HBT0.out.below hbf (Nat.le_refl _))
        have hszf := hbf.size
        have hckf := (hbf.cell (p := ⟨gi, k, none⟩) HGI.out).trans HCK.out
        clear hbp hbf HBT0 HRD HCK hcell hfr
        have HSB := hide (sameBatches_eq Ap A8 cp c8 k (LL.take k) wf HTK.out (by omega) HBP.out HBT1.out (fun b hb => by
          have h := HOK.out b (List.mem_of_mem_take hb)
          refine ⟨by omega, fun r hr => ?_⟩
          have h2 := h.2.2 r hr
          exact ⟨by omega, by omega⟩))
        have HGF : Hid (gi < wf.heap.size) := hide (Nat.lt_of_lt_of_le HGI.out hszf)
        have hkc : k ≤ c8 := by omega
        clear HBP HBT1 HTK HGI
        go_upto_region 25 with fail
        go_wp2_with fail
        refine HSB.out.mono ?_
        rintro e wh ⟨rfl, hbh⟩
        have hckh := (hbh.cell (p := ⟨gi, k, none⟩) HGF.out).trans hckf
        have HWH := hide (HWF.out.trans (hbh.mono HWF.out.size))
        have HIZ := hide (is_sent _ p (HS.out _ HWH.out) 1 (by omega) 102)
        unfold errV at HIZ
        clear hbh hckf HSB
        go_wp2_with fail
        refine HIZ.out.mono ?_
        rintro e wi ⟨rfl, hbi⟩
        have HWI := hide (HWH.out.trans (hbi.mono HWH.out.size))
        clear hbi
        go_wp2_with fail
        go_ret
        exact ⟨rfl, HWI.out⟩

set_option maxRecDepth 100000 in
set_option maxHeartbeats 1000000 in
theorem rspoilt_far (A : Option Addr) (cap n : Nat) (at_ : Int) (by_ : Int) (w : World) (p : Nat → Addr) (hs : Sents w p) (ht : Tabs w) (hm : n ≤ 9223372036854775807) (h : 10 < n ∨ n = 0 ∨ by_ = 0) :
    Calls Tryd.prog 9 #[.slice A n cap, .int .i64 at_, .int .u8 by_] w fun e w' => e = .returned (.bool true) ∧ Below w.heap.size w w' := by
  have HF := hide (rfirst_any w p hs.five.two ht)
  clear hs ht
  by_cases h1 : 10 < n
  · have q2 : decide ((10 : Int) < (n : Int)) = true := by simp; omega
    clear h
    go_enter Tryd.func9, Tryd.ntmps9
    go_wp2_with fail
    refine HF.out.mono ?_
    rintro e w1 ⟨rfl, hb1⟩
    have HB1 := hide hb1
    clear hb1 HF
    go_wp2_with fail
    go_ret
    exact ⟨rfl, HB1.out⟩
  · have q2 : decide ((10 : Int) < (n : Int)) = false := by simp; omega
    by_cases h2 : n = 0
    · have q1 : ((n : Int) == 0) = true := by simp; omega
      clear h h1 h2
      go_enter Tryd.func9, Tryd.ntmps9
      go_wp2_with fail
      refine HF.out.mono ?_
      rintro e w1 ⟨rfl, hb1⟩
      have HB1 := hide hb1
      clear hb1 HF
      go_wp2_with fail
      go_ret
      exact ⟨rfl, HB1.out⟩
    · have q1 : ((n : Int) == 0) = false := by rw [beq_eq_false_iff_ne]; omega
      have q3 : (by_ == 0) = true := by simp; omega
      clear h h1 h2
      go_enter Tryd.func9, Tryd.ntmps9
      go_wp2_with fail
      refine HF.out.mono ?_
      rintro e w1 ⟨rfl, hb1⟩
      have HB1 := hide hb1
      clear hb1 HF
      go_wp2_with fail
      go_ret
      exact ⟨rfl, HB1.out⟩

theorem rspoilt_walk (A : Option Addr) (cap n : Nat) (zs : List Int) (at_ : Int) (by_ : UInt8) (w : World) (p : Nat → Addr) (hs : Sents w p) (ht : Tabs w) (hn : zs.length = n) (hA : Ints w A zs) (hc : zs.length ≤ cap) (hm : cap ≤ 9223372036854775807) (hz : ∀ k, k < zs.length → -9223372036854775808 ≤ zs.getD k 0 ∧ zs.getD k 0 ≤ 9223372036854775807) (ha1 : -9223372036854775808 ≤ at_) (ha2 : at_ ≤ 9223372036854775807) :
    Calls Tryd.prog 9 #[.slice A n cap, .int .i64 at_, .int .u8 (B by_)] w fun e w' => e = .returned (.bool true) ∧ Below w.heap.size w w' := by
  subst hn
  by_cases h : 10 < zs.length ∨ zs.length = 0 ∨ by_ = 0
  · refine rspoilt_far A cap zs.length at_ (B by_) w p hs ht (by omega) ?_
    rcases h with h | h | h
    · exact .inl h
    · exact .inr (.inl h)
    · exact .inr (.inr (by rw [h]; rfl))
  · exact rspoilt_near A cap zs at_ by_ w p hs ht hA hc hz ha1 ha2 (by omega) (by omega) (fun e => h (.inr (.inr e)))
end Go.Proofs.YthemdcdgiccjkaaDoor
