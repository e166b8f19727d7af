/-
  HotRolls, walked: what each segment has, and all that is read.
-/
import Derived.Test.YtcmgppacipdnaaaGreatDoorQHtX
import Derived.Test.YtcmgppacipdnaaaGreatDoorQHtS
import Derived.Test.YtcmgppacipdnaaaGreatDoorQHtRw
import Derived.ChangeKeysEq
namespace Go.Proofs.YtcmgppacipdnaaaGreatDoor
open Go.RowKit Go.Maps

theorem neq_tri (a b c : Int) (w : World) : (binOp .neq 37 (.agg #[.int .i64 a, .int .i64 b, .int .i64 c]) (.agg #[.int .i64 a, .int .i64 b, .int .i64 c])).run Tryz.prog w = .ok (.bool false) w := by
  have u4 := Tryz.underlying2
  have a4 := Tryz.isAgg2
  have z4 := Tryz.sizeOf2
  have hu : Tryz.prog.underlying 37 = some (.array 3 2) := by kernel_rfl
  obtain ⟨i, hi⟩ : ∃ i, Tryz.prog.info? 2 = some i := Option.isSome_iff_exists.1 (by kernel_rfl)
  have hc : Tryz.prog.cellsOf 2 = 1 := by kernel_rfl
  rw [run_neq_struct, show (10000 : Nat) = 9999 + 1 from rfl, run_equalIn_array w 9999 _ _ hu hi, hc]
  simp only [List.range, List.range.loop, Op.eqItems]
  go_simp
section
variable {w : World} {ops : Array Oper} {rest : List Oper} {o : Oper} {a : Act} {Q : Exit → Act → World → Prop}
/-- append(l, [3]int64{..}) to a row of one's own. -/
theorem wpList_appTri (hgd : o.guard = none) (s x : Operand) (ho : o.op = .call { callee := .builtin .append, args := #[s, x], argTypes := #[32, 32] })
    (base : Nat) (v : Value) (gs : List Ht.Gr) (g : Ht.Gr) (y1 y2 y3 : Int) (t : TypeId) (hg : triC g = [.int .i64 y1, .int .i64 y2, .int .i64 y3]) (hs : a.eval s = v) (hx : a.eval x = .slice (some ⟨w.heap.size, 0, none⟩) 1 1)
    (hown : OwnTri w base v gs) (hl : gs.length ≤ 10000) (hbase : base ≤ w.heap.size)
    (h : ∀ v' w', OwnTri w' base v' (gs ++ [g]) → Below base w w' → wpList Tryz.prog ops Q rest (a.put o.dst v') w') : wpList Tryz.prog ops Q (o :: rest) a (w.alloc (.cells #[.int .i64 y1, .int .i64 y2, .int .i64 y3] t)) := by
  have hb := balloc (Below.refl w.heap.size w) (.cells #[.int .i64 y1, .int .i64 y2, .int .i64 y3] t)
  have hsz : w.heap.size ≤ (w.alloc (.cells #[.int .i64 y1, .int .i64 y2, .int .i64 y3] t)).heap.size := hb.size
  refine wpList_appG (w := w.alloc _) hgd 32 37 3 24 _ (by kernel_rfl) tri_info rfl (by omega) s x ho base v gs.length (gs.flatMap triC) hs (ownsRow_same hown fun g hg => hb.block g (hown.lt g hg).2) ⟨w.heap.size, 0, none⟩ 1 1 [.int .i64 y1, .int .i64 y2, .int .i64 y3] hx rfl (news3 (w := w)) (by intro u hu; simp at hu; rcases hu with rfl | rfl | rfl <;> rfl) (by simp only [maxLen]; omega) (by omega) (by omega) ?_
  intro v' w' hown' hg' _
  refine h v' w' ?_ ((hb.mono hbase).grown hg' (by omega) fun g hg => (hown.lt g hg).1)
  unfold OwnTri
  rw [List.flatMap_append, List.length_append]
  simp only [List.flatMap_cons, List.flatMap_nil, List.append_nil, hg]
  exact hown'
end
theorem ht_next_base {s0 : Sg.St} {base : Int} {cs : List Rc.Bat} (hso : (Sg.last s0.edges).off = base) (hch : Sg.Chain s0 cs) (k : Nat) (hk : k < cs.length) : cs[k].base = Ht.lastOff base (cs.take k) := by
  have hfol := chain_next hch k hk
  unfold Sg.follows at hfol
  rw [Bool.and_eq_true, decide_eq_true_eq, decide_eq_true_eq, chain_last hso] at hfol
  exact hfol.1
theorem htJoined_any (A A' : Option Addr) (ca cb n : Nat) (rs : List Rc.Bat) (w : World) (hn : rs.length = n) (hl : n ≤ 1000000) (hr : Bats w A rs) (hr' : Bats w A' rs) (hs : ∀ b ∈ rs, b.recs.length ≤ 1000000 ∧ ∀ r ∈ b.recs, r.k.length ≤ 1000000 ∧ r.v.length ≤ 1000000) :
    Calls Tryz.prog 23 #[.slice A n ca, .slice A' n cb] w fun e w' => e = .returned (.bool true) ∧ Below w.heap.size w w' := by
  have HS := hide (sameBatches_eq A A' ca cb n rs w hn hl hr hr' hs)
  clear hn hr hr' hs
  go_enter Tryz.func23, Tryz.ntmps23
  go_wp2_with (first
    | (go_at_call 46; refine HS.out.mono ?_; rintro e w2 ⟨rfl, hb⟩; have HB := hide hb; clear hb)
    | fail)
  go_ret
  exact ⟨rfl, HB.out⟩
set_option maxRecDepth 100000 in
set_option maxHeartbeats 8000000 in
theorem hotRolls_walk (w : World) (p : Nat → Addr) (hs : SentsG w p) (ht : Tabs w) (hpt : PowTab w) (A : Option Addr) (cap n : Nat) (zs : List Int) (hn : zs.length = n) (hA : Ints w A zs) (hz : ∀ k, k < zs.length → -9223372036854775808 ≤ zs.getD k 0 ∧ zs.getD k 0 ≤ 9223372036854775807) (na nb : Int) (ha1 : -9223372036854775808 ≤ na) (ha2 : na ≤ 9223372036854775807) (hb1 : -9223372036854775808 ≤ nb) (hb2 : nb ≤ 9223372036854775807) :
    Calls Tryz.prog 3 #[.slice A n cap, .int .i64 na, .int .i64 nb] w fun e w' => e = .returned (.bool true) ∧ Below w.heap.size w w' := by
  have HF := hide (htFirst_any w p hs ht hpt)
  have HS := hide hs
  have HT := hide ht
  have HPT := hide hpt
  by_cases hle : n ≤ 30
  · have hxa := num_lt na 400 (by omega)
    obtain ⟨xa, hxa2⟩ : ∃ x, num na 400 = x := ⟨_, rfl⟩
    rw [hxa2] at hxa
    have HNA := hide (fun (W : World) => num_at na 400 400 W (by omega) (by omega) (by omega) ha1 ha2)
    rw [hxa2] at HNA
    have HLG := hide (fun (W : World) => long_any nb 1073741824 W (by omega) (by omega) hb1 hb2)
    have m1 := Int.emod_nonneg nb (show (1073741824 : Int) ≠ 0 by omega)
    have m2 := Int.emod_lt_of_pos nb (show (0 : Int) < 1073741824 by omega)
    obtain ⟨B, hB⟩ : ∃ B : Nat, nb % 1073741824 = (B : Int) := ⟨(nb % 1073741824).toNat, by omega⟩
    rw [hB] at HLG m1 m2
    have hwa : IntKind.i64.wrap ((xa : Int) + 1) = (xa : Int) + 1 := IntWalk.i64_in _ (by omega)
    have HRW := hide (fun (W : World) (hW : Below w.heap.size w W) => rowW_any B A cap n 4 zs W hn (by omega) (by omega) (by omega) (by omega) (hA.below hW (Nat.le_refl _)) hz)
    have hok := Rw.goB_ok zs (B : Int) 0 4 (by omega) (by omega) (by omega)
    have hgd : ∀ b ∈ Rw.go (B : Int) 0 4 zs, Rc.Good b := fun b hb => (hok b hb).1
    have hsm := Rw.go_small zs (B : Int) 0 4 hgd
    have hch := Rw.go_chain zs (B : Int) 0 4 (Sg.begin (Nm.seg B) B 60) rfl (by show (0 : Int) ≤ _; omega)
    have hln : (Rw.go (B : Int) 0 4 zs).length = n := by rw [Rw.go_len, hn]
    have HGD := hide hgd
    have HSM := hide hsm
    have HCH := hide hch
    have HLN := hide hln
    clear hok hgd hsm hch hln hs ht hpt hA hz hn ha1 ha2 hb1 hb2 hxa2 hB
    generalize Rw.go (B : Int) 0 4 zs = cs at *
    have HMD := hide (fun (W : World) (hb : Below w.heap.size w W) (A : Option Addr) (cap : Nat) (hbt : Bats W A cs) => htMade_any ((xa : Int) + 1) B A cap n cs W p (HS.out.below hb) (HT.out.below hb (Nat.le_refl _)) (HPT.out.below hb) HLN.out (by omega) hbt HGD.out HSM.out (by omega) (by omega) (Sg.begin (Nm.seg B) B 60) rfl HCH.out)
    have hnc : (n : Int) ≤ 30 := by omega
    have HM := hide (And.intro m1 m2)
    clear m1 m2
    obtain ⟨sz, hsz⟩ : ∃ z : Int, z = (xa : Int) + 1 := ⟨_, rfl⟩
    rw [← hsz] at HMD
    replace hwa : IntKind.i64.wrap ((xa : Int) + 1) = sz := by rw [hwa, hsz]
    have HSZ : Hid (1 ≤ sz ∧ sz ≤ 400) := hide (by omega)
    clear hsz
    go_enter Tryz.func3, Tryz.ntmps3
    go_wp2_with (first
      | (go_at_call 12; refine HF.out.mono ?_; rintro e w1 ⟨rfl, hb⟩; have HB1 := hide hb; clear hb)
      | (go_at_call 13; refine (HNA.out w1).mono ?_; rintro e w' ⟨rfl, rfl⟩)
      | (go_at_call 14; refine (HLG.out w1).mono ?_; rintro e w' ⟨rfl, rfl⟩)
      | (go_at_call 15; refine (HRW.out w1 HB1.out).mono ?_; rintro e w2 ⟨⟨A2, c2, rfl, hc2, hm2, hbt2, -⟩, hb2⟩; have HB2 := hide (HB1.out.trans (hb2.mono HB1.out.size)); have HBT := hide hbt2; clear hbt2 hb2)
      | (go_at_call 16; refine (HMD.out w2 HB2.out A2 c2 HBT.out).mono ?_; rintro e w4 ⟨Bd1, H1, U1, rfl, h3⟩; have H4 := hide h3; have HB24 := hide h3.below; clear h3)
      | fail)
    have HBT4 := hide (HBT.out.below HB24.out (Nat.le_refl _))
    have HB4 := hide (HB2.out.trans (HB24.out.mono HB2.out.size))
    clear HF HRW HNA HMD HLG HBT
    go_loopw [11, 12, 13, 14, 15] (fun v z fr at_ i wr => ∃ (k : Nat) (g0 : List Ht.Gr) (o : Int) (ds : List Rc.Bat), k ≤ n ∧ i = .int .i64 k ∧ Ht.grp sz B (cs.take k) = g0 ++ [(o, ds)] ∧ OwnTri wr w4.heap.size v g0 ∧ z = .int .i64 (Ht.size ds : Nat) ∧ fr = .int .i64 o ∧ at_ = .int .i64 (Ht.lastOff B (cs.take k)) ∧ Below w4.heap.size w4 wr) (fun _ _ _ _ i _ => n - (intOf i).toNat)
    case atStart => exact ⟨0, [], B, [], Nat.zero_le _, rfl, rfl, World.ownsRow_nil _ _ _ 3, rfl, rfl, rfl, Below.refl _ _⟩
    case round =>
      obtain ⟨k, g0, o, ds, hk, rfl, hgr, ho, rfl, rfl, rfl, hb⟩ := hrel
      have hlo : Ht.lastOff o ds = Ht.lastOff B (cs.take k) := by
        obtain ⟨g1, o1, d1, e1, e2, -⟩ := Ht.grp_last sz B (cs.take k)
        rw [hgr] at e1
        obtain ⟨e3, e4⟩ := List.append_inj' e1 rfl
        injection e4 with e4 _
        injection e4 with e4 e5
        rw [e4, e5, e2]
      have hall := (Ht.grp_all sz B (cs.take k)).1
      have hgl := Ht.grp_len sz B (cs.take k)
      rw [hgr] at hall hgl
      rw [List.length_append, List.length_singleton, List.length_take] at hgl
      have hS : Ht.size ds ≤ 9000 := by
        have h1 := flat_len_le Rc.bytes 300 (cs.take k) (fun b hb => HSM.out b (List.mem_of_mem_take hb))
        have h2 : Ht.size (cs.take k) = Ht.size (Ht.all g0) + Ht.size ds := by
          rw [← hall]
          unfold Ht.size Ht.all
          rw [← List.length_append, ← List.flatMap_append, List.flatMap_append]
          simp
        have h3 : 300 * (cs.take k).length ≤ 300 * 30 := Nat.mul_le_mul_left _ (by rw [List.length_take]; omega)
        unfold Ht.size at h2 ⊢
        omega
      have hg0 : g0.length ≤ 100 := by omega
      have HO := hide ho
      have HBW := hide hb
      have HG0 := hide hg0
      obtain ⟨Av, nv, cv, rfl⟩ := own_slice ho
      have hnv : nv = g0.length := by
        obtain ⟨A9, c9, e9, -⟩ := ho.reads
        injection e9
      subst hnv
      clear hall hgl ho hb hg0
      by_cases hlt : k < n
      · have hkl : k < cs.length := by rw [HLN.out]; exact hlt
        obtain ⟨b0, o0, hA2, hb0, Ax, cx, q0, q1, q2, hib⟩ := HBT4.out.at_ k hkl
        subst hA2
        replace q0 := (HBW.out.cell (p := ⟨b0, o0 + k * 3, none⟩) hb0).trans q0
        replace q1 := (HBW.out.cell (p := ⟨b0, o0 + k * 3 + 1, none⟩) hb0).trans q1
        replace q2 := (HBW.out.cell (p := ⟨b0, o0 + k * 3 + 2, none⟩) hb0).trans q2
        have HB0 := hide hb0
        clear hb0
        have hgd := HGD.out cs[k] (List.getElem_mem hkl)
        have hsm := HSM.out cs[k] (List.getElem_mem hkl)
        have hnb : Ht.lastOff B (cs.take k) = cs[k].base := (ht_next_base (s0 := Sg.begin (Nm.seg B) B 60) rfl HCH.out k hkl).symm
        have hgs : Ht.grp sz B (cs.take (k + 1)) = Ht.add sz (g0 ++ [(o, ds)]) cs[k] := by rw [List.take_succ_eq_append_getElem hkl, Ht.grp_snoc, hgr]
        have hls : Ht.lastOff B (cs.take (k + 1)) = cs[k].base + cs[k].recs.length := by rw [List.take_succ_eq_append_getElem hkl, Ht.lastOff_snoc]
        have HSI := hide (fun (W : World) (hW : Below wr.heap.size wr W) => rsize1_any cs[k] Ax cx cs[k].recs.length W (hib.below (HBW.out.trans (hW.mono HBW.out.size)) (Nat.le_refl _)) hgd rfl)
        have HNX := hide (fun (W : World) => rnext_any cs[k] Ax cx cs[k].recs.length W rfl hgd.base0 (by have := hgd.base1; omega) (by have := hgd.n1; omega))
        rw [hnb] at hlo ⊢
        have HGS := hide hgs
        have HLS := hide hls
        have HLO := hide hlo
        have HTI : Hid (triC (o, ds) = [.int .i64 o, .int .i64 cs[k].base, .int .i64 (Ht.size ds : Nat)]) := hide (by rw [← hlo])
        unfold batV at HSI HNX
        clear hgd hgs hls hlo hnb hib hgr
        generalize cs[k] = b at *
        have HSS : Hid (Ht.size (ds ++ [b]) = Ht.size ds + (Rc.bytes b).length ∧ Ht.size [b] = (Rc.bytes b).length) := hide ⟨Ht.size_snoc ds b, by simp [Ht.size]⟩
        have HBG : Hid (Ht.big sz ds b = (decide (0 < Ht.size ds) && decide (sz < (Ht.size ds : Int) + (Rc.bytes b).length))) := hide rfl
        generalize hNB : (Rc.bytes b).length = NB at *
        generalize hSd : Ht.size ds = S at *
        generalize b.recs.length = m at *
        generalize hba : b.base = ba at *
        generalize b.epoch = ep at *
        have HBA := hide hba
        clear hba hNB hSd
        have hw1 : IntKind.i64.wrap ((S : Int) + (NB : Int)) = (S : Int) + NB := IntWalk.i64_in _ (by omega)
        have hw2 : IntKind.i64.wrap (NB : Int) = NB := IntWalk.i64_in _ (by omega)
        by_cases hS0 : 0 < S
        · have hS1 : decide ((0 : Int) < (S : Int)) = true := decide_eq_true (by omega)
          by_cases hbg : sz < (S : Int) + (NB : Int)
          · have hbg1 : decide (sz < (S : Int) + (NB : Int)) = true := decide_eq_true hbg
            have HBT' : Hid (Ht.big sz ds b = true) := hide (by rw [HBG.out, hbg1]; simp [hS0])
            go_wp2_with (first
              | (go_at_call 17; refine (HSI.out wr (Below.refl _ _)).mono ?_; rintro e w5 ⟨rfl, hb⟩; have HB5 := hide hb; have z0 := (hb.cell (World.block_lt_of_cell? _ _ q0)).trans q0; have z1 := (hb.cell (World.block_lt_of_cell? _ _ q1)).trans q1; have z2 := (hb.cell (World.block_lt_of_cell? _ _ q2)).trans q2; clear hb)
              | (at_builtin; refine wpList_appTri (w := w5) rfl (.tmp 71) (.tmp 76) rfl w4.heap.size _ g0 (o, ds) _ _ _ _ HTI.out rfl rfl (ownsRow_same HO.out fun g hg => HB5.out.block g (HO.out.lt g hg).2) (by have := HG0.out; omega) (Nat.le_trans HBW.out.size HB5.out.size) ?_; intro v6 w6 ho6 hb6; have HO6 := hide ho6; have y0 := (hb6.cell (p := ⟨b0, o0 + k * 3, none⟩) HB0.out).trans z0; have y1 := (hb6.cell (p := ⟨b0, o0 + k * 3 + 1, none⟩) HB0.out).trans z1; have y2 := (hb6.cell (p := ⟨b0, o0 + k * 3 + 2, none⟩) HB0.out).trans z2; have HB6 := hide ((HBW.out.trans (HB5.out.mono HBW.out.size)).trans hb6); clear ho6 hb6 z0 z1 z2)
              | (go_at_call 18; refine (HNX.out _).mono ?_; rintro e w7 ⟨rfl, hb⟩; have HB7 := hide hb; clear hb)
              | fail)
            have H47 : Hid (Below w4.heap.size w4 w7) := hide (HB6.out.trans (HB7.out.mono HB6.out.size))
            refine ⟨⟨k + 1, g0 ++ [(o, ds)], ba, [b], by omega, by simp, ?_, ownsRow_same HO6.out fun g hg => HB7.out.block g (HO6.out.lt g hg).2, ?_, rfl, by rw [HLS.out], H47.out⟩, by simp [intOf]; omega⟩
            · rw [HGS.out, Ht.add_big HBT'.out, HBA.out]
            · rw [HSS.out.2]
          · have hbg1 : decide (sz < (S : Int) + (NB : Int)) = false := decide_eq_false hbg
            have HBT' : Hid (Ht.big sz ds b = false) := hide (by rw [HBG.out, hbg1]; simp)
            go_wp2_with (first
              | (go_at_call 17; refine (HSI.out wr (Below.refl _ _)).mono ?_; rintro e w5 ⟨rfl, hb⟩; have HB5 := hide hb; have z0 := (hb.cell (World.block_lt_of_cell? _ _ q0)).trans q0; have z1 := (hb.cell (World.block_lt_of_cell? _ _ q1)).trans q1; have z2 := (hb.cell (World.block_lt_of_cell? _ _ q2)).trans q2; clear hb)
              | (go_at_call 18; refine (HNX.out _).mono ?_; rintro e w7 ⟨rfl, hb⟩; have HB7 := hide (HB5.out.trans (hb.mono HB5.out.size)); clear hb)
              | fail)
            have H47 : Hid (Below w4.heap.size w4 w7) := hide (HBW.out.trans (HB7.out.mono HBW.out.size))
            refine ⟨⟨k + 1, g0, o, ds ++ [b], by omega, by simp, ?_, ownsRow_same HO.out fun g hg => HB7.out.block g (HO.out.lt g hg).2, ?_, rfl, by rw [HLS.out], H47.out⟩, by simp [intOf]; omega⟩
            · rw [HGS.out, Ht.add_small HBT'.out]
            · rw [HSS.out.1]; simp
        · obtain rfl : S = 0 := by omega
          have HBT' : Hid (Ht.big sz ds b = false) := hide (by rw [HBG.out]; simp)
          have hw3 : IntKind.i64.wrap ((0 : Int) + (NB : Int)) = NB := by rw [Int.zero_add]; exact hw2
          go_wp2_with (first
            | (go_at_call 17; refine (HSI.out wr (Below.refl _ _)).mono ?_; rintro e w5 ⟨rfl, hb⟩; have HB5 := hide hb; have z0 := (hb.cell (World.block_lt_of_cell? _ _ q0)).trans q0; have z1 := (hb.cell (World.block_lt_of_cell? _ _ q1)).trans q1; have z2 := (hb.cell (World.block_lt_of_cell? _ _ q2)).trans q2; clear hb)
            | (go_at_call 18; refine (HNX.out _).mono ?_; rintro e w7 ⟨rfl, hb⟩; have HB7 := hide (HB5.out.trans (hb.mono HB5.out.size)); clear hb)
            | fail)
          have H47 : Hid (Below w4.heap.size w4 w7) := hide (HBW.out.trans (HB7.out.mono HBW.out.size))
          refine ⟨⟨k + 1, g0, o, ds ++ [b], by omega, by simp, ?_, ownsRow_same HO.out fun g hg => HB7.out.block g (HO.out.lt g hg).2, ?_, rfl, by rw [HLS.out], H47.out⟩, by simp [intOf]; omega⟩
          · rw [HGS.out, Ht.add_small HBT'.out]
          · rw [HSS.out.1]; simp
      · obtain rfl : k = n := by omega
        have hcs : cs.take k = cs := List.take_of_length_le (by rw [HLN.out]; omega)
        rw [hcs] at hlo hgr ⊢
        clear hcs
        have HST := hide (fun (W : World) (hW : Below w4.heap.size w4 W) => by
          obtain ⟨c1, g1, e1⟩ := Ht.grp_first sz B cs
          have h := H4.out.grow hW
          rw [e1] at h
          exact htStart_A h)
        have HEN := hide (fun (W : World) (hW : Below w4.heap.size w4 W) => htEnd_grp (H4.out.grow hW))
        have HAL := hide (fun (W : World) (hW : Below w4.heap.size w4 W) => htAll_any (H4.out.grow hW) p (HS.out.below HB2.out) (HT.out.below HB2.out (Nat.le_refl _)) (by omega) (Sg.begin (Nm.seg B) B 60) rfl HCH.out HGD.out (by have := HLN.out; omega) HSM.out)
        have HSG := hide (fun (W : World) (hW : Below w4.heap.size w4 W) => htSegs_A (H4.out.grow hW) (by have := Ht.grp_len sz B cs; have := HLN.out; omega))
        have HTI : Hid (triC (o, ds) = [.int .i64 o, .int .i64 (Ht.lastOff B cs), .int .i64 (Ht.size ds : Nat)]) := hide (by rw [← hlo])
        have HGL : Hid ((Ht.grp sz B cs).length ≤ 100) := hide (by have := Ht.grp_len sz B cs; have := HLN.out; omega)
        have HGR := hide hgr.symm
        have HOKB : Hid (∀ b ∈ cs, b.recs.length ≤ 1000000 ∧ ∀ r ∈ b.recs, r.k.length ≤ 1000000 ∧ r.v.length ≤ 1000000) := hide (fun b hb => by
          have hg := HGD.out b hb
          refine ⟨by have := hg.n1; omega, fun r hr => ?_⟩
          have := hg.recs r hr
          omega)
        clear hgr hlo hlt
        generalize hE : Ht.lastOff B cs = E at *
        generalize hgs : Ht.grp sz B cs = gs at *
        generalize hSd : Ht.size ds = S at *
        obtain ⟨G, hG⟩ : ∃ G, G = gs.length := ⟨_, rfl⟩
        have HGG := hide hG.symm
        rw [← hG] at HGL
        have hGL := HGL.out
        clear hE hgs hSd hG
        have u1 : ((G : Int) != G) = false := bne_self_eq_false _
        have u2 : ((B : Int) != B) = false := bne_self_eq_false _
        have u3 : (E != E) = false := bne_self_eq_false _
        go_wp2_with (first
          | (at_builtin; refine wpList_appTri (w := wr) rfl (.tmp 87) (.tmp 92) rfl w4.heap.size _ g0 (o, ds) _ _ _ _ HTI.out rfl rfl HO.out (by have := HG0.out; omega) HBW.out.size ?_; intro v6 w6 ho6 hb6; rw [HGR.out] at ho6; obtain ⟨A6, c6, rfl, ht6⟩ := ho6.reads; rw [HGG.out]; have HT6 := hide ht6; have HB6 := hide (HBW.out.trans hb6); clear ho6 ht6 hb6)
          | (go_at_call 19; refine (HSG.out w6 HB6.out).mono ?_; rintro e w7 ⟨v7, rfl, ho7, hb⟩; obtain ⟨A7, c7, rfl, ht7⟩ := ho7.reads; rw [HGG.out]; have HT7 := hide ht7; have HT67 := hide (HT6.out.below hb); have HB7 := hide (HB6.out.trans (hb.mono HB6.out.size)); clear ho7 ht7 hb)
          | (go_at_call 20; refine (HST.out w7 HB7.out).mono ?_; rintro e w8 ⟨rfl, hb⟩; have HB8 := hide (HB7.out.trans (hb.mono HB7.out.size)); have H78 := hide hb; clear hb)
          | (go_at_call 21; refine (HEN.out w8 HB8.out).mono ?_; rintro e w9 ⟨rfl, hb⟩; have HB9 := hide (HB8.out.trans (hb.mono HB8.out.size)); have H79 := hide (H78.out.trans (hb.mono H78.out.size)); clear hb)
          | fail)
        go_loopw [18] (fun i wx => ∃ k2 : Nat, k2 ≤ G ∧ i = .int .i64 k2 ∧ Below w7.heap.size w7 wx) (fun i _ => G - (intOf i).toNat)
        case atStart => exact ⟨0, Nat.zero_le _, rfl, H79.out⟩
        case round =>
          obtain ⟨k2, hk2, rfl, hb⟩ := hrel
          have HBX := hide hb
          clear hb
          by_cases hlt2 : k2 < G
          · obtain ⟨f6, rfl, hf6, x0, x1, x2⟩ := (HT67.out.below HBX.out).at_ k2 (by rw [HGG.out]; exact hlt2)
            obtain ⟨f7, rfl, hf7, y0, y1, y2⟩ := (HT7.out.below HBX.out).at_ k2 (by rw [HGG.out]; exact hlt2)
            generalize (gs.getD k2 (0, [])).1 = t1 at *
            generalize Ht.lastOff t1 (gs.getD k2 (0, [])).2 = t2 at *
            generalize Ht.size (gs.getD k2 (0, [])).2 = t3 at *
            have kn := fun W => neq_tri t1 t2 t3 W
            have hc6 : k2 < c6 := by have := HT6.out.le; rw [HGG.out] at this; omega
            have hc7 : k2 < c7 := by have := HT7.out.le; rw [HGG.out] at this; omega
            have hm6 := HT6.out.mx
            have hm7 := HT7.out.mx
            go_wp2_with fail
            go_quiet (fail)
            go_wp2_with fail
            go_roundw
            case rel => exact ⟨k2 + 1, by omega, by go_num, below_drewN HBX.out _⟩
            case measure => simp [intOf]; omega
          · obtain rfl : k2 = G := by omega
            have H4X := hide (HB7.out.trans (HBX.out.mono HB7.out.size))
            go_wp2_with (first
              | (go_at_call 22; refine (HAL.out wr H4X.out).mono ?_; rintro e wy ⟨v, rfl, ⟨ps, hq, hpb⟩, hb⟩; obtain ⟨Aq, cq, rfl, hbq⟩ := hq.slice; have hpl := congrArg List.length hpb; rw [List.length_map, HLN.out] at hpl; rw [hpb] at hbq; rw [hpl]; have HBQ := hide hbq; have HBY := hide (H4X.out.trans (hb.mono H4X.out.size)); clear hq hpb hb hbq hpl)
              | (go_at_call 23; refine (htJoined_any Aq A2 cq c2 k cs wy HLN.out (by omega) HBQ.out (HBT4.out.below HBY.out (Nat.le_refl _)) HOKB.out).mono ?_; rintro e wz ⟨rfl, hb⟩; have HBZ := hide (HBY.out.trans (hb.mono HBY.out.size)); clear hb)
              | fail)
            go_ret
            exact ⟨rfl, HB4.out.trans (HBZ.out.mono HB4.out.size)⟩
  · go_enter Tryz.func3, Tryz.ntmps3
    go_wp2_with (first
      | (go_at_call 12; refine HF.out.mono ?_; rintro e w1 ⟨rfl, hb⟩; have HB1 := hide hb; clear hb)
      | fail)
    go_ret
    exact ⟨rfl, HB1.out⟩
end Go.Proofs.YtcmgppacipdnaaaGreatDoor
