/-
  A Read's limit, plainly: what it is told is as many batches as go within the limit, but the first; with a greater limit more.
  SegLimits walked.
-/
import Derived.Test.YtdbmlohpnlgjfaaGreatDoorZ19
import Derived.Test.YtdbmlohpnlgjfaaGreatDoorZ21
import Derived.Test.YtdbmlohpnlgjfaaGreatDoorZ7
import Derived.Deep.CutBlock
namespace Go.Proofs.YtdbmlohpnlgjfaaGreatDoor
namespace Sg
theorem exists_cut (P : Nat → Bool) : ∀ n, (∀ i j, i ≤ j → j < n → P i = true → P j = true) → ∃ k, k ≤ n ∧ (∀ i, i < k → P i = false) ∧ ∀ i, k ≤ i → i < n → P i = true := by
  intro n
  induction n with
  | zero => intro _; exact ⟨0, Nat.le_refl _, fun i hi => by omega, fun i _ hi => by omega⟩
  | succ n ih =>
    intro hm
    obtain ⟨k, hk, h1, h2⟩ := ih fun i j hij hj => hm i j hij (by omega)
    by_cases hkn : k < n
    · refine ⟨k, by omega, h1, fun i hi hin => ?_⟩
      by_cases e : i = n
      · subst e; exact hm k i hi (by omega) (h2 k (Nat.le_refl _) hkn)
      · exact h2 i hi (by omega)
    · obtain rfl : k = n := by omega
      cases hP : P k with
      | true => exact ⟨k, by omega, h1, fun i hi hin => by obtain rfl : i = k := (by omega); exact hP⟩
      | false => exact ⟨k + 1, Nat.le_refl _, fun i hi => by
          by_cases e : i = k
          · subst e; exact hP
          · exact h1 i (by omega), fun i hi hin => by omega⟩
/-- Of a test that holds from some edge on: of the edges that are counted it does not hold. -/
theorem cnt_lt (l : List Edge) (P : Edge → Bool) (hm : ∀ i j, i ≤ j → j < l.length → P (ed l i) = true → P (ed l j) = true) (i : Nat) (hi : i < cnt l P) : P (ed l i) = false := by
  obtain ⟨k, hk, h1, h2⟩ := exists_cut (fun i => P (ed l i)) l.length hm
  have e := cnt_eq l P k hk h1 h2
  exact h1 i (by omega)
theorem cnt_mono (l : List Edge) (P Q : Edge → Bool) (h : ∀ e, Q e = true → P e = true) : cnt l P ≤ cnt l Q := by
  unfold cnt
  refine List.countP_mono_left fun i _ hp => ?_
  cases hq : Q (ed l i) with
  | true => rw [h _ hq] at hp; exact hp
  | false => rfl
end Sg
/-- The bytes of what lies between two edges. -/
theorem flat_mid (bs : List Rc.Bat) (i j : Nat) (hij : i ≤ j) : (((bs.drop i).take (j - i)).flatMap Rc.bytes).length + ((bs.take i).flatMap Rc.bytes).length = ((bs.take j).flatMap Rc.bytes).length := by
  have e1 : bs.take j = bs.take i ++ (bs.drop i).take (j - i) := by
    conv => lhs; rw [show j = i + (j - i) by omega, List.take_add]
  rw [e1, List.flatMap_append, List.length_append]
  omega
section
variable {d : Dk.St} {s s0 : Sg.St} {room used : Int} {names : Dk.Dir} {x : Nat} {bs : List Rc.Bat}
/-- Beside the first no more than the limit. -/
theorem Md.within (h : Md d s room used names s0 x bs) (most : Int) (k n fin : Nat) (hk : k < bs.length) (hfin : (fin : Int) = max ((k : Int) + 1) (((Sg.cnt s.edges (fun e => decide (most < e.pos - ((Sg.ed s.edges (k + 1)).pos - n)))) : Int) - 1)) (hfl : fin ≤ bs.length) :
    fin = k + 1 ∨ (n : Int) + ((((bs.drop (k + 1)).take (fin - (k + 1))).flatMap Rc.bytes).length : Nat) ≤ most := by
  by_cases h1 : fin = k + 1
  · exact .inl h1
  · refine .inr ?_
    have hlt := Sg.cnt_lt s.edges (fun e => decide (most < e.pos - ((Sg.ed s.edges (k + 1)).pos - n))) (fun i j hij hj hp => by
      have hm : (Sg.ed s.edges i).pos ≤ (Sg.ed s.edges j).pos := by
        have e := h.seg
        subst e
        exact Sg.pos_mono s0 h.one h.zero bs i j hij hj
      have hp' := of_decide_eq_true hp
      exact decide_eq_true (by omega)) fin (by omega)
    have hle := of_decide_eq_false hlt
    have e := h.seg
    subst e
    rw [Sg.ed_pos s0 h.one h.zero bs fin hfl, Sg.ed_pos s0 h.one h.zero bs (k + 1) (by omega)] at hle
    have hf := flat_mid bs (k + 1) fin (by omega)
    omega
/-- With a greater limit as far at least. -/
theorem fin_mono (l : List Sg.Edge) (a b c : Int) (hab : a ≤ b) (k fa fb : Nat) (ha : (fa : Int) = max ((k : Int) + 1) (((Sg.cnt l (fun e => decide (a < e.pos - c))) : Int) - 1)) (hb : (fb : Int) = max ((k : Int) + 1) (((Sg.cnt l (fun e => decide (b < e.pos - c))) : Int) - 1)) : fa ≤ fb := by
  have h := Sg.cnt_mono l (fun e => decide (a < e.pos - c)) (fun e => decide (b < e.pos - c)) fun e he => by
    have := of_decide_eq_true he
    exact decide_eq_true (by omega)
  omega
end
end Go.Proofs.YtdbmlohpnlgjfaaGreatDoor

namespace Go.Proofs.YtdbmlohpnlgjfaaGreatDoor
open Go.RowKit Go.Maps Go.Sort

theorem bat_elem : Tryz.prog.underlying 26 = some (.slice (Tryz.prog.elem 26)) := by kernel_rfl
theorem bat_sizeOf (W : World) : (sizeOf (Tryz.prog.elem 26)).run Tryz.prog W = .ok 3 W := by
  have h : Tryz.prog.elem 26 = 41 := by kernel_rfl
  obtain ⟨i, hi, hz, hs1, hby⟩ := info_parts batch_info
  rw [h]; simp [sizeOf, typeInfo, hi, hs1]
theorem run_cut_bat (W : World) (A : Option Addr) (n cap q : Nat) (h : q ≤ cap) :
    (Instr.sliceAt 26 (.slice A n cap) none (some (.int .i64 (q : Int))) none).run Tryz.prog W = .ok (.slice A q cap) W := by
  rw [run_sliceAt_slice W _ _ _ _ _ bat_elem, run_slice_h W _ A n cap bat_elem .i64 (q : Int) (by omega) (by omega), bat_sizeOf]
  simp [Result.andThen, sliced]
  intro h0
  cases A <;> simp [Addr.add]
/-- Where an offset lies. -/
theorem chain_find (s : Sg.St) (h1 : s.edges.length = 1) (bs : List Rc.Bat) (hc : Sg.Chain s bs) (o : Int) (ho : (Sg.ed (Sg.adds s bs).edges 0).off ≤ o) : ∀ n, n ≤ bs.length → o < (Sg.ed (Sg.adds s bs).edges n).off → ∃ (k q : Nat) (hk : k < bs.length), o = bs[k].base + q ∧ q < bs[k].recs.length := by
  intro n
  induction n with
  | zero => intro _ h; omega
  | succ n ih =>
    intro hn h
    by_cases h2 : o < (Sg.ed (Sg.adds s bs).edges n).off
    · exact ih (by omega) h2
    · have e1 := Sg.ed_base s h1 bs hc n (by omega)
      have e2 := Sg.ed_next s h1 bs n (by omega)
      exact ⟨n, (o - bs[n].base).toNat, by omega, by omega, by omega⟩
theorem Md.find {d : Dk.St} {s s0 : Sg.St} {room used : Int} {names : Dk.Dir} {x : Nat} {bs : List Rc.Bat} (h : Md d s room used names s0 x bs) (o : Int) (h0 : (Sg.last s0.edges).off ≤ o) (h2 : o < (Sg.last s.edges).off) : ∃ (k q : Nat) (hk : k < bs.length), o = bs[k].base + q ∧ q < bs[k].recs.length := by
  have hl := h.len
  have e := h.seg
  subst e
  refine chain_find s0 h.one bs h.chain o ?_ bs.length (Nat.le_refl _) ?_
  · rw [Sg.adds_ed bs s0 0 (by rw [h.one]; omega)]
    have : Sg.last s0.edges = Sg.ed s0.edges 0 := by unfold Sg.last; rw [h.one]
    rw [← this]; exact h0
  · have : Sg.last (Sg.adds s0 bs).edges = Sg.ed (Sg.adds s0 bs).edges bs.length := by unfold Sg.last; rw [hl]; rfl
    rw [← this]; exact h2
theorem Md.end_pos {d : Dk.St} {s s0 : Sg.St} {room used : Int} {names : Dk.Dir} {x : Nat} {bs : List Rc.Bat} (h : Md d s room used names s0 x bs) (hn : bs ≠ []) : 0 < (Sg.last s.edges).off ∧ (Sg.last s.edges).off ≤ 1099511627776 := by
  have hb := List.length_pos_iff.2 hn
  have e2 := Sg.ed_next s0 h.one bs (bs.length - 1) (by omega)
  have hl := h.len
  have e := h.seg
  subst e
  have g := h.good bs[bs.length - 1] (List.getElem_mem (by omega))
  have : Sg.last (Sg.adds s0 bs).edges = Sg.ed (Sg.adds s0 bs).edges (bs.length - 1 + 1) := by unfold Sg.last; rw [hl]; congr 1; omega
  rw [this, e2]
  have g1 := g.n0
  have g2 := g.base0
  have g3 := g.base1
  omega

set_option maxRecDepth 100000 in
set_option maxHeartbeats 4000000 in
theorem segLimits_any (w : World) (p : Nat → Addr) (hs : SentsG w p) (ht : Tabs w) (hpt : PowTab w) (Az : Option Addr) (cz nz : Nat) (zs : List Int) (of_ a_ b_ : Int) (hnz : zs.length = nz) (hz : Ints w Az zs) (hzb : ∀ k, k < zs.length → -9223372036854775808 ≤ zs.getD k 0 ∧ zs.getD k 0 ≤ 9223372036854775807) (ho : -9223372036854775808 ≤ of_ ∧ of_ ≤ 9223372036854775807) (ha : -9223372036854775808 ≤ a_ ∧ a_ ≤ 9223372036854775807) (hb : -9223372036854775808 ≤ b_ ∧ b_ ≤ 9223372036854775807) :
    Calls Tryz.prog 9 #[.slice Az nz cz, .int .i64 of_, .int .i64 a_, .int .i64 b_] w fun e w' => e = .returned (.bool true) ∧ Below w.heap.size w w' := by
  have HFI := hide (segFirst_any w p hs ht hpt)
  have HS := hide hs
  have HT := hide ht
  have HPT := hide hpt
  have HZ := hide hz
  have HNZ := hide hnz
  clear hs ht hpt hz hnz
  by_cases lz : 20 < nz
  · go_enter Tryz.func9, Tryz.ntmps9
    go_wp2_with (first
      | (go_at_call 11; refine HFI.out.mono ?_; rintro e w1 ⟨rfl, hb1⟩; have HB1 := hide hb1; clear hb1)
      | fail)
    go_ret
    exact ⟨rfl, HB1.out⟩
  by_cases l0 : nz = 0
  · go_enter Tryz.func9, Tryz.ntmps9
    go_wp2_with (first
      | (go_at_call 11; refine HFI.out.mono ?_; rintro e w1 ⟨rfl, hb1⟩; have HB1 := hide hb1; clear hb1)
      | fail)
    go_ret
    exact ⟨rfl, HB1.out⟩
  have hne : ((nz : Int) == 0) = false := by simp; omega
  have HRW := hide (fun (W : World) (hw : Below w.heap.size w W) => row_any 0 Az cz nz 3 zs W HNZ.out (by omega) (by omega) (by omega) (by omega) (HZ.out.below hw (Nat.le_refl _)) hzb)
  have hok := Rw.go_ok zs 0 0 3 (by omega) (by have := HNZ.out; omega) (by have := HNZ.out; omega)
  have hgd : ∀ b ∈ Rw.go ((0 : Nat) : Int) 0 3 zs, Rc.Good b := fun b hb => (hok b hb).1
  have hsm := Rw.go_small zs ((0 : Nat) : Int) 0 3 hgd
  have hch := Rw.go_chain zs ((0 : Nat) : Int) 0 3 (Sg.begin (Nm.seg 0) 0 80) rfl (by decide)
  have HMD := hide (fun (W : World) (hb : Below w.heap.size w W) (A : Option Addr) (cap : Nat) (hbt : Bats W A (Rw.go ((0 : Nat) : Int) 0 3 zs)) => made_any 0 80 A cap nz _ W p (HS.out.below hb) (HT.out.below hb (Nat.le_refl _)) (HPT.out.below hb) (by rw [Rw.go_len]; exact HNZ.out) (by omega) hbt hgd hsm (by omega) (by omega) hch)
  have hfl := flat_len_le Rc.bytes 300 _ hsm
  have hgl := Rw.go_len zs ((0 : Nat) : Int) 0 3
  rw [hgl] at hfl
  rw [HNZ.out] at hfl hgl
  have HFL := hide hfl
  have HGL := hide hgl
  have HSM := hide hsm
  have HGD := hide hgd
  have HLR : Hid (∀ b ∈ Rw.go ((0 : Nat) : Int) 0 3 zs, b.recs.length ≤ 1000000 ∧ ∀ r ∈ b.recs, r.k.length ≤ 1000000 ∧ r.v.length ≤ 1000000) := hide fun b hb => ⟨by have := (hok b hb).2.1; omega, fun r hr => by have := (hok b hb).2.2 r hr; omega⟩
  clear hok hgd hsm hch hfl hgl hzb
  generalize Rw.go ((0 : Nat) : Int) 0 3 zs = cs at *
  have hA := num_lt a_ 600 (by omega)
  have hB := num_lt b_ 600 (by omega)
  obtain ⟨NA, hNA⟩ : ∃ N, num a_ 600 = N := ⟨_, rfl⟩
  obtain ⟨NB, hNB⟩ : ∃ N, num b_ 600 = N := ⟨_, rfl⟩
  rw [hNA] at hA
  rw [hNB] at hB
  have HNA := hide hNA
  have HNB := hide hNB
  clear hNA hNB
  go_enter Tryz.func9, Tryz.ntmps9
  go_upto_region 10 with (first
    | (go_at_call 11; refine HFI.out.mono ?_; rintro e w1 ⟨rfl, hb1⟩; have HB1 := hide hb1; clear hb1 HFI)
    | (go_at_call 14; refine (HRW.out w1 HB1.out).mono ?_; rintro e w2 ⟨⟨A2, c2, rfl, hc2, hm2, hbt2⟩, hb2⟩; have HB2 := hide (HB1.out.trans (hb2.mono HB1.out.size)); have HBT := hide hbt2; clear hbt2 hb2 HRW)
    | (go_at_call 15; refine (HMD.out w2 HB2.out A2 c2 HBT.out).mono ?_; rintro e w3 ⟨Bd, X, S, T, d, s, x, rfl, hw3, hm3⟩; have HW3 := hide hw3; have HM3 := hide hm3; clear hw3 hm3 HMD)
    | fail)
  have hcne : cs ≠ [] := fun e => by have := HGL.out; rw [e] at this; simp at this; omega
  obtain ⟨hE0, hE1⟩ := HM3.out.end_pos hcne
  have HEN := hide (sgEnd_any X Bd s T w3 HW3.out.seg HW3.out.ok)
  obtain ⟨E, hE⟩ : ∃ E, E = (Sg.last s.edges).off := ⟨_, rfl⟩
  rw [← hE] at HEN hE0 hE1
  have HE := hide hE
  have m1 := Int.emod_nonneg of_ (show E ≠ 0 by omega)
  have m2 := Int.emod_lt_of_pos of_ hE0
  have HLG := hide (fun (W : World) => long_any of_ E W hE0 (by omega) ho.1 ho.2)
  obtain ⟨o, hO⟩ : ∃ o, o = of_ % E := ⟨_, rfl⟩
  rw [← hO] at HLG m1 m2
  clear hE hO hcne
  go_upto_region 13 with (first
    | (go_at_call 25; refine HEN.out.mono ?_; rintro e w4 ⟨rfl, hb4⟩; have HB4 := hide hb4; clear hb4 HEN)
    | (go_at_call 12; refine (HLG.out w4).mono ?_; rintro e wv ⟨rfl, hwv⟩; obtain rfl : w4 = wv := hwv; clear HLG)
    | (go_at_call 13; (with_reducible refine (num_at a_ 600 600 _ rfl (by omega) (by omega) ha.1 ha.2).mono ?_); rintro e wv ⟨rfl, rfl⟩; rw [HNA.out])
    | (go_at_call 13; (with_reducible refine (num_at b_ 600 600 _ rfl (by omega) (by omega) hb.1 hb.2).mono ?_); rintro e wv ⟨rfl, rfl⟩; rw [HNB.out])
    | fail)
  have hfl6 : (cs.flatMap Rc.bytes).length ≤ 1000000 := by have := HFL.out; omega
  obtain ⟨k, q, hk, hq, hql⟩ := HM3.out.find o (by show (0 : Int) ≤ o; omega) (by rw [← HE.out]; exact m2)
  obtain ⟨fa, na, hfa, hna, hnal, hra⟩ := HM3.out.read hfl6 o NA k q hk hq hql
  obtain ⟨fb, nb, hfb, hnb, hnbl, hrb⟩ := HM3.out.read hfl6 o ((NA : Int) + NB) k q hk hq hql
  subst hfa hfb
  have hwi := HM3.out.within NA k _ na hk hna hnal
  have hmo := fin_mono s.edges NA ((NA : Int) + NB) _ (by omega) k na nb hna hnb
  have hk1 : k + 1 ≤ na := by omega
  have hgc := good_cut (HGD.out cs[k] (List.getElem_mem hk)) o q hql hq
  have HRA := hide (sgRead_good w2 w4 S T _ Bd X d s p (HW3.out.grow HB4.out) (HS.out.below HB2.out) (HT.out.below HB2.out (Nat.le_refl _)) (by omega) o NA (by omega) k q _ na _ _ hra)
  have HRB := hide (fun (W : World) (hw : Below w4.heap.size w4 W) => sgRead_good w2 W S T _ Bd X d s p (HW3.out.grow (HB4.out.trans (hw.mono HB4.out.size))) (HS.out.below HB2.out) (HT.out.below HB2.out (Nat.le_refl _)) (by omega) o ((NA : Int) + NB) (by omega) k q _ nb _ _ hrb)
  obtain ⟨xs, hxs⟩ : ∃ xs, xs = cutB cs[k] o q :: (cs.drop (k + 1)).take (na - (k + 1)) := ⟨_, rfl⟩
  obtain ⟨ys, hys⟩ : ∃ ys, ys = cutB cs[k] o q :: (cs.drop (k + 1)).take (nb - (k + 1)) := ⟨_, rfl⟩
  rw [← hxs] at HRA
  rw [← hys] at HRB
  have hcl := HGL.out
  have hxl : xs.length = na - k := by rw [hxs, List.length_cons, List.length_take, List.length_drop]; omega
  have hyl : ys.length = nb - k := by rw [hys, List.length_cons, List.length_take, List.length_drop]; omega
  have hxy : ys.take (na - k) = xs := by
    rw [hys, hxs, show na - k = (na - (k + 1)) + 1 by omega, List.take_succ_cons, List.take_take]
    congr 2
    omega
  have hx0 : ∃ t, xs = t ∧ t ≠ [] ∧ ∀ b ∈ xs.take 1, b.base = o := ⟨xs, rfl, by rw [hxs]; simp, fun b hb => by
    rw [hxs] at hb
    simp only [List.take_succ_cons, List.take_zero, List.mem_singleton] at hb
    subst hb
    rfl⟩
  have hxg : ∀ b ∈ xs, Rc.Good b := fun b hb => by
    rw [hxs] at hb
    rcases List.mem_cons.1 hb with rfl | hb
    · exact hgc
    · exact HGD.out b (List.mem_of_mem_drop (List.mem_of_mem_take hb))
  have hsum : xs.length = 1 ∨ (((xs.flatMap Rc.bytes).length : Nat) : Int) ≤ NA := by
    rcases hwi with h | h
    · left; omega
    · right; rw [hxs, List.flatMap_cons, List.length_append]; omega
  have HXG := hide hxg
  have HSUM := hide hsum
  have HXY := hide hxy
  have HX0 := hide hx0
  obtain ⟨la, hla⟩ : ∃ la, la = na - k := ⟨_, rfl⟩
  obtain ⟨lb, hlb⟩ : ∃ lb, lb = nb - k := ⟨_, rfl⟩
  rw [← hla] at hxl hxy
  rw [← hla] at HXY
  rw [← hlb] at hyl
  have hab : la ≤ lb ∧ 1 ≤ la ∧ lb ≤ 20 := by omega
  have HXL := hide hxl
  have HYL := hide hyl
  clear hra hrb hna hnb hnal hnbl hwi hmo hk1 hgc hxs hys hxl hyl hxy hx0 hxg hsum hcl hla hlb hfl6 hq hql
  go_upto_region 15 with (first
    | (go_at_call 30; refine HRA.out.mono ?_; rintro e w5 ⟨v, qs, rfl, hr5, hq5, hb5⟩; have HR5 := hide hr5; have HQ5 := hide hq5; have HB5 := hide hb5; clear hr5 hq5 hb5 HRA)
    | (have _t := HB5; go_at_call 30; refine (HRB.out w5 HB5.out).mono ?_; rintro e w6 ⟨v2, qs2, rfl, hr6, hq6, hb6⟩; have HR6 := hide hr6; have HQ6 := hide hq6; have HB6 := hide hb6; clear hr6 hq6 hb6 HRB)
    | fail)
  obtain ⟨A5, c5, rfl, hc5, hm5, hbt5⟩ := HR5.out.val
  obtain ⟨A6, c6, rfl, hc6, hm6, hbt6⟩ := HR6.out.val
  have hl5 : qs.length = la := by have := congrArg List.length HQ5.out; rw [List.length_map, HXL.out] at this; exact this
  have hl6 : qs2.length = lb := by have := congrArg List.length HQ6.out; rw [List.length_map, HYL.out] at this; exact this
  rw [hl5] at hc5 ⊢
  rw [hl6] at hc6 ⊢
  rw [HQ5.out] at hbt5
  rw [HQ6.out] at hbt6
  have hbt7 := hbt6.first la
  rw [HXY.out] at hbt7
  have HBX := hide (hbt5.below HB6.out (Nat.le_refl _))
  have HBY := hide hbt7
  have hx1 : 0 < xs.length := by rw [HXL.out]; omega
  obtain ⟨bx, ox, rfl, hbx, Ax, cx, z0, z1, z2, -⟩ := HBX.out.at_ 0 hx1
  have hbase : xs[0].base = o := by
    obtain ⟨t, -, -, h⟩ := HX0.out
    refine h _ ?_
    rw [List.take_succ_eq_append_getElem hx1]
    simp
  rw [hbase] at z0
  have z0' : w6.cell? ⟨bx, ox, none⟩ = some (.int .i64 o) := by simpa using z0
  have hcut := fun W => run_cut_bat W A6 lb c6 la (by omega)
  have hla0 : ((la : Int) == 0) = false := by simp; omega
  have hlab : decide ((lb : Int) < la) = false := decide_eq_false (by omega)
  have hlabn : decide (lb < la) = false := decide_eq_false (by omega)
  have HSB := hide (sameBatches_eq (some ⟨bx, ox, none⟩) A6 c5 c6 la xs w6 HXL.out (by omega) HBX.out HBY.out (fun b hb => by
    have g := HXG.out b hb
    exact ⟨by have := g.n1; omega, fun r hr => by have := g.recs r hr; omega⟩))
  have HB6' := hide (HB2.out.trans (((HW3.out.below.trans (HB4.out.mono HW3.out.below.size)).trans ((HB5.out.trans (HB6.out.mono HB5.out.size)).mono (HW3.out.below.trans (HB4.out.mono HW3.out.below.size)).size)).mono HB2.out.size))
  clear z0 z1 z2 hbt5 hbt6 hbt7 HR5 HR6 HQ5 HQ6 hbase HX0 HBY
  go_upto_region 17 with (first
    | (go_at_call 32; refine HSB.out.mono ?_; rintro e w7 ⟨rfl, hb7⟩; have HB7 := hide hb7; have z7 := (hb7.cell (p := ⟨bx, ox, none⟩) hbx).trans z0'; clear hb7 HSB)
    | fail)
  have HB7' := hide (HB6'.out.trans (HB7.out.mono HB6'.out.size))
  have HBX7 := hide (HBX.out.below HB7.out (Nat.le_refl _))
  clear HB6' HB6 HB5 HB4 HBX
  go_wp2_with fail
  go_loopw [18, 19] (fun sv i wr => ∃ j : Nat, j ≤ la ∧ i = .int .i64 j ∧ sv = .int .i64 (((xs.take j).flatMap Rc.bytes).length : Nat) ∧ Below w7.heap.size w7 wr) (fun _ i _ => la - (intOf i).toNat)
  case atStart => exact ⟨0, Nat.zero_le _, rfl, rfl, Below.refl _ _⟩
  case round =>
    obtain ⟨j, hj, rfl, rfl, hbr⟩ := hrel
    have HBR := hide hbr
    clear hbr
    by_cases hlt : j < la
    · have hjx : j < xs.length := by rw [HXL.out]; exact hlt
      obtain ⟨bj, oj, ebj, hbj, Aj, cj, y0, y1, y2, hib⟩ := (HBX7.out.below HBR.out (Nat.le_refl _)).at_ j hjx
      injection ebj with ebj
      injection ebj with e1 e2 _
      subst e1 e2
      have HSZ := hide (rsize1_any xs[j] Aj cj xs[j].recs.length wr hib (HXG.out _ (List.getElem_mem hjx)) rfl)
      have htk : ((xs.take (j + 1)).flatMap Rc.bytes).length = ((xs.take j).flatMap Rc.bytes).length + (Rc.bytes xs[j]).length := by
        rw [List.take_succ_eq_append_getElem hjx, List.flatMap_append, List.length_append]; simp
      have hbnd : ((xs.take (j + 1)).flatMap Rc.bytes).length ≤ 100000 * (j + 1) := by
        have h := flat_len_le Rc.bytes 100000 (xs.take (j + 1)) fun b hb => bytes_most b (HXG.out b (List.mem_of_mem_take hb))
        rw [List.length_take] at h
        have h2 : min (j + 1) xs.length ≤ j + 1 := Nat.min_le_left _ _
        exact Nat.le_trans h (Nat.mul_le_mul_left _ h2)
      have HTK := hide htk
      obtain ⟨L, hL⟩ : ∃ L, L = (Rc.bytes xs[j]).length := ⟨_, rfl⟩
      obtain ⟨u, hu⟩ : ∃ u, u = ((xs.take j).flatMap Rc.bytes).length := ⟨_, rfl⟩
      rw [← hL] at HSZ HTK
      rw [← hu] at HTK ⊢
      have hbnd2 : u + L ≤ 100000 * (j + 1) := by rw [← HTK.out]; exact hbnd
      have hwu : IntKind.i64.wrap ((u : Int) + (L : Int)) = (u : Int) + (L : Int) := by rw [IntKind.wrap_i64]; omega
      have dl : decide ((j : Int) < la) = true := decide_eq_true (by omega)
      have dln : decide (j < la) = true := decide_eq_true hlt
      unfold batV at HSZ
      clear hib htk hbnd hL hu
      go_wp2_with (first
        | (go_at_call 48; refine HSZ.out.mono ?_; rintro e w9 ⟨rfl, hb9⟩; have HB9 := hide hb9; clear hb9 HSZ)
        | fail)
      go_roundw
      case rel => exact ⟨j + 1, by omega, by go_num, by rw [HTK.out]; go_num, HBR.out.trans (HB9.out.mono HBR.out.size)⟩
      case measure => simp [intOf]; omega
    · obtain rfl : j = la := by omega
      have htk : xs.take j = xs := List.take_of_length_le (by rw [HXL.out]; exact Nat.le_refl _)
      rw [htk]
      have hs := HSUM.out
      rw [HXL.out] at hs
      have HF := HB7'.out.trans (HBR.out.mono HB7'.out.size)
      have dj : decide ((j : Int) < j) = false := decide_eq_false (by omega)
      by_cases h1 : j = 1
      · subst h1
        go_wp2_with fail
        go_ret
        exact ⟨rfl, HF⟩
      · have h1' : ((j : Int) == 1) = false := by simp; omega
        have h2 : decide ((((xs.flatMap Rc.bytes).length : Nat) : Int) ≤ NA) = true := decide_eq_true (by rcases hs with h | h; exact absurd h h1; exact h)
        go_wp2_with fail
        go_ret
        have h2n : (xs.flatMap Rc.bytes).length ≤ NA := by have := of_decide_eq_true h2; omega
        exact ⟨by simpa [List.length_flatMap] using h2n, HF⟩
end Go.Proofs.YtdbmlohpnlgjfaaGreatDoor
