/-
  The walk through VintRows: numbers, texts and fixed ones laid one behind the other are read back.
-/
import Derived.Test.YtdiplknlkmealaaDoorViL
import Derived.Test.YtdiplknlkmealaaDoorArgsI
import Derived.Deep.RegionHeld3
import Derived.Deep.DeepCutAuto
namespace Go.Proofs.YtdiplknlkmealaaDoor
open Go.RowKit

/-- A slice that reads as these numbers of 64 bits. -/
def Nums (w : World) (A : Option Addr) (us : List Nat) : Prop :=
  us = [] ∨ ∃ b off, A = some ⟨b, off, none⟩ ∧ b < w.heap.size ∧ ∀ k, k < us.length → w.cell? ⟨b, off + k, none⟩ = some (.int .u64 (us.getD k 0 : Nat))

set_option maxRecDepth 100000 in
set_option maxHeartbeats 400000 in
theorem few_any (A : Option Addr) (cap : Nat) (ps : List Part) (w : World) (hr : ReadsAll w A ps) (hc : ps.length ≤ 9223372036854775807) (good : Bool) (hg : good = true ↔ (ps.length ≤ 20 ∧ ∀ q ∈ ps, q.l.length ≤ 40)) :
    Calls Tryd.prog 50 #[.slice A ps.length cap, .int .i64 20, .int .i64 40] w fun e w' => e = .returned (.bool good) ∧ w = w' := by
  have HR := hide hr
  have HG := hide hg
  clear hr hg
  by_cases h20 : 20 < ps.length
  · have hgf : good = false := by
      cases good
      · rfl
      · have := (HG.out.1 rfl).1; omega
    subst hgf
    go_enter Tryd.func50, Tryd.ntmps50
    go_wp2_with fail
    go_ret
    exact ⟨rfl, rfl⟩
  · go_enter Tryd.func50, Tryd.ntmps50
    go_wp2_with fail
    go_loop [7] (fun i => ∃ k : Nat, k ≤ ps.length ∧ i = .int .i64 k ∧ ∀ q ∈ ps.take k, q.l.length ≤ 40) (fun i => ps.length - (intOf i).toNat)
    case atStart => exact ⟨0, Nat.zero_le _, rfl, fun q hq => by simp at hq⟩
    case round =>
      obtain ⟨k, hk, rfl, hq⟩ := hrel
      have HQ := hide hq
      clear hq
      by_cases hlt : k < ps.length
      · rcases HR.out with rfl | ⟨b, off, rfl, hb, hcl⟩
        · simp at hlt
        obtain ⟨hcell, hlen, -⟩ := hcl k hlt
        have HTK := hide (List.take_succ_eq_append_getElem (l := ps) hlt)
        have HIN := hide (List.getElem_mem hlt)
        unfold Part.val at hcell
        clear hcl
        generalize ps[k] = q at *
        by_cases h40 : 40 < q.l.length
        · have hgf : good = false := by
            cases good
            · rfl
            · have := (HG.out.1 rfl).2 q HIN.out; omega
          subst hgf
          go_wp2_with fail
          go_ret
          exact ⟨rfl, rfl⟩
        · have H40 := hide h40
          go_wp2_with fail
          go_round
          case rel => exact ⟨k + 1, by omega, by go_num, fun x hx => by
            rw [HTK.out] at hx
            rcases List.mem_append.1 hx with h | h
            · exact HQ.out x h
            · obtain rfl := List.mem_singleton.1 h
              have := H40.out; omega⟩
          case measure => simp [intOf]; omega
      · obtain rfl : k = ps.length := by omega
        have hgt : good = true := by
          refine HG.out.2 ⟨by omega, ?_⟩
          have := HQ.out
          rwa [List.take_length] at this
        subst hgt
        go_wp2_with fail
        go_ret
        exact ⟨rfl, rfl⟩

set_option maxRecDepth 100000 in
theorem vrows_far (A B_ C : Option Addr) (ca cb cc nu nn : Nat) (ps : List Part) (w : World) (mu : nu ≤ 9223372036854775807) (mn : nn ≤ 9223372036854775807) (hr : ReadsAll w C ps) (hc : ps.length ≤ 9223372036854775807) (hf : 20 < nu ∨ 20 < nn ∨ ¬ (ps.length ≤ 20 ∧ ∀ q ∈ ps, q.l.length ≤ 40)) (hst : ∀ W, Below w.heap.size w W → ReadsAll W C ps) :
    Calls Tryd.prog 11 #[.slice A nu ca, .slice B_ nn cb, .slice C ps.length cc] w fun e w' => e = .returned (.bool true) ∧ Below w.heap.size w w' := by
  have HST := hide hst
  clear hst hr
  by_cases h1 : 20 < nu
  · clear hf
    go_enter Tryd.func11, Tryd.ntmps11
    go_wp2_with (go_at_call 27; refine (vfirst_any _).mono ?_; rintro e w1 ⟨rfl, hb1⟩)
    go_ret
    exact ⟨rfl, hb1⟩
  · by_cases h2 : 20 < nn
    · clear hf
      go_enter Tryd.func11, Tryd.ntmps11
      go_wp2_with (go_at_call 27; refine (vfirst_any _).mono ?_; rintro e w1 ⟨rfl, hb1⟩)
      go_ret
      exact ⟨rfl, hb1⟩
    · have HF := hide (fun W (hb : Below w.heap.size w W) => few_any C cc ps W (HST.out W hb) hc false (by
        constructor
        · intro h; cases h
        · intro h
          rcases hf with h' | h' | h'
          · exact absurd h' h1
          · exact absurd h' h2
          · exact absurd h h'))
      clear hf
      go_enter Tryd.func11, Tryd.ntmps11
      go_wp2_with (go_at_call 27; refine (vfirst_any _).mono ?_; rintro e w1 ⟨rfl, hb1⟩)
      refine (HF.out _ hb1).mono ?_
      rintro e w2 ⟨rfl, rfl⟩
      go_wp2_with fail
      go_ret
      exact ⟨rfl, hb1⟩

theorem bcell {W w1 : World} (hb : Below W.heap.size W w1) : (∀ b o, b < W.heap.size → w1.cell? ⟨b, o, none⟩ = W.cell? ⟨b, o, none⟩) ∧ (∀ b o, b < W.heap.size → w1.frozen? ⟨b, o, none⟩ = W.frozen? ⟨b, o, none⟩) :=
  ⟨fun b o h => hb.cell (p := ⟨b, o, none⟩) h, fun b o h => hb.frozen (p := ⟨b, o, none⟩) h⟩
theorem Nums.below {w w' : World} {C : Nat} {A : Option Addr} {us : List Nat} (h : Nums w A us) (hb : Below C w w') (hC : w.heap.size ≤ C) : Nums w' A us := by
  rcases h with h | ⟨b, off, e, hlt, hc⟩
  · exact .inl h
  · exact .inr ⟨b, off, e, by have := hb.size; omega, fun k hk => (hb.cell (p := ⟨b, off + k, none⟩) (by show b < C; omega)).trans (hc k hk)⟩
theorem ReadsAll.below {w w' : World} {C : Nat} {A : Option Addr} {ps : List Part} (h : ReadsAll w A ps) (hb : Below C w w') (hC : w.heap.size ≤ C) : ReadsAll w' A ps := by
  rcases h with h | ⟨b, off, e, hlt, hc⟩
  · exact .inl h
  · exact .inr ⟨b, off, e, by have := hb.size; omega, fun k hk => ⟨(hb.cell (p := ⟨b, off + k, none⟩) (by show b < C; omega)).trans (hc k hk).1, (hc k hk).2.1, (hc k hk).2.2.below hb hC⟩⟩

section
variable {w : World} {o : Oper} {a : Act} {Q : Exit → Act → World → Prop}
/-- append(s, x...), s the call's own, x whatever reads as bytes. -/
theorem step_app {K : Act → World → Prop} (s x : Operand) (ho : o.op = .call { callee := .builtin .append, args := #[s, x], argTypes := #[22, 22] })
    (base : Nat) (v : Value) (l m : List UInt8) (hs : a.eval s = v) (hown : Own w base v l) (A : Option Addr) (n c : Nat) (hx : a.eval x = .slice A n c) (hn : m.length = n) (hr : Reads w A m)
    (hlen : l.length + n ≤ 1073741824) (hbase : base ≤ w.heap.size)
    (h : ∀ v' w', Own w' base v' (l ++ m) → w.grownBy w' v.ownBlock → (v'.ownBlock = v.ownBlock ∨ v'.ownBlock = some w.heap.size) → K (a.put o.dst v') w') : o.wp Tryd.prog a w K Q := by
  subst hn
  obtain ⟨i, hi, hz, hs1, hby⟩ := info_parts byte_info
  have key : ∃ v' w', (Builtin.append_ #[22, 22] o.type #[v, .slice A m.length c]).run Tryd.prog w = .ok v' w' ∧ Own w' base v' (l ++ m) ∧ w.grownBy w' v.ownBlock ∧ (v'.ownBlock = v.ownBlock ∨ v'.ownBlock = some w.heap.size) := by
    cases A with
    | none =>
      have h0 : m = [] := by
        rcases hr with h | ⟨_, _, h, _⟩
        · exact h
        · cases h
      subst h0
      refine ⟨v, w, ?_, by simpa using hown, World.grownBy.refl w _, .inl rfl⟩
      have u := Tryd.underlying22
      rcases hown.2 with ⟨rfl, _⟩ | ⟨g, cap, cur, rfl, _, _, hnc, _⟩
      · simp [Builtin.append_, run_underlying u, sizeOf, typeInfo, hi, Builtin.lenOf, Builtin.firstCells]
      · simp [Builtin.append_, run_underlying u, sizeOf, typeInfo, hi, Builtin.lenOf, Builtin.firstCells, hnc, storeCells]
    | some ad =>
      obtain ⟨v', w', hrun, h2, h3, _, h5⟩ := run_append_own_at (P := Tryd.prog) w base 22 o.type 5 i _ 1 1 Tryd.underlying22 hi hz hs1 hby rfl (by omega) v l.length (cells l) hown ad m.length c (cells m) (by rw [cells_len]; omega) hr.news (cells_one m)
        (by simp only [maxLen]; omega) (by omega) hbase
      refine ⟨v', w', hrun, ?_, h3, h5⟩
      unfold Own
      rw [List.length_append, show cells (l ++ m) = cells l ++ cells m from by simp [cells]]
      exact h2
  obtain ⟨v', w', hrun, h2, h3, h4⟩ := key
  unfold Oper.wp execOp
  simp only [ho, resolve, invoke, builtin, Sem.run_bind, Sem.run_pure, Result.andThen_ok, List.map_toArray, List.map_cons, List.map_nil, hs, hx, hrun]
  exact h v' w' h2 h3 h4
end

set_option maxRecDepth 100000 in
set_option maxHeartbeats 1000000 in
theorem vrows_near (A B_ C : Option Addr) (ca cb cc : Nat) (us : List Nat) (ns : List Int) (ps : List Part) (w : World) (p : Nat → Addr) (hs : Sents w p)
    (hA : Nums w A us) (hB : Ints w B_ ns) (hC : ReadsAll w C ps) (hau : us.length ≤ ca) (hbn : ns.length ≤ cb) (hcp : ps.length ≤ cc)
    (bu : ∀ k, k < us.length → us.getD k 0 < 18446744073709551616) (bn : ∀ k, k < ns.length → -9223372036854775808 ≤ ns.getD k 0 ∧ ns.getD k 0 ≤ 9223372036854775807)
    (hu : us.length ≤ 20) (hn : ns.length ≤ 20) (hp : ps.length ≤ 20) (hq : ∀ q ∈ ps, q.l.length ≤ 40) :
    Calls Tryd.prog 11 #[.slice A us.length ca, .slice B_ ns.length cb, .slice C ps.length cc] w fun e w' => e = .returned (.bool true) ∧ Below w.heap.size w w' := by
  have HS := hide hs
  have HA := hide hA
  have HB := hide hB
  have HC := hide hC
  have HU := hide bu
  have HN := hide bn
  have HQ := hide hq
  have lenU : (us.flatMap eU).length ≤ us.length * 10 := flat_le _ _ _ fun x hx => by
    obtain ⟨k, hk, rfl⟩ := List.mem_iff_getElem.1 hx
    have := bu k hk
    simp only [List.getD, List.getElem?_eq_getElem hk, Option.getD_some] at this
    exact Vi.size_le10 this
  have lenI : (ns.flatMap eI).length ≤ ns.length * 10 := flat_le _ _ _ fun x hx => by
    obtain ⟨k, hk, rfl⟩ := List.mem_iff_getElem.1 hx
    have := bn k hk
    simp only [List.getD, List.getElem?_eq_getElem hk, Option.getD_some] at this
    exact Vi.size_le10 (Vi.zz_lt _ this.1 this.2)
  have lenT : (ps.flatMap eT).length ≤ ps.length * 50 := flat_le _ _ _ fun x hx => by
    have := hq x hx
    unfold eT
    rw [List.length_append]
    have h2 : (Vi.put x.l.length).length ≤ 10 := Vi.size_le10 (by omega)
    omega
  have HLU := hide (show (us.flatMap eU).length ≤ 200 by omega)
  have HLI := hide (show (ns.flatMap eI).length ≤ 200 by omega)
  have HLT := hide (show (ps.flatMap eT).length ≤ 1000 by omega)
  have HFB := hide (fun W (hb : Below w.heap.size w W) => few_any C cc ps W (hC.below hb (Nat.le_refl _)) (by omega) true ⟨fun _ => ⟨hp, hq⟩, fun _ => rfl⟩)
  clear hs hA hB hC bu bn hq lenU lenI lenT
  go_enter Tryd.func11, Tryd.ntmps11
  go_wp2_with (go_at_call 27; refine (vfirst_any _).mono ?_; rintro e w1 ⟨rfl, hb1⟩)
  have HB1 := hide hb1
  refine (HFB.out _ hb1).mono ?_
  rintro e w2 ⟨rfl, rfl⟩
  clear hb1 HFB
  go_upto_block 0 with fail
  go_cut [8, 9] (fun v _ wx => Own wx w.heap.size v (us.flatMap eU) ∧ Below w.heap.size w wx)
  case first =>
    go_wp2_with fail
    go_loopw [8, 9] (fun v i wr => ∃ k : Nat, k ≤ us.length ∧ i = .int .i64 k ∧ Own wr w.heap.size v ((us.take k).flatMap eU) ∧ ((us.take k).flatMap eU).length ≤ k * 10 ∧ Below w.heap.size w wr) (fun _ i _ => us.length - (intOf i).toNat)
    case atStart => exact ⟨0, Nat.zero_le _, rfl, Own.nil _ _, by simp, HB1.out⟩
    case round =>
      obtain ⟨k, hk, rfl, ho, hlen, hb⟩ := hrel
      have HO := hide ho
      have HBK := hide hb
      clear ho hb
      by_cases hlt : k < us.length
      · have hAA := HA.out
        rcases hAA with h0 | ⟨b, off, rfl, hb0, hcl⟩
        · rw [h0] at hlt; simp at hlt
        have hcell : wr.cell? ⟨b, off + k, none⟩ = some (.int .u64 (us.getD k 0 : Nat)) := (HBK.out.cell (p := ⟨b, off + k, none⟩) hb0).trans (hcl k hlt)
        have hbd := HU.out k hlt
        have hsz := Vi.size_le10 hbd
        have HSU : Hid ((us.take (k + 1)).flatMap eU = (us.take k).flatMap eU ++ Vi.put (us.getD k 0)) := by
          show _ = _
          rw [flat_succ _ _ _ hlt]; simp [List.getD, hlt, eU]
        have HSZ : Hid ((Vi.put (us.getD k 0)).length ≤ 10) := hide hsz
        clear hcl hsz
        generalize us.getD k 0 = u at *
        generalize hpre : (us.take k).flatMap eU = pre at *
        have HPRE := hide hpre
        clear hpre
        obtain ⟨A2, c2, rfl, ha2⟩ := HO.out.arg
        have HP := hide (put_at A2 c2 pre.length pre u wr rfl hbd (by omega) ha2.reads)
        clear ha2 hbd
        go_wp2_with fail
        refine HP.out.mono ?_
        rintro e w3 ⟨v3, rfl, ho3, hb3⟩
        have HZ := hide HBK.out.size
        have HO3 := hide (ho3.mono HZ.out)
        have HB3 := hide (HBK.out.trans (hb3.mono HBK.out.size))
        clear ho3 hb3 HP
        go_wp2_with fail
        refine ⟨⟨k + 1, by omega, by go_num, ?_, ?_, HB3.out⟩, by simp [intOf]; omega⟩
        · rw [HSU.out]; exact HO3.out
        · rw [HSU.out, List.length_append]; have := HSZ.out; omega
      · obtain rfl : k = us.length := by omega
        go_wp2_with fail
        go_meet
        refine ⟨?_, HBK.out⟩
        have := HO.out
        rwa [List.take_length] at this
  case rest =>
    obtain ⟨ho, hb⟩ := hcut
    have HOU := hide ho
    have HBU := hide hb
    have hlu := HLU.out
    have HX1 : Hid (us.flatMap eU = us.flatMap eU) := hide rfl
    clear ho hb HB1
    generalize hx1 : us.flatMap eU = X1 at *
    have HE1 := hide hx1
    clear hx1 HX1
    go_upto_block 2 with fail
    go_cut [8, 10] (fun v _ wx => Own wx w.heap.size v (X1 ++ ns.flatMap eI) ∧ Below w.heap.size w wx)
    case first =>
      go_wp2_with fail
      go_loopw [8, 10] (fun v i wr => ∃ k : Nat, k ≤ ns.length ∧ i = .int .i64 k ∧ Own wr w.heap.size v (X1 ++ (ns.take k).flatMap eI) ∧ ((ns.take k).flatMap eI).length ≤ k * 10 ∧ Below w.heap.size w wr) (fun _ i _ => ns.length - (intOf i).toNat)
      case atStart => exact ⟨0, Nat.zero_le _, rfl, by simpa using HOU.out, by simp, HBU.out⟩
      case round =>
        obtain ⟨k, hk, rfl, ho, hlen, hb⟩ := hrel
        have HO := hide ho
        have HBK := hide hb
        clear ho hb
        by_cases hlt : k < ns.length
        · have hBB := HB.out
          rcases hBB with h0 | ⟨b, off, rfl, hb0, hcl⟩
          · rw [h0] at hlt; simp at hlt
          have hcell : wr.cell? ⟨b, off + k, none⟩ = some (.int .i64 (ns.getD k 0)) := (HBK.out.cell (p := ⟨b, off + k, none⟩) hb0).trans (hcl k hlt)
          obtain ⟨bd1, bd2⟩ := HN.out k hlt
          have hsz := Vi.size_le10 (Vi.zz_lt _ bd1 bd2)
          have HSU : Hid ((ns.take (k + 1)).flatMap eI = (ns.take k).flatMap eI ++ Vi.put (Vi.zz (ns.getD k 0))) := by
            show _ = _
            rw [flat_succ _ _ _ hlt]; simp [List.getD, hlt, eI]
          have HSZ : Hid ((Vi.put (Vi.zz (ns.getD k 0))).length ≤ 10) := hide hsz
          clear hcl hsz
          generalize ns.getD k 0 = u at *
          generalize hpre : (ns.take k).flatMap eI = pre at *
          have HPRE := hide hpre
          have hxl : (X1 ++ pre).length ≤ 1000 := by rw [List.length_append]; omega
          clear hpre
          have HXP : Hid (∀ z : List UInt8, X1 ++ (pre ++ z) = (X1 ++ pre) ++ z) := hide (fun z => (List.append_assoc _ _ _).symm)
          generalize X1 ++ pre = pp at *
          obtain ⟨A2, c2, rfl, ha2⟩ := HO.out.arg
          have HP := hide (putInt_at A2 c2 pp.length pp u wr rfl bd1 bd2 (by omega) ha2.reads)
          clear ha2 bd1 bd2
          go_wp2_with fail
          refine HP.out.mono ?_
          rintro e w3 ⟨v3, rfl, ho3, hb3⟩
          have HZ := hide HBK.out.size
          have HO3 := hide (ho3.mono HZ.out)
          have HB3 := hide (HBK.out.trans (hb3.mono HBK.out.size))
          clear ho3 hb3 HP
          go_wp2_with fail
          refine ⟨⟨k + 1, by omega, by go_num, ?_, ?_, HB3.out⟩, by simp [intOf]; omega⟩
          · rw [HSU.out, HXP.out]; exact HO3.out
          · rw [HSU.out, List.length_append]; have := HSZ.out; omega
        · obtain rfl : k = ns.length := by omega
          go_wp2_with fail
          go_meet
          refine ⟨?_, HBK.out⟩
          have := HO.out
          rwa [List.take_length] at this
    case rest =>
      obtain ⟨ho, hb⟩ := hcut
      have HOI := hide ho
      have HBI := hide hb
      have hli := HLI.out
      have hx12 : (X1 ++ ns.flatMap eI).length ≤ 400 := by rw [List.length_append]; omega
      clear ho hb HBU HOU
      generalize hx2 : X1 ++ ns.flatMap eI = X2 at *
      have HE2 := hide hx2
      clear hx2
      go_upto_block 4 with fail
      go_cut [8, 11] (fun v _ wx => Own wx w.heap.size v (X2 ++ ps.flatMap eT) ∧ Below w.heap.size w wx)
      case first =>
        go_wp2_with fail
        go_loopw [8, 11] (fun v i wr => ∃ k : Nat, k ≤ ps.length ∧ i = .int .i64 k ∧ Own wr w.heap.size v (X2 ++ (ps.take k).flatMap eT) ∧ ((ps.take k).flatMap eT).length ≤ k * 50 ∧ Below w.heap.size w wr) (fun _ i _ => ps.length - (intOf i).toNat)
        case atStart => exact ⟨0, Nat.zero_le _, rfl, by simpa using HOI.out, by simp, HBI.out⟩
        case round =>
          obtain ⟨k, hk, rfl, ho, hlen, hb⟩ := hrel
          have HO := hide ho
          have HBK := hide hb
          clear ho hb
          by_cases hlt : k < ps.length
          · have hCC := HC.out
            rcases hCC with h0 | ⟨b, off, rfl, hb0, hcl⟩
            · rw [h0] at hlt; simp at hlt
            obtain ⟨hcell0, -, hrd⟩ := hcl k hlt
            have hcell := (HBK.out.cell (p := ⟨b, off + k, none⟩) hb0).trans hcell0
            have hq40 := HQ.out _ (List.getElem_mem hlt)
            have HSU : Hid ((ps.take (k + 1)).flatMap eT = (ps.take k).flatMap eT ++ (Vi.put ps[k].l.length ++ ps[k].l)) := by
              show _ = _
              rw [flat_succ _ _ _ hlt]; rfl
            have HRD := hide hrd
            have hbr : b < wr.heap.size := Nat.lt_of_lt_of_le hb0 HBK.out.size
            unfold Part.val at hcell
            clear hcl hcell0 hrd
            generalize ps[k] = q at *
            have hsz := Vi.size_le10 (show q.l.length < 18446744073709551616 by omega)
            have HSZ : Hid ((Vi.put q.l.length).length ≤ 10) := hide hsz
            clear hsz
            generalize hpre : (ps.take k).flatMap eT = pre at *
            have HPRE := hide hpre
            have hxl : (X2 ++ pre).length ≤ 2000 := by rw [List.length_append]; omega
            clear hpre
            have HXP : Hid (∀ z y : List UInt8, X2 ++ (pre ++ (z ++ y)) = ((X2 ++ pre) ++ z) ++ y) := hide (fun z y => by simp only [List.append_assoc])
            generalize X2 ++ pre = pp at *
            obtain ⟨A2, c2, rfl, ha2⟩ := HO.out.arg
            have HP := hide (fun W (hb : Below wr.heap.size wr W) => put_at A2 c2 pp.length pp q.l.length W rfl (by omega) (by omega) (ha2.reads.below hb (Nat.le_refl _)))
            clear ha2
            go_upto_region 18 with fail
            have HZR := hide (fun W (hb : Below wr.heap.size wr W) => HBK.out.trans (hb.mono HBK.out.size))
            have HZ := hide HBK.out.size
            have HRDS := hide (fun W (hb : Below wr.heap.size wr W) => HRD.out.below (HZR.out W hb) (Nat.le_refl _))
            have hwr : IntKind.u64.wrap (q.l.length : Int) = (q.l.length : Int) := by rw [IntKind.wrap_u64]; omega
            go_region_held3 (fun w' => w'.cell? ⟨b, off + k, none⟩ = some (.slice q.a q.l.length q.cap)) (go_keep)
              (first
                | (go_at_call 28; (with_reducible refine (HP.out _ (Below.refl _ _).drew).mono ?_); rintro e w3 ⟨v3, rfl, ho3, hb3⟩; have hk3 : w3.cell? ⟨b, off + k, none⟩ = some (.slice q.a q.l.length q.cap) := (hb3.cell (p := ⟨b, off + k, none⟩) hbr).trans hcell)
                | (have _t := ho3; refine step_app (.tmp 74) (.tmp 78) (by rfl) wr.drew.heap.size _ _ q.l (by rfl) ho3 q.a q.l.length q.cap (by rfl) rfl (HRDS.out _ ((Below.refl _ _).drew.trans hb3)) (by rw [List.length_append]; have := HSZ.out; omega) (hb3.size) ?_; intro v4 w4 hown4 hg4 hv4; have hk4 := hg4.cell hk3 (fun e => Nat.not_le.2 hbr (ho3.lt b e.symm).1))
                | fail)
            have hzz := hb3.size
            have hb4 : Below wr.heap.size wr w4 := ((Below.refl wr.heap.size wr).drew.trans hb3).grown hg4 hzz (fun x hx => (ho3.lt x hx).1)
            have HB4 := hide (HZR.out _ hb4)
            have HO4 := hide (hown4.mono HZ.out)
            clear hb4 hg4 hown4 hv4 hb3 ho3 hzz hwr hk3 hk4 HP HRDS
            go_wp2_with fail
            refine ⟨⟨k + 1, by omega, by go_num, ?_, ?_, HB4.out⟩, by simp [intOf]; omega⟩
            · rw [HSU.out, HXP.out]; exact HO4.out
            · rw [HSU.out, List.length_append, List.length_append]; have := HSZ.out; omega
          · obtain rfl : k = ps.length := by omega
            go_wp2_with fail
            go_meet
            refine ⟨?_, HBK.out⟩
            have := HO.out
            rwa [List.take_length] at this
      case rest =>
        obtain ⟨ho, hb⟩ := hcut
        have HOT := hide ho
        have HBT := hide hb
        have hlt := HLT.out
        have hx3 : (X2 ++ ps.flatMap eT).length ≤ 1400 := by rw [List.length_append]; omega
        have HBZ := hide hb.size
        obtain ⟨PU, PI, PT, l1, l2, l3, l4, l5, l6, l7, l8⟩ := layout us ns ps ((X2 ++ ps.flatMap eT) ++ [1, 2, 3]) (by rw [← HE2.out, ← HE1.out]) HU.out HN.out HQ.out
        have L1 := hide l1
        have L2 := hide l2
        have L3 := hide l3
        have L4 := hide l4
        have L5 := hide l5
        have L6 := hide l6
        have L7 := hide l7
        have L8 := hide l8
        clear ho hb HBI HOI l1 l2 l3 l4 l5 l6 l7 l8 HLT HLI HLU
        go_wp2_with (at_builtin; refine wpList_app (w := wc.alloc _) rfl (.tmp 80) (.tmp 81) rfl w.heap.size _ (X2 ++ ps.flatMap eT) [1, 2, 3] rfl (HOT.out.alloc _) _ 3 3 rfl rfl (Reads.made _ _ _ _ _ _ rfl rfl) (by omega) (by have := HBZ.out; simp; omega) ?_; intro v5 w5 hown5 hg5 hv5)
        have HB5 := hide ((HBT.out.alloc HBZ.out _).grown hg5 (by have := HBZ.out; simp; omega) (fun x hx => (HOT.out.lt x hx).1))
        obtain ⟨A5, c5, rfl, ha5⟩ := hown5.arg
        have HA5 := hide ha5
        have hLL : ((X2 ++ ps.flatMap eT) ++ [1, 2, 3]).length ≤ 1000000 := by rw [List.length_append, show ([1, 2, 3] : List UInt8).length = 3 from rfl]; omega
        clear hown5 hg5 hv5 ha5 HOT HBT
        generalize (X2 ++ ps.flatMap eT) ++ [1, 2, 3] = L at *
        go_wp2_with fail
        refine (newReader_any A5 c5 L.length L w5 p rfl (by omega) HA5.out).mono ?_
        rintro e w6 ⟨g, rfl, hg, hr6, hb6⟩
        have HB6 := hide (HB5.out.trans (hb6.mono HB5.out.size))
        have HR6 : Hid (Rdr w6 p g L (fine 0)) := hide hr6
        have hg0 : w.heap.size ≤ g := Nat.le_trans HB5.out.size hg
        have HBUT := hide (fun W W' (h : Below w.heap.size w W) (hb : But g W W') => h.grown hb h.size (fun k hk => by injection hk with hk; omega))
        clear hr6 hb6 hg HA5
        go_upto_block 6 with fail
        go_cut [13] (fun _ wx => Rdr wx p g L (fine (PU us.length)) ∧ Below w.heap.size w wx)
        case first =>
          go_wp2_with fail
          go_loopw [13] (fun i wr => ∃ k : Nat, k ≤ us.length ∧ i = .int .i64 k ∧ Rdr wr p g L (fine (PU k)) ∧ Below w.heap.size w wr) (fun i _ => us.length - (intOf i).toNat)
          case atStart => exact ⟨0, Nat.zero_le _, rfl, by rw [L1.out]; exact HR6.out, HB6.out⟩
          case round =>
            obtain ⟨k, hk, rfl, hr, hb⟩ := hrel
            have HR := hide hr
            have HBK := hide hb
            clear hr hb
            by_cases hlt : k < us.length
            · have hAA := HA.out
              rcases hAA with h0 | ⟨b, off, rfl, hb0, hcl⟩
              · rw [h0] at hlt; simp at hlt
              have hcell : wr.cell? ⟨b, off + k, none⟩ = some (.int .u64 (us.getD k 0 : Nat)) := (HBK.out.cell (p := ⟨b, off + k, none⟩) hb0).trans (hcl k hlt)
              have LK := hide (L2.out k hlt)
              have hne : b ≠ g := by omega
              have hbr : b < wr.heap.size := Nat.lt_of_lt_of_le hb0 HBK.out.size
              have huu : ((us.getD k 0 : Nat) : Int) = ((us.getD k 0 : Nat) : Int) := rfl
              clear hcl huu
              generalize us.getD k 0 = u at *
              have huu : ((u : Int) != u) = false := by simp
              have HNM : Hid (∀ W, Rdr W p g L (fine (PU k)) → Sents W p → Calls Tryd.prog 38 #[.pointer (some ⟨g, 0, none⟩), .int .u64 18446744073709551615] W fun e w' => e = .returned (.int .u64 u) ∧ Rdr w' p g L (fine (PU (k + 1))) ∧ But g W w') := hide (fun W h1 h2 => by
                have h := num_any W p g L (fine (PU k)) 18446744073709551615 h1 h2 hLL
                rw [LK.out] at h; exact h)
              go_upto_region 26 with fail
              go_region_held3 (fun w' => w'.cell? ⟨b, off + k, none⟩ = some (.int .u64 (u : Nat))) (go_keep)
                (first
                  | (go_at_call 38; (with_reducible refine (HNM.out _ (HR.out.below (Below.refl _ _).drew) (HS.out.below HBK.out.drew)).mono ?_); rintro e w7 ⟨rfl, hr7, hb7⟩; have hk7 : w7.cell? ⟨b, off + k, none⟩ = some (.int .u64 (u : Nat)) := (hb7.cell hbr hne).trans hcell)
                  | fail)
              have HB7 := hide (HBUT.out _ _ HBK.out ((But.of_below (g := g) (Below.refl wr.heap.size wr).drew).trans hb7))
              have HR7 := hide hr7
              clear hr7 hb7 hk7
              go_wp2_with fail
              exact ⟨⟨k + 1, by omega, by go_num, HR7.out, HB7.out⟩, by simp [intOf]; omega⟩
            · obtain rfl : k = us.length := by omega
              go_wp2_with fail
              go_meet
              exact ⟨HR.out, HBK.out⟩
        case rest =>
          obtain ⟨hr, hb⟩ := hcut
          rw [← L3.out] at hr
          have HRI := hide hr
          have HBI := hide hb
          clear hr hb HR6 HB6 HB5
          go_upto_block 8 with fail
          go_cut [14] (fun _ wx => Rdr wx p g L (fine (PI ns.length)) ∧ Below w.heap.size w wx)
          case first =>
            go_wp2_with fail
            go_loopw [14] (fun i wr => ∃ k : Nat, k ≤ ns.length ∧ i = .int .i64 k ∧ Rdr wr p g L (fine (PI k)) ∧ Below w.heap.size w wr) (fun i _ => ns.length - (intOf i).toNat)
            case atStart => exact ⟨0, Nat.zero_le _, rfl, HRI.out, HBI.out⟩
            case round =>
              obtain ⟨k, hk, rfl, hr, hb⟩ := hrel
              have HR := hide hr
              have HBK := hide hb
              clear hr hb
              by_cases hlt : k < ns.length
              · have hBB := HB.out
                rcases hBB with h0 | ⟨b, off, rfl, hb0, hcl⟩
                · rw [h0] at hlt; simp at hlt
                have hcell : wr.cell? ⟨b, off + k, none⟩ = some (.int .i64 (ns.getD k 0)) := (HBK.out.cell (p := ⟨b, off + k, none⟩) hb0).trans (hcl k hlt)
                have LK := hide (L4.out k hlt)
                have hne : b ≠ g := by omega
                have hbr : b < wr.heap.size := Nat.lt_of_lt_of_le hb0 HBK.out.size
                clear hcl
                generalize ns.getD k 0 = u at *
                have huu : (u != u) = false := by simp
                have HNM : Hid (∀ W, Rdr W p g L (fine (PI k)) → Sents W p → Calls Tryd.prog 40 #[.pointer (some ⟨g, 0, none⟩), .int .i64 (-9223372036854775808), .int .i64 9223372036854775807] W fun e w' => e = .returned (.int .i64 u) ∧ Rdr w' p g L (fine (PI (k + 1))) ∧ But g W w') := hide (fun W h1 h2 => by
                  have h := int_any W p g L (fine (PI k)) (-9223372036854775808) 9223372036854775807 h1 h2 hLL
                  rw [LK.out] at h; exact h)
                go_upto_region 31 with fail
                go_region_held3 (fun w' => w'.cell? ⟨b, off + k, none⟩ = some (.int .i64 u)) (go_keep)
                  (first
                    | (go_at_call 40; (with_reducible refine (HNM.out _ (HR.out.below (Below.refl _ _).drew) (HS.out.below HBK.out.drew)).mono ?_); rintro e w7 ⟨rfl, hr7, hb7⟩; have hk7 : w7.cell? ⟨b, off + k, none⟩ = some (.int .i64 u) := (hb7.cell hbr hne).trans hcell)
                    | fail)
                have HB7 := hide (HBUT.out _ _ HBK.out ((But.of_below (g := g) (Below.refl wr.heap.size wr).drew).trans hb7))
                have HR7 := hide hr7
                clear hr7 hb7 hk7
                go_wp2_with fail
                exact ⟨⟨k + 1, by omega, by go_num, HR7.out, HB7.out⟩, by simp [intOf]; omega⟩
              · obtain rfl : k = ns.length := by omega
                go_wp2_with fail
                go_meet
                exact ⟨HR.out, HBK.out⟩
          case rest =>
            obtain ⟨hr, hb⟩ := hcut
            rw [← L5.out] at hr
            have HRT := hide hr
            have HBT := hide hb
            clear hr hb HRI HBI
            go_upto_block 10 with fail
            go_cut [15] (fun _ wx => Rdr wx p g L (fine (PT ps.length)) ∧ Below w.heap.size w wx)
            case first =>
              go_wp2_with fail
              go_loopw [15] (fun i wr => ∃ k : Nat, k ≤ ps.length ∧ i = .int .i64 k ∧ Rdr wr p g L (fine (PT k)) ∧ Below w.heap.size w wr) (fun i _ => ps.length - (intOf i).toNat)
              case atStart => exact ⟨0, Nat.zero_le _, rfl, HRT.out, HBT.out⟩
              case round =>
                obtain ⟨k, hk, rfl, hr, hb⟩ := hrel
                have HR := hide hr
                have HBK := hide hb
                clear hr hb
                by_cases hlt : k < ps.length
                · have hCC := HC.out
                  rcases hCC with h0 | ⟨b, off, rfl, hb0, hcl⟩
                  · rw [h0] at hlt; simp at hlt
                  obtain ⟨hcell0, -, hrd⟩ := hcl k hlt
                  have hcell := (HBK.out.cell (p := ⟨b, off + k, none⟩) hb0).trans hcell0
                  have hq40 := HQ.out _ (List.getElem_mem hlt)
                  have LK := hide (L6.out k hlt)
                  have hne : b ≠ g := by omega
                  have hbr : b < wr.heap.size := Nat.lt_of_lt_of_le hb0 HBK.out.size
                  have HRD := hide hrd
                  unfold Part.val at hcell
                  clear hcl hcell0 hrd
                  generalize ps[k] = q at *
                  have HBY : Hid (∀ W, Rdr W p g L (fine (PT k)) → Below w.heap.size w W → Calls Tryd.prog 42 #[.pointer (some ⟨g, 0, none⟩), .int .i64 40] W fun e w' => ∃ A' c', e = .returned (.slice A' q.l.length c') ∧ Arg w' A' c' q.l ∧ Rdr w' p g L (fine (PT (k + 1))) ∧ But g W w') := hide (fun W h1 h2 => by
                    have h := rbytes_any W p g L (fine (PT k)) 40 (by omega) (by omega) h1 (HS.out.below h2) (fun W' hW => HS.out.below (HBUT.out _ _ h2 hW)) hLL
                    rw [show (40 : Int).toNat = 40 from rfl, LK.out] at h
                    exact h.mono fun e w' ⟨v, h3, ⟨A', c', h4, h5, _⟩, h6, h7⟩ => ⟨A', c', by rw [h3, h4], h5, h6, h7⟩)
                  have HSB : Hid (∀ W A' c', Below w.heap.size w W → Arg W A' c' q.l → Calls Tryd.prog 20 #[.slice A' q.l.length c', .slice q.a q.l.length q.cap] W fun e w' => e = .returned (.bool true) ∧ ∃ n, w' = W.drewN n) := hide (fun W A' c' h1 h2 => by
                    have h := sameBytes_any A' q.a c' q.cap q.l.length q.l.length q.l q.l W rfl rfl (by omega) (by omega) h2.reads (HRD.out.below h1 (Nat.le_refl _))
                    rwa [show decide (q.l = q.l) = true by simp] at h)
                  go_upto_region 36 with fail
                  go_region_held3 (fun w' => w'.cell? ⟨b, off + k, none⟩ = some (.slice q.a q.l.length q.cap)) (go_keep)
                    (first
                      | (go_at_call 42; (with_reducible refine (HBY.out _ (HR.out.below (Below.refl _ _).drew) HBK.out.drew).mono ?_); rintro e w7 ⟨A7, c7, rfl, ha7, hr7, hb7⟩; have hk7 : w7.cell? ⟨b, off + k, none⟩ = some (.slice q.a q.l.length q.cap) := (hb7.cell hbr hne).trans hcell)
                      | (go_at_call 20; (with_reducible refine (HSB.out _ _ _ (HBUT.out _ _ HBK.out ((But.of_below (g := g) (Below.refl wr.heap.size wr).drew).trans hb7)) ha7).mono ?_); rintro e w8 ⟨rfl, n8, rfl⟩)
                      | fail)
                  have HB7 := hide (HBUT.out _ _ HBK.out ((But.of_below (g := g) (Below.refl wr.heap.size wr).drew).trans hb7))
                  have HR7 := hide (hr7.below (below_drewN (Below.refl _ _) n8))
                  have HB8 := hide (below_drewN HB7.out n8)
                  clear hr7 hb7 hk7 ha7
                  go_wp2_with fail
                  exact ⟨⟨k + 1, by omega, by go_num, HR7.out, HB8.out⟩, by simp [intOf]; omega⟩
                · obtain rfl : k = ps.length := by omega
                  go_wp2_with fail
                  go_meet
                  exact ⟨HR.out, HBK.out⟩
            case rest =>
              obtain ⟨hr, hb⟩ := hcut
              have HRF := hide hr
              have HBF := hide hb
              have HP3 : Hid (L.length - (fine (PT ps.length)).at_ = 3) := by show L.length - PT ps.length = 3; have := L7.out; omega
              have h8 := L8.out
              rw [L7.out] at h8
              have H8 := hide h8
              have HP0 : Hid (L.length - (fine L.length).at_ = 0) := by show L.length - L.length = 0; omega
              clear hr hb h8 HRT HBT
              go_wp2_with fail
              refine (rleft_any wc p g L _ HRF.out hLL).mono ?_
              rintro e w7 ⟨rfl, n7, rfl⟩
              rw [HP3.out]
              have HB7 := hide (below_drewN HBF.out n7)
              have HR7 := hide (HRF.out.below (below_drewN (Below.refl _ _) n7))
              clear HRF HBF
              generalize wc.drewN n7 = W7 at *
              go_wp2_with fail
              refine (fixed_any W7 p g L _ 3 (by omega) (by omega) HR7.out (HS.out.below HB7.out) hLL).mono ?_
              rintro e w8 ⟨rfl, hr8, hb8⟩
              rw [H8.out] at hr8 ⊢
              have HB8 := hide (HBUT.out _ _ HB7.out hb8)
              have HR8 : Hid (Rdr w8 p g L (fine L.length)) := hide hr8
              clear hr8 hb8 HR7 HB7
              rw [show (((197121, fine L.length) : Nat × Vi.Rs).1 : Int) = 197121 from rfl]
              go_wp2_with fail
              refine (rleft_any w8 p g L _ HR8.out hLL).mono ?_
              rintro e w9 ⟨rfl, n9, rfl⟩
              rw [HP0.out]
              have HB9 := hide (below_drewN HB8.out n9)
              have HR9 := hide (HR8.out.below (below_drewN (Below.refl _ _) n9))
              clear HR8 HB8
              generalize w8.drewN n9 = W9 at *
              go_wp2_with fail
              refine (rerr_any W9 p g L _ HR9.out).mono ?_
              rintro e w10 ⟨⟨E, rfl, hE⟩, rfl⟩
              obtain rfl := hE.good rfl
              clear hE
              go_wp2_with fail
              refine (rat_any W9 p g L _ HR9.out).mono ?_
              rintro e w10 ⟨rfl, rfl⟩
              rw [show ((fine L.length).at_ : Int) = (L.length : Int) from rfl]
              have hll : ((L.length : Int) != L.length) = false := by simp
              have hll2 : ((L.length : Int) == L.length) = true := by simp
              have HFE := hide (fixed_end L)
              go_wp2_with fail
              refine (fixed_any W9 p g L _ 1 (by omega) (by omega) HR9.out (HS.out.below HB9.out) hLL).mono ?_
              rintro e w11 ⟨rfl, hr11, hb11⟩
              rw [show Vi.fixed L (fine L.length) 1 = (0, ⟨L.length, 101, none⟩) from HFE.out] at hr11 ⊢
              have HB11 := hide (HBUT.out _ _ HB9.out hb11)
              have HR11 : Hid (Rdr w11 p g L ⟨L.length, 101, none⟩) := hide hr11
              clear hr11 hb11 HR9 HB9
              go_wp2_with fail
              refine (rerr_any w11 p g L _ HR11.out).mono ?_
              rintro e w12 ⟨⟨E, rfl, hE⟩, rfl⟩
              obtain rfl := hE.ends rfl
              have hsq := is_sent w11 p (HS.out.below HB11.out) 0 (by omega) 101
              have HSQ := hide hsq
              clear hE hsq
              unfold errV at *
              go_wp2_with fail
              refine HSQ.out.mono ?_
              rintro e w12 ⟨rfl, hb12⟩
              have HB12 := hide (HB11.out.trans (hb12.mono HB11.out.size))
              have HR12 := hide (HR11.out.below hb12)
              clear hb12 HR11 HB11
              go_wp2_with fail
              refine (num_any w12 p g L _ 9 HR12.out (HS.out.below HB12.out) hLL).mono ?_
              rintro e w13 ⟨rfl, hr13, hb13⟩
              rw [num_end] at hr13 ⊢
              have HB13 := hide (HBUT.out _ _ HB12.out hb13)
              have HR13 : Hid (Rdr w13 p g L ⟨L.length, 101, none⟩) := hide hr13
              clear hr13 hb13 HR12 HB12
              go_wp2_with fail
              refine (rat_any w13 p g L _ HR13.out).mono ?_
              rintro e w14 ⟨rfl, rfl⟩
              rw [show (((⟨L.length, 101, none⟩ : Vi.Rs)).at_ : Int) = (L.length : Int) from rfl]
              go_wp2_with fail
              go_ret
              exact ⟨rfl, HB13.out⟩

theorem vrows_walk (A B_ C : Option Addr) (ca cb cc : Nat) (us : List Nat) (ns : List Int) (ps : List Part) (w : World) (p : Nat → Addr) (hs : Sents w p)
    (hA : Nums w A us) (hB : Ints w B_ ns) (hC : ReadsAll w C ps) (hau : us.length ≤ ca) (hbn : ns.length ≤ cb) (hcp : ps.length ≤ cc) (mu : ca ≤ 9223372036854775807) (mn : cb ≤ 9223372036854775807) (mc : cc ≤ 9223372036854775807)
    (bu : ∀ k, k < us.length → us.getD k 0 < 18446744073709551616) (bn : ∀ k, k < ns.length → -9223372036854775808 ≤ ns.getD k 0 ∧ ns.getD k 0 ≤ 9223372036854775807) :
    Calls Tryd.prog 11 #[.slice A us.length ca, .slice B_ ns.length cb, .slice C ps.length cc] w fun e w' => e = .returned (.bool true) ∧ Below w.heap.size w w' := by
  by_cases h : 20 < us.length ∨ 20 < ns.length ∨ ¬ (ps.length ≤ 20 ∧ ∀ q ∈ ps, q.l.length ≤ 40)
  · exact vrows_far A B_ C ca cb cc _ _ ps w (Nat.le_trans hau mu) (Nat.le_trans hbn mn) hC (Nat.le_trans hcp mc) h (fun W hb => hC.below hb (Nat.le_refl _))
  · have h1 : ps.length ≤ 20 ∧ ∀ q ∈ ps, q.l.length ≤ 40 := by
      rcases Classical.em (ps.length ≤ 20 ∧ ∀ q ∈ ps, q.l.length ≤ 40) with h' | h'
      · exact h'
      · exact absurd (.inr (.inr h')) h
    exact vrows_near A B_ C ca cb cc us ns ps w p hs hA hB hC hau hbn hcp bu bn (by rcases Nat.lt_or_ge 20 us.length with h' | h'; exact absurd (.inl h') h; exact h') (by rcases Nat.lt_or_ge 20 ns.length with h' | h'; exact absurd (.inr (.inl h')) h; exact h') h1.1 h1.2
end Go.Proofs.YtdiplknlkmealaaDoor
