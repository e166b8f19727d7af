/-
  The reference's Rising.
-/
import Derived.Test.YtnnobfdpbdkceaaDoorNsV
import Derived.Test.YtnnobfdpbdkceaaDoorCuts
import Derived.Deep.RegionLaw
namespace Go.Proofs.YtnnobfdpbdkceaaDoor
open Go.RowKit Go.Sort Go.Shelf

theorem text_elem : Tryd.prog.underlying 22 = some (.slice (Tryd.prog.elem 22)) := by kernel_rfl
theorem text_sizeOf (W : World) : (sizeOf (Tryd.prog.elem 22)).run Tryd.prog W = .ok 1 W := by
  have h : Tryd.prog.elem 22 = 9 := by kernel_rfl
  obtain ⟨i, hi, hz, hs1, hby⟩ := info_parts text_info
  rw [h]; simp [sizeOf, typeInfo, hi, hs1]
theorem run_cutT_l (W : World) (A : Option Addr) (n cap q : Nat) (h : q ≤ n) :
    (Instr.sliceAt 22 (.slice A n cap) (some (.int .i64 (q : Int))) none none).run Tryd.prog W = .ok (.slice (cutA A cap q) (n - q) (cap - q)) W := by
  rw [run_sliceAt_slice W _ _ _ _ _ text_elem, run_slice_l W _ A n cap text_elem .i64 (q : Int) (by omega) (by omega), text_sizeOf]
  simp [Result.andThen, sliced, cutA]
theorem run_cutT_h (W : World) (A : Option Addr) (n cap q : Nat) (h : q ≤ cap) :
    (Instr.sliceAt 22 (.slice A n cap) none (some (.int .i64 (q : Int))) none).run Tryd.prog W = .ok (.slice A q cap) W := by
  rw [run_sliceAt_slice W _ _ _ _ _ text_elem, run_slice_h W _ A n cap text_elem .i64 (q : Int) (by omega) (by omega), text_sizeOf]
  simp [Result.andThen, sliced]
  intro h0
  cases A <;> simp [Addr.add]
theorem ReadsT.cut {w : World} {A : Option Addr} {l : List (List UInt8)} (h : ReadsT w A l) (cap q : Nat) (hl : l.length ≤ cap) (hA : A = none → cap = 0) (hq : q ≤ l.length) : ReadsT w (cutA A cap q) (l.drop q) := by
  unfold cutA
  split
  · exact .inl (List.drop_eq_nil_of_le (by omega))
  · rcases A with _ | ⟨b, off, sp⟩
    · have := hA rfl; omega
    · rcases h with rfl | ⟨b', off', e, hb, hc⟩
      · exact .inl (by simp)
      · obtain ⟨rfl, rfl, rfl⟩ := by simpa using e
        have h2 := ReadsT.drop (w := w) (b := b) (off := off) (k := q) (l := l) (.inr ⟨_, _, rfl, hb, hc⟩)
        simpa [Addr.add_lit] using h2

section
variable {w : World} {o : Oper} {a : Act} {Q : Exit → Act → World → Prop}
/-- append(s, x...), s the call's own texts, x whatever reads as texts. -/
theorem step_appT {K : Act → World → Prop} (s x : Operand) (ho : o.op = .call { callee := .builtin .append, args := #[s, x], argTypes := #[22, 22] })
    (base : Nat) (v : Value) (l m : List (List UInt8)) (hs : a.eval s = v) (hown : OwnT w base v l) (A : Option Addr) (n c : Nat) (hx : a.eval x = .slice A n c) (hn : m.length = n) (hr : ReadsT w A m)
    (hlen : l.length + n ≤ 1073741824) (hbase : base ≤ w.heap.size)
    (h : ∀ v' w', OwnT w' base v' (l ++ m) → w.grownBy w' v.ownBlock → (v'.ownBlock = v.ownBlock ∨ v'.ownBlock = some w.heap.size) → K (a.put o.dst v') w') : o.wp Tryd.prog a w K Q := by
  subst hn
  obtain ⟨i, hi, hz, hs1, hby⟩ := info_parts text_info
  have key : ∃ v' w', (Builtin.append_ #[22, 22] o.type #[v, .slice A m.length c]).run Tryd.prog w = .ok v' w' ∧ OwnT w' base v' (l ++ m) ∧ w.grownBy w' v.ownBlock ∧ (v'.ownBlock = v.ownBlock ∨ v'.ownBlock = some w.heap.size) := by
    cases A with
    | none =>
      have h0 : m = [] := by
        rcases hr with h | ⟨_, _, h, _⟩
        · exact h
        · cases h
      subst h0
      refine ⟨v, w, ?_, by simpa using hown, World.grownBy.refl w _, .inl rfl⟩
      have u := Tryd.underlying22
      rcases hown.2 with ⟨rfl, _⟩ | ⟨g, cap, cur, rfl, _, _, hnc, _⟩
      · simp [Builtin.append_, run_underlying u, sizeOf, typeInfo, hi, Builtin.lenOf, Builtin.firstCells]
      · simp [Builtin.append_, run_underlying u, sizeOf, typeInfo, hi, Builtin.lenOf, Builtin.firstCells, hnc, storeCells]
    | some ad =>
      obtain ⟨v', w', hrun, h2, h3, _, h5⟩ := run_append_own_at (P := Tryd.prog) w base 22 o.type 9 i _ 1 16 Tryd.underlying22 hi hz hs1 hby rfl (by omega) v l.length (txs l) hown ad m.length c (txs m) (by rw [txs_len]; omega) hr.news (txs_one m)
        (by simp only [maxLen]; omega) (by omega) hbase
      refine ⟨v', w', hrun, ?_, h3, h5⟩
      unfold OwnT
      rw [List.length_append, show txs (l ++ m) = txs l ++ txs m from by simp [txs]]
      exact h2
  obtain ⟨v', w', hrun, h2, h3, h4⟩ := key
  unfold Oper.wp execOp
  simp only [ho, resolve, invoke, builtin, Sem.run_bind, Sem.run_pure, Result.andThen_ok, List.map_toArray, List.map_cons, List.map_nil, hs, hx, hrun]
  exact h v' w' h2 h3 h4
end
/-- make([]string, 0, c), in whatever world. -/
theorem run_makeT (c : Nat) (hc : c ≤ 1073741824) : ∃ cs : Array Value, (∀ W : World, (Instr.makeSlice 22 (.int .i64 0) (.int .i64 (c : Int))).run Tryd.prog W = .ok (.slice (some ⟨W.heap.size, 0, none⟩) 0 c) (W.alloc (.cells cs 9))) ∧
    ∀ W : World, OwnT (W.alloc (.cells cs 9)) W.heap.size (.slice (some ⟨W.heap.size, 0, none⟩) 0 c) [] := by
  obtain ⟨i, hi, hz, hs1, hby⟩ := info_parts text_info
  refine ⟨madeCells (Value.string ⟨#[]⟩).cells (c * i.size), fun W => by
    rw [run_make (P := Tryd.prog) W 22 9 i _ Tryd.underlying22 hi hz .i64 .i64 0 c (by omega) (by omega) (by rw [hby]; omega) (by omega)]
    simp only [Int.toNat_zero, Int.toNat_natCast], fun W => ?_⟩
  exact ⟨by simp [txs], .inr ⟨W.heap.size, c, _, by simp, Nat.le_refl _, heap_alloc_new _ _, by simp, by simp only [maxLen]; omega, by simp [size_madeCells, hs1], by simp [txs]⟩⟩

set_option maxRecDepth 100000 in
set_option maxHeartbeats 2000000 in
theorem rising_any (A : Option Addr) (c n : Nat) (l : List (List UInt8)) (w : World) (hn : l.length = n) (hl : n ≤ 100000) (hx : ∀ x ∈ l, x.length ≤ 1000000) (hr : ReadsT w A l) :
    Calls Tryd.prog 9 #[.slice A n c] w fun e w' => ∃ v, e = .returned v ∧ OwnT w' w.heap.size v (Nm.rising l) ∧ Below w.heap.size w w' := by
  have HR := Lib.hid hr
  have HN := Lib.hid hn
  have HX := Lib.hid hx
  clear hr hn hx
  go_enter Tryd.func9, Tryd.ntmps9
  go_wp2_with fail
  go_loopw [3, 4] (fun v i wr => ∃ k : Nat, k ≤ n ∧ i = .int .i64 k ∧ OwnT wr w.heap.size v (Nm.rising (l.take k)) ∧ Below w.heap.size w wr) (fun _ i _ => n - (intOf i).toNat)
  case atStart => exact ⟨0, Nat.zero_le _, rfl, by simpa [Nm.rising] using OwnT.nil w _, Below.refl _ _⟩
  case round =>
    obtain ⟨k, hk, rfl, ho, hb⟩ := hrel
    have HO := Lib.hid ho
    have HB := Lib.hid hb
    clear ho hb
    by_cases hlt : k < n
    · obtain ⟨b, off, rfl, hcell⟩ := (HR.out.below HB.out (Nat.le_refl _)).get k (by rw [HN.out]; exact hlt)
      have HT := Lib.hid (take_snocT l k (by rw [HN.out]; exact hlt))
      have HXL : Hid ((l.getD k []).length ≤ 1000000) := Lib.hid (HX.out _ (by
        rw [show l.getD k [] = l[k]'(by rw [HN.out]; exact hlt) from by simp [List.getD, show k < l.length by rw [HN.out]; exact hlt]]
        exact List.getElem_mem _))
      have HOL : Hid (∀ y ∈ Nm.rising (l.take k), y.length ≤ 1000000) := Lib.hid (fun y hy => HX.out y (List.mem_of_mem_take ((Nm.mem_rising _ y).1 hy)))
      have hlen : (Nm.rising (l.take k)).length ≤ k := Nat.le_trans (Nm.rising_len _) (by rw [List.length_take]; omega)
      have HRS := Lib.hid (Nm.rising_snoc (l.take k) (l.getD k []))
      generalize l.getD k [] = x at *
      obtain ⟨out, hout⟩ : ∃ out, out = Nm.rising (l.take k) := ⟨_, rfl⟩
      rw [← hout] at HO HOL HRS hlen
      rw [← HT.out] at HRS
      clear hout HT
      obtain ⟨A', c', rfl, hro, hnil, hoc, hoc2⟩ := HO.out.reads
      have HRO := Lib.hid hro
      generalize hm : out.length = m at *
      have HM := Lib.hid hm
      clear hm hro
      rename World => w1
      have HBF := Lib.hid (fun (y : List UInt8) (W : World) (hy : y.length ≤ 1000000) => before_any y x W hy HXL.out)
      go_wp2_with fail
      go_loopw [5] (fun kv wq => ∃ j : Nat, j ≤ m ∧ kv = .int .i64 j ∧ (∀ t, t < j → out.getD t [] < x) ∧ ∃ q, wq = w1.drewN q) (fun kv _ => m - (intOf kv).toNat)
      case atStart => exact ⟨0, Nat.zero_le _, rfl, fun t h => absurd h (Nat.not_lt_zero _), 0, rfl⟩
      case round =>
        obtain ⟨j, hj, rfl, hbf, q, hq⟩ := hrel
        have HJ := Lib.hid hbf
        have HQ := Lib.hid hq
        have hcellk : wr.cell? ⟨b, off + k, none⟩ = some (encStr x) := by rw [hq]; exact hcell
        have HRQ : Hid (ReadsT wr A' out) := Lib.hid (by rw [hq]; exact HRO.out)
        have HOQ : Hid (OwnT wr w.heap.size (.slice A' m c') out) := Lib.hid (by rw [hq]; exact HO.out)
        have HBQ : Hid (Below w.heap.size w wr) := Lib.hid (by rw [hq]; exact below_drewN HB.out q)
        clear hbf hq hcell
        by_cases hjm : j < m
        · obtain ⟨g, off2, rfl, hcell2⟩ := HRQ.out.get j (by rw [HM.out]; exact hjm)
          have HYL : Hid ((out.getD j []).length ≤ 1000000) := Lib.hid (HOL.out _ (by
            rw [show out.getD j [] = out[j]'(by rw [HM.out]; exact hjm) from by simp [List.getD, show j < out.length by rw [HM.out]; exact hjm]]
            exact List.getElem_mem _))
          obtain ⟨y, hy⟩ : ∃ y, y = out.getD j [] := ⟨_, rfl⟩
          rw [← hy] at hcell2 HYL
          have HY := Lib.hid hy
          clear hy
          by_cases hyx : y < x
          · have HBT : Hid (∀ W, Calls Tryd.prog 17 #[str y, str x] W fun e w' => e = .returned (.bool true) ∧ ∃ q, w' = W.drewN q) := Lib.hid (fun W => by have h := HBF.out y W HYL.out; rw [decide_eq_true hyx] at h; exact h)
            go_wp2_with fail
            go_quiet (first | (go_at_call 17; exact Calls.quiet_of (HBT.out _)))
            go_wp2_with fail
            go_roundw
            case rel => exact ⟨j + 1, by omega, by go_num, fun t ht => by
              by_cases e : t = j
              · subst e; rw [← HY.out]; exact hyx
              · exact HJ.out t (by omega), by rw [HQ.out, World.drewN_drewN]; exact ⟨_, rfl⟩⟩
            case measure => simp [intOf]; omega
          · have HBT : Hid (∀ W, Calls Tryd.prog 17 #[str y, str x] W fun e w' => e = .returned (.bool false) ∧ ∃ q, w' = W.drewN q) := Lib.hid (fun W => by have h := HBF.out y W HYL.out; rw [decide_eq_false hyx] at h; exact h)
            go_wp2_with fail
            go_quiet (first | (go_at_call 17; exact Calls.quiet_of (HBT.out _)))
            rename Nat => q1
            go_wp2_with fail
            by_cases hey : y = x
            · have hb1 : (y == x) = true := beq_iff_eq.2 hey
              have HIN : Hid (Nm.rising (l.take (k + 1)) = out) := Lib.hid (by rw [HRS.out]; exact Nm.ins_there x j out (by rw [HM.out]; exact hjm) HJ.out (by rw [← HY.out]; exact hey))
              go_quiet (fail)
              rename Nat => q2
              go_wp2_with fail
              go_roundw
              case rel => exact ⟨k + 1, by omega, by go_num, by rw [HIN.out]; exact HOQ.out, below_drewN HBQ.out _⟩
              case measure => simp [intOf]; omega
            · have hb1 : (y == x) = false := beq_eq_false_iff_ne.2 hey
              go_quiet (fail)
              rename Nat => q2
              go_wp2_with fail
              have HIN : Hid (Nm.rising (l.take (k + 1)) = out.take j ++ [x] ++ out.drop j) := Lib.hid (by rw [HRS.out]; exact Nm.ins_at x j out (by rw [HM.out]; omega) HJ.out (fun _ => by rw [← HY.out]; exact ⟨hyx, hey⟩))
              obtain ⟨W0, hW0⟩ : ∃ W0, W0 = (wr.drewN q1).drewN q2 := ⟨_, rfl⟩
              rw [← hW0]
              have HRW : Hid (ReadsT W0 (some ⟨g, off2, none⟩) out) := Lib.hid (by rw [hW0]; exact HRQ.out)
              have HBW : Hid (Below w.heap.size w W0) := Lib.hid (by rw [hW0]; exact below_drewN (below_drewN HBQ.out _) _)
              have HCK : Hid (W0.cell? ⟨b, off + k, none⟩ = some (encStr x)) := Lib.hid (by rw [hW0]; exact hcellk)
              clear hW0 hcellk HRQ HBQ HOQ
              obtain ⟨cs, hmk, hmo⟩ := run_makeT (m + 1) (by omega)
              have hmk' : ∀ W : World, (Instr.makeSlice 22 (.int .i64 0) (.int .i64 ((m : Int) + 1))).run Tryd.prog W = .ok (.slice (some ⟨W.heap.size, 0, none⟩) 0 (m + 1)) (W.alloc (.cells cs 9)) := fun W => by have h := hmk W; simpa using h
              have hwrap : IntKind.i64.wrap ((m : Int) + 1) = (m : Int) + 1 := by rw [IntKind.wrap_i64]; omega
              have HMO := Lib.hid hmo
              have hcut := fun W => run_cutT_h W (some ⟨g, off2, none⟩) m c' j (by omega)
              have hcut2 := fun W => run_cutT_l W (some ⟨g, off2, none⟩) m c' j (by omega)
              clear hmk hmo
              have HZ : Hid (Below W0.heap.size W0 (W0.drew.alloc (.cells cs 9))) := Lib.hid (balloc (Below.refl W0.heap.size W0).drew _)
              go_region_law (refine step_appT (.tmp 48) (.tmp 51) (by rfl) W0.heap.size _ [] (out.take j) (by rfl) (HMO.out W0.drew) (some ⟨g, off2, none⟩) j c' (by rfl) (by rw [List.length_take, HM.out]; omega) ((HRW.out.below HZ.out (Nat.le_refl _)).take j) (by simp; omega) (by simp) ?_; intro v6 w6 hown6 hg6 hv6; have H06 := Lib.hid (HZ.out.grown hg6 (by simp) (fun g hg => by cases hg; exact Nat.le_refl _)); have HO6 := Lib.hid hown6; clear hown6 hg6 hv6)
              simp only [List.nil_append] at HO6
              have hc6 := (H06.out.cell (p := ⟨b, off + k, none⟩) (World.block_lt_of_cell? W0 _ HCK.out)).trans HCK.out
              have hbs6 := H06.out.size
              go_wp2_with (first
                | (have _t := H06; at_builtin; refine wpList_appT (w := w6.alloc _) rfl (.tmp 53) (.tmp 58) rfl W0.heap.size _ _ [x] rfl (HO6.out.alloc _) _ 1 1 rfl rfl (ReadsT.made _ _ _ _ _ _ (by simp) rfl) (by rw [List.length_take]; omega) (by simp; omega) ?_; intro v7 w7 hown7 hg7 hv7; have H07 := Lib.hid ((balloc H06.out _).grown hg7 (by simp; omega) (fun g hg => (HO6.out.lt g hg).1)); have HO7 := Lib.hid hown7; clear hown7 hg7 hv7 H06)
                | (have _t := H07; at_builtin; refine wpList_appT (w := w7) rfl (.tmp 60) (.tmp 63) rfl W0.heap.size _ _ (out.drop j) rfl HO7.out (cutA (some ⟨g, off2, none⟩) c' j) (m - j) (c' - j) rfl (by rw [List.length_drop, HM.out]) ((HRW.out.below H07.out (Nat.le_refl _)).cut c' j (by rw [HM.out]; exact hoc) (fun e => (hnil e).2) (by rw [HM.out]; omega)) (by simp; omega) H07.out.size ?_; intro v8 w8 hown8 hg8 hv8; have H08 := Lib.hid (H07.out.grown hg8 H07.out.size (fun g hg => (HO7.out.lt g hg).1)); have HO8 := Lib.hid hown8; clear hown8 hg8 hv8 H07)
                | fail)
              go_roundw
              case rel => exact ⟨k + 1, by omega, by go_num, by rw [HIN.out]; exact HO8.out.mono HBW.out.size, HBW.out.trans (H08.out.mono HBW.out.size)⟩
              case measure => simp [intOf]; omega
        · go_wp2_with fail
          go_quiet (fail)
          rename Nat => q1
          go_wp2_with fail
          go_quiet (fail)
          rename Nat => q2
          go_wp2_with fail
          have HIN : Hid (Nm.rising (l.take (k + 1)) = out.take j ++ [x] ++ out.drop j) := Lib.hid (by rw [HRS.out]; exact Nm.ins_at x j out (by rw [HM.out]; omega) HJ.out (fun h => absurd h (by rw [HM.out]; exact hjm)))
          obtain ⟨W0, hW0⟩ : ∃ W0, W0 = (wr.drewN q1).drewN q2 := ⟨_, rfl⟩
          rw [← hW0]
          have HRW : Hid (ReadsT W0 A' out) := Lib.hid (by rw [hW0]; exact HRQ.out)
          have HBW : Hid (Below w.heap.size w W0) := Lib.hid (by rw [hW0]; exact below_drewN (below_drewN HBQ.out _) _)
          have HCK : Hid (W0.cell? ⟨b, off + k, none⟩ = some (encStr x)) := Lib.hid (by rw [hW0]; exact hcellk)
          clear hW0 hcellk HRQ HBQ HOQ
          obtain ⟨cs, hmk, hmo⟩ := run_makeT (m + 1) (by omega)
          have hmk' : ∀ W : World, (Instr.makeSlice 22 (.int .i64 0) (.int .i64 ((m : Int) + 1))).run Tryd.prog W = .ok (.slice (some ⟨W.heap.size, 0, none⟩) 0 (m + 1)) (W.alloc (.cells cs 9)) := fun W => by have h := hmk W; simpa using h
          have hwrap : IntKind.i64.wrap ((m : Int) + 1) = (m : Int) + 1 := by rw [IntKind.wrap_i64]; omega
          have HMO := Lib.hid hmo
          have hcut := fun W => run_cutT_h W A' m c' j (by omega)
          have hcut2 := fun W => run_cutT_l W A' m c' j (by omega)
          clear hmk hmo
          have HZ : Hid (Below W0.heap.size W0 (W0.drew.alloc (.cells cs 9))) := Lib.hid (balloc (Below.refl W0.heap.size W0).drew _)
          go_region_law (refine step_appT (.tmp 48) (.tmp 51) (by rfl) W0.heap.size _ [] (out.take j) (by rfl) (HMO.out W0.drew) A' j c' (by rfl) (by rw [List.length_take, HM.out]; omega) ((HRW.out.below HZ.out (Nat.le_refl _)).take j) (by simp; omega) (by simp) ?_; intro v6 w6 hown6 hg6 hv6; have H06 := Lib.hid (HZ.out.grown hg6 (by simp) (fun g hg => by cases hg; exact Nat.le_refl _)); have HO6 := Lib.hid hown6; clear hown6 hg6 hv6)
          simp only [List.nil_append] at HO6
          have hc6 := (H06.out.cell (p := ⟨b, off + k, none⟩) (World.block_lt_of_cell? W0 _ HCK.out)).trans HCK.out
          have hbs6 := H06.out.size
          go_wp2_with (first
            | (have _t := H06; at_builtin; refine wpList_appT (w := w6.alloc _) rfl (.tmp 53) (.tmp 58) rfl W0.heap.size _ _ [x] rfl (HO6.out.alloc _) _ 1 1 rfl rfl (ReadsT.made _ _ _ _ _ _ (by simp) rfl) (by rw [List.length_take]; omega) (by simp; omega) ?_; intro v7 w7 hown7 hg7 hv7; have H07 := Lib.hid ((balloc H06.out _).grown hg7 (by simp; omega) (fun g hg => (HO6.out.lt g hg).1)); have HO7 := Lib.hid hown7; clear hown7 hg7 hv7 H06)
            | (have _t := H07; at_builtin; refine wpList_appT (w := w7) rfl (.tmp 60) (.tmp 63) rfl W0.heap.size _ _ (out.drop j) rfl HO7.out (cutA A' c' j) (m - j) (c' - j) rfl (by rw [List.length_drop, HM.out]) ((HRW.out.below H07.out (Nat.le_refl _)).cut c' j (by rw [HM.out]; exact hoc) (fun e => (hnil e).2) (by rw [HM.out]; omega)) (by simp; omega) H07.out.size ?_; intro v8 w8 hown8 hg8 hv8; have H08 := Lib.hid (H07.out.grown hg8 H07.out.size (fun g hg => (HO7.out.lt g hg).1)); have HO8 := Lib.hid hown8; clear hown8 hg8 hv8 H07)
            | fail)
          go_roundw
          case rel => exact ⟨k + 1, by omega, by go_num, by rw [HIN.out]; exact HO8.out.mono HBW.out.size, HBW.out.trans (H08.out.mono HBW.out.size)⟩
          case measure => simp [intOf]; omega
    · obtain rfl : k = n := by omega
      have HE : Hid (l.take k = l) := Lib.hid (by rw [← HN.out, List.take_length])
      rw [HE.out] at HO
      go_wp2_with fail
      go_ret
      exact ⟨_, rfl, HO.out, HB.out⟩
end Go.Proofs.YtnnobfdpbdkceaaDoor
