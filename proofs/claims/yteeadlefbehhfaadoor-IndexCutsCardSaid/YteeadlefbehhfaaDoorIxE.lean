/-
  Package index: Add, of what may be.
-/
import Derived.Test.YteeadlefbehhfaaDoorIxD
namespace Go.Proofs.YteeadlefbehhfaaDoor
open Go.RowKit

section
variable {P : Program} {w : World} {o : Oper} {a : Act} {Q : Exit → Act → World → Prop}
/-- The same, as one step of a region that draws. -/
theorem step_appR {K : Act → World → Prop} {ops : Array Oper} {E : Prop} (hgu : o.guard = none) (t e : TypeId) (size bytes : Nat) (z : Value) (hu : P.underlying t = some (.slice e)) (hin : (P.info? e).map (fun i => (i.zero, i.size, i.bytes)) = some (some z, size, bytes)) (hzs : z.cells.size = size) (hsz : 0 < size)
    (s x : Operand) (ho : o.op = .call { callee := .builtin .append, args := #[s, x], argTypes := #[t, t] })
    (base : Nat) (v : Value) (n : Nat) (xs : List Value) (hs : a.eval s = v) (hown : w.ownsRow base e size v n xs) (A : Addr) (m c : Nat) (news : List Value) (hx : a.eval x = .slice (some A) m c) (hl : news.length = m * size)
    (hnews : ∀ j u, news[j]? = some u → w.cell? (A.add j) = some u) (h1 : ∀ u ∈ news, u.oneCell' = true) (h63 : n + m ≤ maxLen) (hby : (n + m) * bytes ≤ 140737488355328) (hbase : base ≤ w.heap.size)
    (h : ∀ v' w', w'.ownsRow base e size v' (n + m) (xs ++ news) → w.grownBy w' v.ownBlock → (v'.ownBlock = v.ownBlock ∨ v'.ownBlock = some w.heap.size) → K (a.put o.dst v') w') :
    if Region.wanted o (yielded ops a.tmps) = true then Oper.wp P o a w K Q else E := by
  have hw : Region.wanted o (yielded ops a.tmps) = true := by simp [Region.wanted, hgu]
  rw [if_pos hw]
  exact step_appG t e size bytes z hu hin hzs hsz s x ho base v n xs hs hown A m c news hx hl hnews h1 h63 hby hbase h
end
theorem own_slice {w : World} {base : Nat} {e : TypeId} {size : Nat} {v : Value} {n : Nat} {xs : List Value} (h : w.ownsRow base e size v n xs) : ∃ A n c, v = .slice A n c := by
  rcases h.2 with ⟨rfl, _⟩ | ⟨g, cap, cur, rfl, _⟩
  · exact ⟨_, _, _, rfl⟩
  · exact ⟨_, _, _, rfl⟩
theorem news2 {w : World} {a b : Value} {t : TypeId} : ∀ j u, ([a, b] : List Value)[j]? = some u → (w.alloc (.cells #[a, b] t)).cell? ((⟨w.heap.size, 0, none⟩ : Addr).add j) = some u := fun j u h => by
  rw [Addr.add_lit, Nat.zero_add, World.cell?_alloc_mark]
  simpa using h
theorem news3 {w : World} {a b c : Value} {t : TypeId} : ∀ j u, ([a, b, c] : List Value)[j]? = some u → (w.alloc (.cells #[a, b, c] t)).cell? ((⟨w.heap.size, 0, none⟩ : Addr).add j) = some u := fun j u h => by
  rw [Addr.add_lit, Nat.zero_add, World.cell?_alloc_mark]
  simpa using h

theorem ixFin {w w2 w3 w5 : World} {X : Nat} {mv av : Value} {s : Ix.St} {S : Nat → Prop} (hb : Below w.heap.size w w2) (hc : Chg S w2 w3) (hl : IxL w5 X mv av s (Up S w3 w5)) (hc5 : Chg S w3 w5) : IxL w5 X mv av s (Up S w w5) ∧ Chg S w w5 := by
  have h3 : Chg S w w3 := (Chg.of_below hb).then hc
  refine ⟨hl.mono fun k hk => ?_, h3.then hc5⟩
  have := h3.size
  rcases hk with hk | hk
  · exact .inl hk
  · exact .inr ⟨by omega, hk.2⟩

theorem ixDrew {w w5 : World} {X : Nat} {mv av : Value} {s : Ix.St} {S : Nat → Prop} (h : IxL w5 X mv av s (Up S w w5) ∧ Chg S w w5) (q : Nat) : IxL (w5.drewN q) X mv av s (Up S w (w5.drewN q)) ∧ Chg S w (w5.drewN q) :=
  ⟨h.1.same fun _ _ _ => rfl, h.2.then (Chg.of_below (below_drewN (Below.refl _ _) q))⟩

set_option maxRecDepth 100000 in
set_option maxHeartbeats 4000000 in
theorem ixGood_any (X : Nat) (mv av : Value) (s : Ix.St) (S : Nat → Prop) (o t p z : Int) (w : World) (h : IxL w X mv av s S) (hok : Ix.Ok s) (hn : s.adds.length ≤ 1000000) (hm : s.marks.length ≤ 1000000) (hg : Ix.good s o t p z) :
    Calls Tryd.prog 19 #[.pointer (some ⟨X, 0, none⟩), .int .i64 o, .int .i64 t, .int .i64 p, .int .i64 z] w fun r w' => r = .returned .nilIface ∧ IxAt w' X (Ix.put s o t p) (Up S w w') ∧ Chg S w w' := by
  obtain ⟨W, hW⟩ : ∃ W, W = w.alloc (.cells #[.int .i64 o, .int .i64 p] 98) := ⟨_, rfl⟩
  have hbl : Below w.heap.size w W := by rw [hW]; exact balloc (Below.refl _ _) _
  have b0 : W.cell? ⟨w.heap.size, 0, none⟩ = some (.int .i64 o) := by rw [hW]; simp
  have b1 : W.cell? ⟨w.heap.size, 1, none⟩ = some (.int .i64 p) := by rw [hW, World.cell?_alloc_mark]; rfl
  have hwz : w.heap.size < W.heap.size := by rw [hW]; simp
  obtain ⟨h1, h2, h3, h4, h5⟩ := hg
  have d3 : decide (z < 1) = false := by simp; omega
  have HO := hide (fun V => rightO_any o V)
  have HT := hide (fun V => rightT_any t V)
  have HP := hide (fun V => rightP_any p V)
  have HI := hide (behind_any X mv av s S o p W (h.same fun k _ hk => hbl.block k hk) hn)
  rw [decide_eq_true h1] at HO
  rw [decide_eq_true h2] at HT
  rw [decide_eq_true h4] at HP
  rw [decide_eq_true h5] at HI
  have HL := hide h
  have HW := hide hW
  have HB := hide hbl
  have HWZ := hide hwz
  have HOK := hide hok
  have HP4 := hide h4
  have HN := hide hn
  have HM := hide hm
  have HOKA : Hid (Ix.Ok ⟨s.every, s.marks, s.adds ++ [⟨o, p⟩], if s.time < t then t else s.time⟩) := hide (by
    have hk := hok.put o t p h1 h2 h4
    refine ⟨hok.every, ?_, hok.marks, hk.adds⟩
    have e : (if s.time < t then t else s.time) = max s.time t := by split <;> omega
    show Ix.okT _
    rw [e]; exact hk.time)
  obtain ⟨bd, hbd⟩ : ∃ bd, bd = decide (Ix.due s p) := ⟨_, rfl⟩
  have HBD := hide hbd
  have hX := (Array.getElem?_eq_some_iff.1 h.box).1
  have HX := hide hX
  clear h hn hm hbl hwz hW h1 h2 h3 h4 h5 hok hX hbd
  cases bd with
  | true =>
    go_enter Tryd.func19, Tryd.ntmps19
    go_upto_region 2 with fail
    rw [← HW.out]
    go_upto_region 4 with (first
      | (go_at_call 53; refine (HO.out _).mono ?_; rintro e w2 ⟨rfl, e⟩; subst e)
      | (go_at_call 54; refine (HT.out _).mono ?_; rintro e w2 ⟨rfl, e⟩; subst e)
      | (go_at_call 55; refine (HP.out _).mono ?_; rintro e w2 ⟨rfl, e⟩; subst e)
      | (go_at_call 56; refine HI.out.mono ?_; rintro e w2 ⟨rfl, hb2⟩; have HB2 := hide hb2; clear hb2)
      | fail)
    have HBW : Hid (Below w.heap.size w w2) := hide (HB.out.trans (HB2.out.mono (Nat.le_of_lt HWZ.out)))
    have HL2 : Hid (IxL w2 X mv av s S) := hide (HL.out.same fun k _ hk => HBW.out.block k hk)
    have c0 : w2.cell? ⟨w.heap.size, 0, none⟩ = some (.int .i64 o) := (HB2.out.cell (p := ⟨w.heap.size, 0, none⟩) HWZ.out).trans b0
    have c1 : w2.cell? ⟨w.heap.size, 1, none⟩ = some (.int .i64 p) := (HB2.out.cell (p := ⟨w.heap.size, 1, none⟩) HWZ.out).trans b1
    have c3 : w2.cell? ⟨X, 3, none⟩ = some (.int .i64 s.time) := box_cell HL2.out.box 3
    have f3 := box_free HL2.out.box 3
    clear b0 b1
    go_upto_region 5 with fail
    obtain ⟨tm, htm⟩ : ∃ tm, tm = if s.time < t then t else s.time := ⟨_, rfl⟩
    rw [← htm] at HOKA
    have HTM : Hid (tm = max s.time t) := hide (by rw [htm]; split <;> omega)
    obtain ⟨w3, hw3⟩ : ∃ w3, w3 = w2.setCell ⟨X, 3, none⟩ (.int .i64 tm) := ⟨_, rfl⟩
    obtain ⟨hl3, hc3⟩ := HL2.out.setTime tm
    rw [← hw3] at hl3 hc3
    rw [← htm, ← hw3]
    have HL3 := hide hl3
    have HC3 := hide hc3
    have HZ3 : Hid (w3.heap.size = w2.heap.size) := hide (by rw [hw3]; simp)
    have n0 : w.heap.size ≠ X := Nat.ne_of_gt HX.out
    have a2 : w3.cell? ⟨X, 2, none⟩ = some av := box_cell hl3.box 2
    have a0 : w3.cell? ⟨w.heap.size, 0, none⟩ = some (.int .i64 o) := by rw [hw3]; exact (Chg.setCell (S := fun k => k = X) w2 X 3 _ rfl).cell c0 n0
    have a1 : w3.cell? ⟨w.heap.size, 1, none⟩ = some (.int .i64 p) := by rw [hw3]; exact (Chg.setCell (S := fun k => k = X) w2 X 3 _ rfl).cell c1 n0
    clear c0 c1 c3 f3 htm hw3 hl3 hc3
    have HBA : Hid (Below w3.heap.size w3 (w3.drew.alloc (.cells #[.int .i64 o, .int .i64 p] 98))) := hide (balloc (Below.refl w3.heap.size w3).drew _)
    have a22 : (w3.alloc (.cells #[.int .i64 o, .int .i64 p] 98)).cell? ⟨X, 2, none⟩ = some av := ((balloc (Below.refl w3.heap.size w3) _).cell (p := ⟨X, 2, none⟩) (World.block_lt_of_cell? _ _ a2)).trans a2
    go_region_law (refine step_appR (by rfl) 92 98 2 16 _ (by kernel_rfl) ad_info (by rfl) (by omega) (.tmp 52) (.tmp 54) (by rfl) 0 av _ _ (by rfl) (ownsRow_same HL3.out.adds fun g hg => HBA.out.block g (HL3.out.adds.lt g hg).2) ⟨w3.heap.size, 0, none⟩ 1 1 (adCells ⟨o, p⟩) (by rfl) (by rfl) (news2 (w := w3.drew)) (by intro u hu; simp [adCells] at hu; rcases hu with rfl | rfl <;> rfl) (by have := HN.out; simp [maxLen]; omega) (by have := HN.out; simp; omega) (Nat.zero_le _) ?_; intro v4 w4 ho4 hg4 hv4; obtain ⟨A4, n4, k4, e4⟩ := own_slice ho4; subst e4; have hb4 := HL3.out.boxed HBA.out hg4 HL3.out.ne.2.1; have a42 : w4.cell? ⟨X, 2, none⟩ = some av := box_cell hb4 2; have f42 := box_free hb4 2; have HPA := hide (HL3.out.pushAd HBA.out ⟨o, p⟩ ho4 hg4 hv4); clear ho4 hg4 hv4 hb4)
    all_goals
      obtain ⟨hl5, hc5⟩ := HPA.out
      obtain ⟨w5, hw5⟩ : ∃ w5, w5 = w4.setCell ⟨X, 2, none⟩ (.slice A4 n4 k4) := ⟨_, rfl⟩
      rw [← hw5] at hl5 hc5 ⊢
      have HF5 := hide (ixFin HBW.out HC3.out hl5 hc5)
      have HDU := hide (due_any X mv _ _ _ p w5 hl5 HOKA.out HP4.out HM.out)
      have HW5 := hide hw5
      clear hl5 hc5 hw5 a42 f42 HPA a2 a0 a1 a22 HBA
      rw [show decide (Ix.due ⟨s.every, s.marks, s.adds ++ [⟨o, p⟩], tm⟩ p) = decide (Ix.due s p) from rfl, ← HBD.out] at HDU
    all_goals
      go_upto_region 7 with (first
        | (go_at_call 57; refine HDU.out.mono ?_; rintro e w6 ⟨rfl, q, rfl⟩)
        | fail)
      obtain ⟨w6, hw6⟩ : ∃ w6, w6 = w5.drewN q := ⟨_, rfl⟩
      have hf6 := ixDrew HF5.out q
      rw [← hw6] at hf6 ⊢
      have HF6 := hide hf6
      have m1 : w6.cell? ⟨X, 1, none⟩ = some mv := box_cell hf6.1.box 1
      have m3 : w6.cell? ⟨X, 3, none⟩ = some (.int .i64 tm) := box_cell hf6.1.box 3
      have HBM : Hid (Below w6.heap.size w6 (w6.drew.alloc (.cells #[.int .i64 o, .int .i64 tm, .int .i64 p] 52))) := hide (balloc (Below.refl w6.heap.size w6).drew _)
      have m11 : (w6.alloc (.cells #[.int .i64 o, .int .i64 tm, .int .i64 p] 52)).cell? ⟨X, 1, none⟩ = some mv := ((balloc (Below.refl w6.heap.size w6) _).cell (p := ⟨X, 1, none⟩) (World.block_lt_of_cell? _ _ m1)).trans m1
      clear hf6 hw6 HDU HF5 HW5
      all_goals
      go_region_law (refine step_appR (by rfl) 36 52 3 24 _ (by kernel_rfl) mk_info (by rfl) (by omega) (.tmp 65) (.tmp 73) (by rfl) 0 mv _ _ (by rfl) (ownsRow_same HF6.out.1.marks fun g hg => HBM.out.block g (HF6.out.1.marks.lt g hg).2) ⟨w6.heap.size, 0, none⟩ 1 1 (mkCells ⟨o, tm, p⟩) (by rfl) (by rfl) (news3 (w := w6.drew)) (by intro u hu; simp [mkCells] at hu; rcases hu with rfl | rfl | rfl <;> rfl) (by have := HM.out; simp [maxLen]; omega) (by have := HM.out; simp; omega) (Nat.zero_le _) ?_; intro v7 w7 ho7 hg7 hv7; obtain ⟨A7, n7, k7, e7⟩ := own_slice ho7; subst e7; have hb7 := HF6.out.1.boxed HBM.out hg7 HF6.out.1.ne.1; have a71 : w7.cell? ⟨X, 1, none⟩ = some mv := box_cell hb7 1; have f71 := box_free hb7 1; have HPM := hide (HF6.out.1.pushMk HBM.out ⟨o, tm, p⟩ ho7 hg7 hv7); clear ho7 hg7 hv7 hb7)
    all_goals
      go_wp2_with fail
      go_ret
      have hd : Ix.due s p := of_decide_eq_true HBD.out.symm
      obtain ⟨hl, hc⟩ := HPM.out
      have h6 := HF6.out.2
      have e : Ix.put s o t p = ⟨s.every, s.marks ++ [⟨o, tm, p⟩], s.adds ++ [⟨o, p⟩], tm⟩ := by rw [Ix.put, if_pos hd, ← HTM.out]
      rw [e]
      exact ⟨rfl, ⟨_, _, hl.mono (up_up h6.size hc.size)⟩, h6.up hc⟩
  | false =>
    go_enter Tryd.func19, Tryd.ntmps19
    go_upto_region 2 with fail
    rw [← HW.out]
    go_upto_region 4 with (first
      | (go_at_call 53; refine (HO.out _).mono ?_; rintro e w2 ⟨rfl, e⟩; subst e)
      | (go_at_call 54; refine (HT.out _).mono ?_; rintro e w2 ⟨rfl, e⟩; subst e)
      | (go_at_call 55; refine (HP.out _).mono ?_; rintro e w2 ⟨rfl, e⟩; subst e)
      | (go_at_call 56; refine HI.out.mono ?_; rintro e w2 ⟨rfl, hb2⟩; have HB2 := hide hb2; clear hb2)
      | fail)
    have HBW : Hid (Below w.heap.size w w2) := hide (HB.out.trans (HB2.out.mono (Nat.le_of_lt HWZ.out)))
    have HL2 : Hid (IxL w2 X mv av s S) := hide (HL.out.same fun k _ hk => HBW.out.block k hk)
    have c0 : w2.cell? ⟨w.heap.size, 0, none⟩ = some (.int .i64 o) := (HB2.out.cell (p := ⟨w.heap.size, 0, none⟩) HWZ.out).trans b0
    have c1 : w2.cell? ⟨w.heap.size, 1, none⟩ = some (.int .i64 p) := (HB2.out.cell (p := ⟨w.heap.size, 1, none⟩) HWZ.out).trans b1
    have c3 : w2.cell? ⟨X, 3, none⟩ = some (.int .i64 s.time) := box_cell HL2.out.box 3
    have f3 := box_free HL2.out.box 3
    clear b0 b1
    go_upto_region 5 with fail
    obtain ⟨tm, htm⟩ : ∃ tm, tm = if s.time < t then t else s.time := ⟨_, rfl⟩
    rw [← htm] at HOKA
    have HTM : Hid (tm = max s.time t) := hide (by rw [htm]; split <;> omega)
    obtain ⟨w3, hw3⟩ : ∃ w3, w3 = w2.setCell ⟨X, 3, none⟩ (.int .i64 tm) := ⟨_, rfl⟩
    obtain ⟨hl3, hc3⟩ := HL2.out.setTime tm
    rw [← hw3] at hl3 hc3
    rw [← htm, ← hw3]
    have HL3 := hide hl3
    have HC3 := hide hc3
    have HZ3 : Hid (w3.heap.size = w2.heap.size) := hide (by rw [hw3]; simp)
    have n0 : w.heap.size ≠ X := Nat.ne_of_gt HX.out
    have a2 : w3.cell? ⟨X, 2, none⟩ = some av := box_cell hl3.box 2
    have a0 : w3.cell? ⟨w.heap.size, 0, none⟩ = some (.int .i64 o) := by rw [hw3]; exact (Chg.setCell (S := fun k => k = X) w2 X 3 _ rfl).cell c0 n0
    have a1 : w3.cell? ⟨w.heap.size, 1, none⟩ = some (.int .i64 p) := by rw [hw3]; exact (Chg.setCell (S := fun k => k = X) w2 X 3 _ rfl).cell c1 n0
    clear c0 c1 c3 f3 htm hw3 hl3 hc3
    have HBA : Hid (Below w3.heap.size w3 (w3.drew.alloc (.cells #[.int .i64 o, .int .i64 p] 98))) := hide (balloc (Below.refl w3.heap.size w3).drew _)
    have a22 : (w3.alloc (.cells #[.int .i64 o, .int .i64 p] 98)).cell? ⟨X, 2, none⟩ = some av := ((balloc (Below.refl w3.heap.size w3) _).cell (p := ⟨X, 2, none⟩) (World.block_lt_of_cell? _ _ a2)).trans a2
    go_region_law (refine step_appR (by rfl) 92 98 2 16 _ (by kernel_rfl) ad_info (by rfl) (by omega) (.tmp 52) (.tmp 54) (by rfl) 0 av _ _ (by rfl) (ownsRow_same HL3.out.adds fun g hg => HBA.out.block g (HL3.out.adds.lt g hg).2) ⟨w3.heap.size, 0, none⟩ 1 1 (adCells ⟨o, p⟩) (by rfl) (by rfl) (news2 (w := w3.drew)) (by intro u hu; simp [adCells] at hu; rcases hu with rfl | rfl <;> rfl) (by have := HN.out; simp [maxLen]; omega) (by have := HN.out; simp; omega) (Nat.zero_le _) ?_; intro v4 w4 ho4 hg4 hv4; obtain ⟨A4, n4, k4, e4⟩ := own_slice ho4; subst e4; have hb4 := HL3.out.boxed HBA.out hg4 HL3.out.ne.2.1; have a42 : w4.cell? ⟨X, 2, none⟩ = some av := box_cell hb4 2; have f42 := box_free hb4 2; have HPA := hide (HL3.out.pushAd HBA.out ⟨o, p⟩ ho4 hg4 hv4); clear ho4 hg4 hv4 hb4)
    all_goals
      obtain ⟨hl5, hc5⟩ := HPA.out
      obtain ⟨w5, hw5⟩ : ∃ w5, w5 = w4.setCell ⟨X, 2, none⟩ (.slice A4 n4 k4) := ⟨_, rfl⟩
      rw [← hw5] at hl5 hc5 ⊢
      have HF5 := hide (ixFin HBW.out HC3.out hl5 hc5)
      have HDU := hide (due_any X mv _ _ _ p w5 hl5 HOKA.out HP4.out HM.out)
      have HW5 := hide hw5
      clear hl5 hc5 hw5 a42 f42 HPA a2 a0 a1 a22 HBA
      rw [show decide (Ix.due ⟨s.every, s.marks, s.adds ++ [⟨o, p⟩], tm⟩ p) = decide (Ix.due s p) from rfl, ← HBD.out] at HDU
    all_goals
      go_wp2_with (first
        | (go_at_call 57; refine HDU.out.mono ?_; rintro e w6 ⟨rfl, q, rfl⟩)
        | fail)
      go_ret
      have hd : ¬ Ix.due s p := of_decide_eq_false HBD.out.symm
      obtain ⟨hl, hc⟩ := ixDrew HF5.out q
      have e : Ix.put s o t p = ⟨s.every, s.marks, s.adds ++ [⟨o, p⟩], tm⟩ := by rw [Ix.put, if_neg hd, ← HTM.out]
      rw [e]
      exact ⟨rfl, ⟨mv, _, hl⟩, hc⟩
/-- Add. -/
theorem ixAdd_any (X : Nat) (s : Ix.St) (S : Nat → Prop) (p4 : Nat → Addr) (o t p z : Int) (w : World) (h : IxAt w X s S) (hok : Ix.Ok s) (hn : s.adds.length ≤ 1000000) (hm : s.marks.length ≤ 1000000) (hs : w.cell? ⟨1, 0, none⟩ = some (errV (p4 4))) :
    Calls Tryd.prog 19 #[.pointer (some ⟨X, 0, none⟩), .int .i64 o, .int .i64 t, .int .i64 p, .int .i64 z] w fun r w' => r = .returned (errR p4 (Ix.add s o t p z).1) ∧ IxAt w' X (Ix.add s o t p z).2 (Up S w w') ∧ Chg S w w' := by
  obtain ⟨mv, av, h⟩ := h
  by_cases hg : Ix.good s o t p z
  · rw [add_good hg]
    exact ixGood_any X mv av s S o t p z w h hok hn hm hg
  · rw [add_bad hg]
    refine (ixBad_any X mv av s S (p4 4) o t p z w h hn hs hg).mono ?_
    rintro e w' ⟨rfl, hb⟩
    exact ⟨rfl, ⟨mv, av, (h.same fun k _ hk => hb.block k hk).mono up_self⟩, Chg.of_below hb⟩
end Go.Proofs.YteeadlefbehhfaaDoor
