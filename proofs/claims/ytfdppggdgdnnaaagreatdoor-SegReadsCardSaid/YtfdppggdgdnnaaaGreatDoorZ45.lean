/-
  What a read of batches is to tell: the statements' own want.
  What a Read of a segment gives is what the statements' own want says, plainly.
-/
import Derived.Test.YtfdppggdgdnnaaaGreatDoorZ21
import Derived.Test.YtfdppggdgdnnaaaGreatDoorZ19
import Derived.Test.YtfdppggdgdnnaaaGreatDoorY24
import Derived.Test.YtfdppggdgdnnaaaGreatDoorY31
import Derived.Test.YtfdppggdgdnnaaaGreatDoorZ18
namespace Go.Proofs.YtfdppggdgdnnaaaGreatDoor
open Go.RowKit Go.Maps

/-- A batch as a read from an offset on has it. -/
def wantC (o : Int) (b : Rc.Bat) : Rc.Bat := if b.base < o then cutB b o (o - b.base).toNat else b
def wantGo (o most : Int) : List Rc.Bat → List Rc.Bat → Int → List Rc.Bat
  | [], out, _ => out
  | b :: l, out, sum =>
    if b.base + b.recs.length ≤ o then wantGo o most l out sum
    else if 0 < out.length ∧ most - sum < ((Rc.bytes (wantC o b)).length : Int) then out
    else if most < sum + ((Rc.bytes (wantC o b)).length : Int) then out ++ [wantC o b]
    else wantGo o most l (out ++ [wantC o b]) (sum + ((Rc.bytes (wantC o b)).length : Int))
theorem wantC_good {b : Rc.Bat} (g : Rc.Good b) (o : Int) (h : ¬ b.base + b.recs.length ≤ o) : Rc.Good (wantC o b) := by
  unfold wantC
  by_cases hc : b.base < o
  · rw [if_pos hc]; exact good_cut g o _ (by omega) (by omega)
  · rw [if_neg hc]; exact g

/-- One more, of records that were there ahead of the row. -/
theorem BRow.appO {w w1 w' : World} {lo l0 : Nat} {wk : World} {v v' : Value} {qs : List PBat} {q : PBat} (h : BRow w lo v qs) (hlo : lo ≤ l0) (hq : NewBat l0 wk q.A q.c q.b) (hqa : Above l0 wk w) (hql : ∀ k, v.ownBlock = some k → k < l0 ∨ wk.heap.size ≤ k) (hw1 : Below w.heap.size w w1)
    (hg : w1.grownBy w' v.ownBlock) (hv : v'.ownBlock = v.ownBlock ∨ v'.ownBlock = some w1.heap.size) (ho : w'.ownsRow lo 41 3 v' (qs.length + 1) (qs.flatMap PBat.cells ++ q.cells)) : BRow w' lo v' (qs ++ [q]) := by
  have key : ∀ (x : PBat), (∃ l0 wk, lo ≤ l0 ∧ NewBat l0 wk x.A x.c x.b ∧ Above l0 wk w ∧ ∀ k, v.ownBlock = some k → k < l0 ∨ wk.heap.size ≤ k) → ∃ l0 wk, lo ≤ l0 ∧ NewBat l0 wk x.A x.c x.b ∧ Above l0 wk w' ∧ ∀ k, v'.ownBlock = some k → k < l0 ∨ wk.heap.size ≤ k := by
    rintro x ⟨m0, mk, h0, h1, h2, h3⟩
    refine ⟨m0, mk, h0, h1, ⟨Nat.le_trans h2.size (Nat.le_trans hw1.size hg.size), fun k hk hl => ?_⟩, fun k hk => ?_⟩
    · have hne : some k ≠ v.ownBlock := fun e => by
        rcases h3 k e.symm with h | h <;> omega
      have hkw : k < w.heap.size := Nat.lt_of_lt_of_le hl h2.size
      exact (hg.block k (Nat.lt_of_lt_of_le hkw hw1.size) hne).trans ((hw1.block k hkw).trans (h2.block k hk hl))
    · rcases hv with e | e
      · exact h3 k (e.symm.trans hk)
      · rw [e] at hk
        injection hk with hk
        have := h2.size
        have := hw1.size
        exact .inr (by omega)
  refine ⟨?_, fun x hx => ?_⟩
  · rw [List.length_append, List.flatMap_append]
    simpa using ho
  · rcases List.mem_append.1 hx with hx | hx
    · exact key x (h.el x hx)
    · obtain rfl := List.mem_singleton.1 hx
      exact key x ⟨l0, wk, hlo, hq, hqa, hql⟩
/-- The cells of a row that is not empty. -/
theorem BRow.at_ {w : World} {lo : Nat} {A : Option Addr} {n c : Nat} {qs : List PBat} (h : BRow w lo (.slice A n c) qs) (hne : 0 < qs.length) :
    ∃ g, A = some ⟨g, 0, none⟩ ∧ n = qs.length ∧ g < w.heap.size ∧ ∀ k (hk : k < qs.length), w.cell? ⟨g, k * 3, none⟩ = some (.int .i64 qs[k].b.base) ∧ w.cell? ⟨g, k * 3 + 1, none⟩ = some (.int .i64 qs[k].b.epoch) ∧ w.cell? ⟨g, k * 3 + 2, none⟩ = some (.slice qs[k].A qs[k].b.recs.length qs[k].c) := by
  rcases h.own.2 with ⟨e, h0⟩ | ⟨g, cap, cur, e, hg, hh, hn, hm, hs, ht⟩
  · omega
  · injection e with e1 e2 e3
    refine ⟨g, e1, e2, ?_, fun k hk => ?_⟩
    · rcases Nat.lt_or_ge g w.heap.size with h | h
      · exact h
      · rw [Array.getElem?_eq_none h] at hh; cases hh
    · have hcells : ∀ j u, j < 3 → (qs[k].cells)[j]? = some u → w.cell? ⟨g, k * 3 + j, none⟩ = some u := by
        intro j u hj hu
        have h1 : (qs.flatMap PBat.cells)[k * 3 + j]? = some u := by
          have e1 : qs.flatMap PBat.cells = (qs.take k).flatMap PBat.cells ++ (qs[k].cells ++ (qs.drop (k + 1)).flatMap PBat.cells) := by
            conv => lhs; rw [← List.take_append_drop k qs, List.drop_eq_getElem_cons hk]
            rw [List.flatMap_append, List.flatMap_cons]
          have e2 : ((qs.take k).flatMap PBat.cells).length = k * 3 := by rw [bcells_len, List.length_take]; congr 1; omega
          rw [e1, List.getElem?_append_right (by rw [e2]; omega), e2, Nat.add_sub_cancel_left, List.getElem?_append_left (by rw [PBat.cells_len]; exact hj)]
          exact hu
        have h2 := h.own.cells (g := g) (by rw [e1]; rfl) _ _ h1
        rw [show (⟨g, 0, none⟩ : Addr).add (k * 3 + j) = ⟨g, k * 3 + j, none⟩ from by rw [Addr.add_lit]; congr 1; omega] at h2
        exact h2
      exact ⟨hcells 0 _ (by omega) rfl, hcells 1 _ (by omega) rfl, hcells 2 _ (by omega) rfl⟩

set_option maxRecDepth 100000 in
set_option maxHeartbeats 4000000 in
theorem want_any (A : Option Addr) (cap n lo : Nat) (qs0 : List PBat) (w : World) (o most : Int) (hn : qs0.length = n) (hn2 : n ≤ 20) (hlo : lo ≤ w.heap.size) (h : BRow w lo (.slice A n cap) qs0) (hg : ∀ q ∈ qs0, Rc.Good q.b)
    (ho : -9223372036854775808 ≤ o ∧ o ≤ 9223372036854775807) (hm : -9223372036854775808 ≤ most ∧ most ≤ 9223372036854775807) :
    Calls Tryz.prog 31 #[.slice A n cap, .int .i64 o, .int .i64 most] w fun e w' => ∃ v, e = .returned v ∧ (∃ qs, BRow w' lo v qs ∧ qs.map (·.b) = wantGo o most (qs0.map (·.b)) [] 0) ∧ Below w.heap.size w w' := by
  have HQ0 := hide h
  have HGD := hide hg
  have HN := hide hn
  have HLO := hide hlo
  clear h hg hn hlo
  go_enter Tryz.func31, Tryz.ntmps31
  go_wp2_with fail
  go_loopw [7, 8, 9] (fun v s i wr => ∃ (k : Nat) (qs : List PBat) (sm : Nat), k ≤ n ∧ i = .int .i64 k ∧ s = .int .i64 sm ∧ BRow wr lo v qs ∧ (∀ b, v.ownBlock = some b → w.heap.size ≤ b) ∧ Below w.heap.size w wr ∧ qs.length ≤ k ∧ sm ≤ 100000 * k ∧ ((sm = 0 ∧ qs.length = 0) ∨ (sm : Int) ≤ most) ∧ wantGo o most ((qs0.drop k).map (·.b)) (qs.map (·.b)) sm = wantGo o most (qs0.map (·.b)) [] 0) (fun _ _ i _ => n - (intOf i).toNat)
  case atStart => exact ⟨0, [], 0, Nat.zero_le _, rfl, rfl, BRow.nil _ _, fun b hb => by simp [Value.ownBlock] at hb, Below.refl _ _, Nat.le_refl _, Nat.zero_le _, .inl ⟨rfl, rfl⟩, rfl⟩
  case round =>
    obtain ⟨k, qs, sm, hk, rfl, rfl, hrow, hown, hb, hqk, hsk, hsm, hgo⟩ := hrel
    have HRW := hide hrow
    have HOWN := hide hown
    have HBK := hide hb
    have HSM := hide hsm
    have HGO := hide hgo
    obtain ⟨Av, cv, rfl, hqc, hqm, -⟩ := hrow.val
    clear hrow hown hb hsm hgo
    by_cases hlt : k < n
    · have dln : decide (k < n) = true := decide_eq_true hlt
      have hkl : k < qs0.length := by rw [HN.out]; exact hlt
      obtain ⟨g0, hA, -, hg0, hcl⟩ := HQ0.out.at_ (by omega)
      subst hA
      obtain ⟨c0, c1, c2⟩ := hcl k hkl
      have c0 := (HBK.out.cell (p := ⟨g0, k * 3, none⟩) hg0).trans c0
      have c1 := (HBK.out.cell (p := ⟨g0, k * 3 + 1, none⟩) hg0).trans c1
      have c2 := (HBK.out.cell (p := ⟨g0, k * 3 + 2, none⟩) hg0).trans c2
      obtain ⟨l0, wk, hl0, hnew, hab, -⟩ := HQ0.out.el qs0[k] (List.getElem_mem hkl)
      have hgd := HGD.out qs0[k] (List.getElem_mem hkl)
      have hgo := HGO.out
      rw [List.drop_eq_getElem_cons hkl, List.map_cons, wantGo, List.length_map] at hgo
      generalize qs0[k] = x at *
      have HL0 := hide hl0
      have HNEW := hide hnew
      have HAB := hide hab
      have HWK := hide hab.size
      have HGX := hide hgd
      have g1 := hgd.n1
      have g2 := hgd.base0
      have g3 := hgd.base1
      have HNX := hide (fun W => rnext_any x.b x.A x.c x.b.recs.length W rfl g2 (by omega) (by omega))
      unfold batV at HNX
      have HGO1 := hide hgo
      clear hl0 hnew hab hgd hgo hcl hg0 HGO
      obtain ⟨ba, hba⟩ : ∃ ba, ba = x.b.base := ⟨_, rfl⟩
      obtain ⟨ep, hep⟩ : ∃ ep, ep = x.b.epoch := ⟨_, rfl⟩
      obtain ⟨m, hmm⟩ : ∃ m, m = x.b.recs.length := ⟨_, rfl⟩
      obtain ⟨Ax, hax⟩ : ∃ Ax, Ax = x.A := ⟨_, rfl⟩
      obtain ⟨cx, hcx⟩ : ∃ cx, cx = x.c := ⟨_, rfl⟩
      rw [← hba] at c0 g2 g3
      rw [← hep] at c1
      rw [← hmm] at c2 g1 g3
      rw [← hax, ← hcx] at c2
      rw [← hba, ← hep, ← hmm, ← hax, ← hcx] at HNX
      have HX := hide (And.intro hba (And.intro hep (And.intro hmm (And.intro hax hcx))))
      clear hba hep hmm hax hcx hkl
      go_upto_region 7 with fail
      obtain ⟨z0, z1, z2⟩ := made3 wr (.int .i64 ba) (.int .i64 ep) (.slice Ax m cx) 41
      have f0 : (wr.alloc (.cells #[.int .i64 ba, .int .i64 ep, .slice Ax m cx] 41)).frozen? ⟨wr.heap.size, 0, none⟩ = false := by rw [World.frozen?_alloc_mark]; rfl
      have f1 : (wr.alloc (.cells #[.int .i64 ba, .int .i64 ep, .slice Ax m cx] 41)).frozen? ⟨wr.heap.size, 1, none⟩ = false := by rw [World.frozen?_alloc_mark]; rfl
      have f2 : (wr.alloc (.cells #[.int .i64 ba, .int .i64 ep, .slice Ax m cx] 41)).frozen? ⟨wr.heap.size, 2, none⟩ = false := by rw [World.frozen?_alloc_mark]; rfl
      have HB1 : Hid (Below wr.heap.size wr (wr.alloc (.cells #[.int .i64 ba, .int .i64 ep, .slice Ax m cx] 41))) := hide (balloc (Below.refl _ _) _)
      have hgz : wr.heap.size < (wr.alloc (.cells #[.int .i64 ba, .int .i64 ep, .slice Ax m cx] 41)).heap.size := by simp
      clear c0 c1 c2
      obtain ⟨g, hgg⟩ : ∃ g, g = wr.heap.size := ⟨_, rfl⟩
      rw [← hgg] at z0 z1 z2 f0 f1 f2 hgz ⊢
      have HGG := hide hgg
      clear hgg
      generalize wr.alloc (.cells #[.int .i64 ba, .int .i64 ep, .slice Ax m cx] 41) = W1 at *
      by_cases ha : ba + (m : Int) ≤ o
      · have dA : decide (ba + (m : Int) ≤ o) = true := decide_eq_true ha
        have hgo := HGO1.out
        rw [← HX.out.1, ← HX.out.2.2.1, if_pos ha] at hgo
        have HGO2 := hide hgo
        clear hgo HGO1 ha
        go_wp2_with (first
          | (go_at_call 18; refine (HNX.out W1).mono ?_; rintro e w2 ⟨rfl, hb2⟩; have HB2 := hide (HB1.out.trans (hb2.mono HB1.out.size)); clear hb2 HB1)
          | fail)
        go_roundw
        case rel => exact ⟨k + 1, qs, sm, by omega, by go_num, rfl, HRW.out.below HB2.out, HOWN.out, HBK.out.trans (HB2.out.mono HBK.out.size), by omega, by omega, HSM.out, HGO2.out⟩
        case measure => simp [intOf]; omega
      · have dA : decide (ba + (m : Int) ≤ o) = false := decide_eq_false ha
        have hwg := wantC_good HGX.out o (by rw [← HX.out.1, ← HX.out.2.2.1]; exact ha)
        have hgo := HGO1.out
        rw [← HX.out.1, ← HX.out.2.2.1, if_neg ha] at hgo
        have HGO2 := hide hgo
        have HWG := hide hwg
        clear hgo HGO1 hwg
        by_cases hc : ba < o
        · have dC : decide (ba < o) = true := decide_eq_true hc
          have hq1 : o - ba = ((o - ba).toNat : Int) := by omega
          have hw1 : IntKind.i64.wrap (o - ba) = ((o - ba).toNat : Int) := by rw [IntKind.wrap_i64]; omega
          have hcut := HNEW.out.cut o (o - ba).toNat (by rw [← HX.out.2.2.1]; omega) ho
          rw [← HX.out.2.2.2.1, ← HX.out.2.2.2.2] at hcut
          have hmc : m ≤ cx := by have := HNEW.out.isBat.le; rw [← HX.out.2.2.1, ← HX.out.2.2.2.2] at this; exact this
          have hqm2 : (o - ba).toNat ≤ m := by omega
          have kcut : ∀ W, (Instr.sliceAt 39 (.slice Ax m cx) (some (.int .i64 ((o - ba).toNat : Int))) none none).run Tryz.prog W = .ok (.slice (cutR Ax cx (o - ba).toNat) (m - (o - ba).toNat) (cx - (o - ba).toNat)) W := fun W => run_cut_rec W Ax m cx (o - ba).toNat hqm2 hmc
          have hqe : wantC o x.b = cutB x.b o (o - ba).toNat := by unfold wantC; rw [← HX.out.1, if_pos hc]
          rw [← hqe] at hcut
          have HNQ := hide hcut
          have HQE := hide hqe
          have HLQ : Hid ((wantC o x.b).base = o ∧ (wantC o x.b).epoch = ep ∧ (wantC o x.b).recs.length = m - (o - ba).toNat) := hide (by rw [hqe]; refine ⟨rfl, HX.out.2.1.symm, ?_⟩; simp only [cutB, List.length_drop]; rw [← HX.out.2.2.1])
          clear hcut hqe hq1 hmc hqm2
          generalize (o - ba).toNat = q at *
          go_upto_region 9 with (first
            | (go_at_call 18; refine (HNX.out W1).mono ?_; rintro e w2 ⟨rfl, hb2⟩; have HB2 := hide (HB1.out.trans (hb2.mono HB1.out.size)); have y0 := (hb2.cell (p := ⟨g, 0, none⟩) hgz).trans z0; have y1 := (hb2.cell (p := ⟨g, 1, none⟩) hgz).trans z1; have y2 := (hb2.cell (p := ⟨g, 2, none⟩) hgz).trans z2; have u0 := (hb2.frozen (p := ⟨g, 0, none⟩) hgz).trans f0; have u1 := (hb2.frozen (p := ⟨g, 1, none⟩) hgz).trans f1; have u2 := (hb2.frozen (p := ⟨g, 2, none⟩) hgz).trans f2; have hgz2 := Nat.lt_of_lt_of_le hgz hb2.size; clear hb2 HB1 z0 z1 z2 f0 f1 f2 hgz)
            | fail)
          go_still_tail 11, (by kernel_rfl)
          change wpList _ _ _ _ _ w2.drew
          have y0 : w2.drew.cell? ⟨g, 0, none⟩ = some (.int .i64 ba) := y0
          have y1 : w2.drew.cell? ⟨g, 1, none⟩ = some (.int .i64 ep) := y1
          have y2 : w2.drew.cell? ⟨g, 2, none⟩ = some (.slice Ax m cx) := y2
          have u0 : w2.drew.frozen? ⟨g, 0, none⟩ = false := u0
          have u1 : w2.drew.frozen? ⟨g, 1, none⟩ = false := u1
          have u2 : w2.drew.frozen? ⟨g, 2, none⟩ = false := u2
          have hgz2 : g < w2.drew.heap.size := hgz2
          have HB3 : Hid (Below wr.heap.size wr w2.drew) := hide HB2.out.drew
          clear HB2
          generalize w2.drew = w3 at *
          go_upto_region 10 with fail
          have p0 := (World.cell?_setCell_other (w3.setCell ⟨g, 0, none⟩ (.int .i64 o) |>.setCell ⟨g, 1, none⟩ (.int .i64 ep)) ⟨g, 2, none⟩ ⟨g, 0, none⟩ (.slice (cutR Ax cx q) (m - q) (cx - q)) (by simp)).trans ((World.cell?_setCell_other (w3.setCell ⟨g, 0, none⟩ (.int .i64 o)) ⟨g, 1, none⟩ ⟨g, 0, none⟩ (.int .i64 ep) (by simp)).trans (World.cell?_setCell_same _ _ (.int .i64 o) y0))
          have p1 := (World.cell?_setCell_other (w3.setCell ⟨g, 0, none⟩ (.int .i64 o) |>.setCell ⟨g, 1, none⟩ (.int .i64 ep)) ⟨g, 2, none⟩ ⟨g, 1, none⟩ (.slice (cutR Ax cx q) (m - q) (cx - q)) (by simp)).trans (World.cell?_setCell_same _ _ (.int .i64 ep) ((World.cell?_setCell_other w3 ⟨g, 0, none⟩ ⟨g, 1, none⟩ (.int .i64 o) (by simp)).trans y1))
          have p2 := World.cell?_setCell_same (w3.setCell ⟨g, 0, none⟩ (.int .i64 o) |>.setCell ⟨g, 1, none⟩ (.int .i64 ep)) _ (.slice (cutR Ax cx q) (m - q) (cx - q)) ((World.cell?_setCell_other _ ⟨g, 1, none⟩ ⟨g, 2, none⟩ (.int .i64 ep) (by simp)).trans ((World.cell?_setCell_other w3 ⟨g, 0, none⟩ ⟨g, 2, none⟩ (.int .i64 o) (by simp)).trans y2))
          have HB4 : Hid (Below wr.heap.size wr (((w3.setCell ⟨g, 0, none⟩ (.int .i64 o)).setCell ⟨g, 1, none⟩ (.int .i64 ep)).setCell ⟨g, 2, none⟩ (.slice (cutR Ax cx q) (m - q) (cx - q)))) := hide (((HB3.out.setCell (p := ⟨g, 0, none⟩) (Nat.le_of_eq HGG.out.symm) _).setCell (p := ⟨g, 1, none⟩) (Nat.le_of_eq HGG.out.symm) _).setCell (p := ⟨g, 2, none⟩) (Nat.le_of_eq HGG.out.symm) _)
          have hgz4 : g < (((w3.setCell ⟨g, 0, none⟩ (.int .i64 o)).setCell ⟨g, 1, none⟩ (.int .i64 ep)).setCell ⟨g, 2, none⟩ (.slice (cutR Ax cx q) (m - q) (cx - q))).heap.size := by simpa using hgz2
          clear y0 y1 y2 u0 u1 u2 hgz2 HB3
          generalize ((w3.setCell ⟨g, 0, none⟩ (.int .i64 o)).setCell ⟨g, 1, none⟩ (.int .i64 ep)).setCell ⟨g, 2, none⟩ (.slice (cutR Ax cx q) (m - q) (cx - q)) = w4 at *
          generalize cutR Ax cx q = Aq at *
          generalize m - q = mq at *
          generalize cx - q = cq at *
          have HAB4 := hide (HAB.out.trans (Above.of_below (HBK.out.trans (HB4.out.mono HBK.out.size))))
          have HSZ := hide (rsize1_any (wantC o x.b) Aq cq mq w4 (HNQ.out w4 HAB4.out) HWG.out HLQ.out.2.2)
          unfold batV at HSZ
          rw [HLQ.out.1, HLQ.out.2.1] at HSZ
          have hnb := bytes_most _ HWG.out
          have HCS : Hid (PBat.cells ⟨wantC o x.b, Aq, cq⟩ = [.int .i64 o, .int .i64 ep, .slice Aq mq cq]) := hide (by unfold PBat.cells; rw [HLQ.out.1, HLQ.out.2.1, HLQ.out.2.2])
          generalize wantC o x.b = C at *
          clear HNX
          generalize (Rc.bytes C).length = nb at *
          have hsmf := HSM.out
          have hws : IntKind.i64.wrap (most - (sm : Int)) = most - sm := by rw [IntKind.wrap_i64]; omega
          have hwa : IntKind.i64.wrap ((sm : Int) + (nb : Int)) = (sm : Int) + (nb : Int) := by rw [IntKind.wrap_i64]; omega
          clear hsmf
          by_cases hE : 0 < qs.length ∧ most - (sm : Int) < (nb : Int)
          · have hgo := HGO2.out
            rw [if_pos hE] at hgo
            have HGO3 := hide hgo
            have dq : decide (0 < qs.length) = true := decide_eq_true hE.1
            have de : decide (most - (sm : Int) < (nb : Int)) = true := decide_eq_true hE.2
            clear hgo HGO2 hE
            go_wp2_with (first
              | (go_at_call 46; refine HSZ.out.mono ?_; rintro e w5 ⟨rfl, hb5⟩; have HB5 := hide (HB4.out.trans (hb5.mono HB4.out.size)); have v0 := (hb5.cell (p := ⟨g, 0, none⟩) hgz4).trans p0; have v1 := (hb5.cell (p := ⟨g, 1, none⟩) hgz4).trans p1; have v2 := (hb5.cell (p := ⟨g, 2, none⟩) hgz4).trans p2; have HA5 := hide (HAB4.out.trans (Above.of_below hb5)); clear hb5 HSZ HB4 HAB4)
              | fail)
            go_ret
            exact ⟨_, rfl, ⟨qs, HRW.out.below HB5.out, HGO3.out⟩, HBK.out.trans (HB5.out.mono HBK.out.size)⟩
          · have hgo := HGO2.out
            rw [if_neg hE] at hgo
            have HGO3 := hide hgo
            clear hgo HGO2
            obtain ⟨i0, hi, hz, hs1, hby⟩ := info_parts batch_info
            have hqk2 : qs.length ≤ 20 := by omega
            by_cases hY : most < (sm : Int) + (nb : Int)
            · have hgo := HGO3.out
              rw [if_pos hY] at hgo
              have HGO4 := hide hgo
              have dy : decide (most < (sm : Int) + (nb : Int)) = true := decide_eq_true (by omega)
              clear hgo HGO3 hY
              by_cases hl : 0 < qs.length
              · have dq : decide (0 < qs.length) = true := decide_eq_true hl
                have de : decide (most - (sm : Int) < (nb : Int)) = false := decide_eq_false (fun h => hE ⟨hl, h⟩)
                clear hE
                go_upto_region 13 with (first
                  | (go_at_call 46; refine HSZ.out.mono ?_; rintro e w5 ⟨rfl, hb5⟩; have HB5 := hide (HB4.out.trans (hb5.mono HB4.out.size)); have v0 := (hb5.cell (p := ⟨g, 0, none⟩) hgz4).trans p0; have v1 := (hb5.cell (p := ⟨g, 1, none⟩) hgz4).trans p1; have v2 := (hb5.cell (p := ⟨g, 2, none⟩) hgz4).trans p2; have HA5 := hide (HAB4.out.trans (Above.of_below hb5)); clear hb5 HSZ HB4 HAB4)
                  | fail)
                have HR5 := hide (HRW.out.below HB5.out)
                have HBW5 := hide (HBK.out.trans (HB5.out.mono HBK.out.size))
                have HBAL : Hid (Below w5.heap.size w5 (w5.alloc (.cells #[.int .i64 o, .int .i64 ep, .slice Aq mq cq] 41))) := hide (balloc (Below.refl _ _) _)
                go_wp2_with (first
                  | (at_builtin; refine wpList_append_own_at (w := w5.alloc _) rfl (.tmp 56) (.tmp 58) 26 rfl lo 41 i0 _ 3 40 Tryz.underlying26 hi hz hs1 hby rfl (by omega) (.slice Av qs.length cv) qs.length (qs.flatMap PBat.cells) rfl (HR5.out.own.alloc _) ⟨w5.heap.size, 0, none⟩ 1 1 [.int .i64 o, .int .i64 ep, .slice Aq mq cq] rfl rfl (cells_three _ _ _ _ _) (HCS.out ▸ PBat.cells_one _) (by simp only [maxLen]; omega) (by omega) (by have := HLO.out; have := HBW5.out.size; simp; omega) ?_; intro v6 w6 hown6 hg6 hnil6 hat6; rw [← HCS.out] at hown6; have HROW6 := hide (HR5.out.appO (q := ⟨C, Aq, cq⟩) HL0.out HNQ.out HA5.out (fun b hb => .inr (Nat.le_trans HWK.out (HOWN.out b hb))) HBAL.out hg6 hat6 hown6); have HB6 := hide (HBW5.out.trans ((HBAL.out.mono HBW5.out.size).trans ((Below.refl w.heap.size _).grown hg6 (by have := HBW5.out.size; simp; omega) (fun b hb => HOWN.out b hb)))); have HOWN6 : Hid (∀ b, v6.ownBlock = some b → w.heap.size ≤ b) := hide (fun b hb => by rcases hat6 with h | h; exact HOWN.out b (h ▸ hb); have h1 := h.symm.trans hb; injection h1 with h1; have := HBW5.out.size; simp at h1; omega); clear hown6 hg6 hnil6 hat6)
                  | fail)
                go_ret
                exact ⟨v6, rfl, ⟨qs ++ [⟨C, Aq, cq⟩], HROW6.out, by rw [List.map_append]; exact HGO4.out⟩, HB6.out⟩
              · have dq : decide (0 < qs.length) = false := decide_eq_false hl
                clear hE
                go_upto_region 13 with (first
                  | (go_at_call 46; refine HSZ.out.mono ?_; rintro e w5 ⟨rfl, hb5⟩; have HB5 := hide (HB4.out.trans (hb5.mono HB4.out.size)); have v0 := (hb5.cell (p := ⟨g, 0, none⟩) hgz4).trans p0; have v1 := (hb5.cell (p := ⟨g, 1, none⟩) hgz4).trans p1; have v2 := (hb5.cell (p := ⟨g, 2, none⟩) hgz4).trans p2; have HA5 := hide (HAB4.out.trans (Above.of_below hb5)); clear hb5 HSZ HB4 HAB4)
                  | fail)
                have HR5 := hide (HRW.out.below HB5.out)
                have HBW5 := hide (HBK.out.trans (HB5.out.mono HBK.out.size))
                have HBAL : Hid (Below w5.heap.size w5 (w5.alloc (.cells #[.int .i64 o, .int .i64 ep, .slice Aq mq cq] 41))) := hide (balloc (Below.refl _ _) _)
                go_wp2_with (first
                  | (at_builtin; refine wpList_append_own_at (w := w5.alloc _) rfl (.tmp 56) (.tmp 58) 26 rfl lo 41 i0 _ 3 40 Tryz.underlying26 hi hz hs1 hby rfl (by omega) (.slice Av qs.length cv) qs.length (qs.flatMap PBat.cells) rfl (HR5.out.own.alloc _) ⟨w5.heap.size, 0, none⟩ 1 1 [.int .i64 o, .int .i64 ep, .slice Aq mq cq] rfl rfl (cells_three _ _ _ _ _) (HCS.out ▸ PBat.cells_one _) (by simp only [maxLen]; omega) (by omega) (by have := HLO.out; have := HBW5.out.size; simp; omega) ?_; intro v6 w6 hown6 hg6 hnil6 hat6; rw [← HCS.out] at hown6; have HROW6 := hide (HR5.out.appO (q := ⟨C, Aq, cq⟩) HL0.out HNQ.out HA5.out (fun b hb => .inr (Nat.le_trans HWK.out (HOWN.out b hb))) HBAL.out hg6 hat6 hown6); have HB6 := hide (HBW5.out.trans ((HBAL.out.mono HBW5.out.size).trans ((Below.refl w.heap.size _).grown hg6 (by have := HBW5.out.size; simp; omega) (fun b hb => HOWN.out b hb)))); have HOWN6 : Hid (∀ b, v6.ownBlock = some b → w.heap.size ≤ b) := hide (fun b hb => by rcases hat6 with h | h; exact HOWN.out b (h ▸ hb); have h1 := h.symm.trans hb; injection h1 with h1; have := HBW5.out.size; simp at h1; omega); clear hown6 hg6 hnil6 hat6)
                  | fail)
                go_ret
                exact ⟨v6, rfl, ⟨qs ++ [⟨C, Aq, cq⟩], HROW6.out, by rw [List.map_append]; exact HGO4.out⟩, HB6.out⟩
            · have hgo := HGO3.out
              rw [if_neg hY] at hgo
              have HGO4 := hide hgo
              have dy : decide (most < (sm : Int) + (nb : Int)) = false := decide_eq_false (by omega)
              have hY2 : ((sm + nb : Nat) : Int) ≤ most := by omega
              have HY2 := hide hY2
              clear hgo HGO3 hY hY2
              by_cases hl : 0 < qs.length
              · have dq : decide (0 < qs.length) = true := decide_eq_true hl
                have de : decide (most - (sm : Int) < (nb : Int)) = false := decide_eq_false (fun h => hE ⟨hl, h⟩)
                clear hE
                go_upto_region 13 with (first
                  | (go_at_call 46; refine HSZ.out.mono ?_; rintro e w5 ⟨rfl, hb5⟩; have HB5 := hide (HB4.out.trans (hb5.mono HB4.out.size)); have v0 := (hb5.cell (p := ⟨g, 0, none⟩) hgz4).trans p0; have v1 := (hb5.cell (p := ⟨g, 1, none⟩) hgz4).trans p1; have v2 := (hb5.cell (p := ⟨g, 2, none⟩) hgz4).trans p2; have HA5 := hide (HAB4.out.trans (Above.of_below hb5)); clear hb5 HSZ HB4 HAB4)
                  | fail)
                have HR5 := hide (HRW.out.below HB5.out)
                have HBW5 := hide (HBK.out.trans (HB5.out.mono HBK.out.size))
                have HBAL : Hid (Below w5.heap.size w5 (w5.alloc (.cells #[.int .i64 o, .int .i64 ep, .slice Aq mq cq] 41))) := hide (balloc (Below.refl _ _) _)
                go_wp2_with (first
                  | (at_builtin; refine wpList_append_own_at (w := w5.alloc _) rfl (.tmp 56) (.tmp 58) 26 rfl lo 41 i0 _ 3 40 Tryz.underlying26 hi hz hs1 hby rfl (by omega) (.slice Av qs.length cv) qs.length (qs.flatMap PBat.cells) rfl (HR5.out.own.alloc _) ⟨w5.heap.size, 0, none⟩ 1 1 [.int .i64 o, .int .i64 ep, .slice Aq mq cq] rfl rfl (cells_three _ _ _ _ _) (HCS.out ▸ PBat.cells_one _) (by simp only [maxLen]; omega) (by omega) (by have := HLO.out; have := HBW5.out.size; simp; omega) ?_; intro v6 w6 hown6 hg6 hnil6 hat6; rw [← HCS.out] at hown6; have HROW6 := hide (HR5.out.appO (q := ⟨C, Aq, cq⟩) HL0.out HNQ.out HA5.out (fun b hb => .inr (Nat.le_trans HWK.out (HOWN.out b hb))) HBAL.out hg6 hat6 hown6); have HB6 := hide (HBW5.out.trans ((HBAL.out.mono HBW5.out.size).trans ((Below.refl w.heap.size _).grown hg6 (by have := HBW5.out.size; simp; omega) (fun b hb => HOWN.out b hb)))); have HOWN6 : Hid (∀ b, v6.ownBlock = some b → w.heap.size ≤ b) := hide (fun b hb => by rcases hat6 with h | h; exact HOWN.out b (h ▸ hb); have h1 := h.symm.trans hb; injection h1 with h1; have := HBW5.out.size; simp at h1; omega); clear hown6 hg6 hnil6 hat6)
                  | fail)
                go_roundw
                case rel => exact ⟨k + 1, qs ++ [⟨C, Aq, cq⟩], sm + nb, by omega, by go_num, by rw [Int.natCast_add], HROW6.out, HOWN6.out, HB6.out, by simp; omega, by omega, .inr HY2.out, by rw [List.map_append]; exact HGO4.out⟩
                case measure => simp [intOf]; omega
              · have dq : decide (0 < qs.length) = false := decide_eq_false hl
                clear hE
                go_upto_region 13 with (first
                  | (go_at_call 46; refine HSZ.out.mono ?_; rintro e w5 ⟨rfl, hb5⟩; have HB5 := hide (HB4.out.trans (hb5.mono HB4.out.size)); have v0 := (hb5.cell (p := ⟨g, 0, none⟩) hgz4).trans p0; have v1 := (hb5.cell (p := ⟨g, 1, none⟩) hgz4).trans p1; have v2 := (hb5.cell (p := ⟨g, 2, none⟩) hgz4).trans p2; have HA5 := hide (HAB4.out.trans (Above.of_below hb5)); clear hb5 HSZ HB4 HAB4)
                  | fail)
                have HR5 := hide (HRW.out.below HB5.out)
                have HBW5 := hide (HBK.out.trans (HB5.out.mono HBK.out.size))
                have HBAL : Hid (Below w5.heap.size w5 (w5.alloc (.cells #[.int .i64 o, .int .i64 ep, .slice Aq mq cq] 41))) := hide (balloc (Below.refl _ _) _)
                go_wp2_with (first
                  | (at_builtin; refine wpList_append_own_at (w := w5.alloc _) rfl (.tmp 56) (.tmp 58) 26 rfl lo 41 i0 _ 3 40 Tryz.underlying26 hi hz hs1 hby rfl (by omega) (.slice Av qs.length cv) qs.length (qs.flatMap PBat.cells) rfl (HR5.out.own.alloc _) ⟨w5.heap.size, 0, none⟩ 1 1 [.int .i64 o, .int .i64 ep, .slice Aq mq cq] rfl rfl (cells_three _ _ _ _ _) (HCS.out ▸ PBat.cells_one _) (by simp only [maxLen]; omega) (by omega) (by have := HLO.out; have := HBW5.out.size; simp; omega) ?_; intro v6 w6 hown6 hg6 hnil6 hat6; rw [← HCS.out] at hown6; have HROW6 := hide (HR5.out.appO (q := ⟨C, Aq, cq⟩) HL0.out HNQ.out HA5.out (fun b hb => .inr (Nat.le_trans HWK.out (HOWN.out b hb))) HBAL.out hg6 hat6 hown6); have HB6 := hide (HBW5.out.trans ((HBAL.out.mono HBW5.out.size).trans ((Below.refl w.heap.size _).grown hg6 (by have := HBW5.out.size; simp; omega) (fun b hb => HOWN.out b hb)))); have HOWN6 : Hid (∀ b, v6.ownBlock = some b → w.heap.size ≤ b) := hide (fun b hb => by rcases hat6 with h | h; exact HOWN.out b (h ▸ hb); have h1 := h.symm.trans hb; injection h1 with h1; have := HBW5.out.size; simp at h1; omega); clear hown6 hg6 hnil6 hat6)
                  | fail)
                go_roundw
                case rel => exact ⟨k + 1, qs ++ [⟨C, Aq, cq⟩], sm + nb, by omega, by go_num, by rw [Int.natCast_add], HROW6.out, HOWN6.out, HB6.out, by simp; omega, by omega, .inr HY2.out, by rw [List.map_append]; exact HGO4.out⟩
                case measure => simp [intOf]; omega
        · have dC : decide (ba < o) = false := decide_eq_false hc
          have HQE : Hid (wantC o x.b = x.b) := hide (by unfold wantC; rw [← HX.out.1, if_neg hc])
          go_upto_region 10 with (first
            | (go_at_call 18; refine (HNX.out W1).mono ?_; rintro e w2 ⟨rfl, hb2⟩; have HB2 := hide (HB1.out.trans (hb2.mono HB1.out.size)); have y0 := (hb2.cell (p := ⟨g, 0, none⟩) hgz).trans z0; have y1 := (hb2.cell (p := ⟨g, 1, none⟩) hgz).trans z1; have y2 := (hb2.cell (p := ⟨g, 2, none⟩) hgz).trans z2; have u0 := (hb2.frozen (p := ⟨g, 0, none⟩) hgz).trans f0; have u1 := (hb2.frozen (p := ⟨g, 1, none⟩) hgz).trans f1; have u2 := (hb2.frozen (p := ⟨g, 2, none⟩) hgz).trans f2; have hgz2 := Nat.lt_of_lt_of_le hgz hb2.size; clear hb2 HB1 z0 z1 z2 f0 f1 f2 hgz)
            | fail)
          have hqe := HQE.out
          have HNQ : Hid (NewBat l0 wk Ax cx (wantC o x.b)) := hide (by rw [hqe, HX.out.2.2.2.1, HX.out.2.2.2.2]; exact HNEW.out)
          have HLQ : Hid ((wantC o x.b).base = ba ∧ (wantC o x.b).epoch = ep ∧ (wantC o x.b).recs.length = m) := hide (by rw [hqe]; exact ⟨HX.out.1.symm, HX.out.2.1.symm, HX.out.2.2.1.symm⟩)
          have HB4 := HB2
          clear hqe HB2 u0 u1 u2
          have HAB4 := hide (HAB.out.trans (Above.of_below (HBK.out.trans (HB4.out.mono HBK.out.size))))
          have HSZ := hide (rsize1_any (wantC o x.b) Ax cx m w2 (HNQ.out w2 HAB4.out) HWG.out HLQ.out.2.2)
          unfold batV at HSZ
          rw [HLQ.out.1, HLQ.out.2.1] at HSZ
          have hnb := bytes_most _ HWG.out
          have HCS : Hid (PBat.cells ⟨wantC o x.b, Ax, cx⟩ = [.int .i64 ba, .int .i64 ep, .slice Ax m cx]) := hide (by unfold PBat.cells; rw [HLQ.out.1, HLQ.out.2.1, HLQ.out.2.2])
          generalize wantC o x.b = C at *
          clear HNX
          generalize (Rc.bytes C).length = nb at *
          have hsmf := HSM.out
          have hws : IntKind.i64.wrap (most - (sm : Int)) = most - sm := by rw [IntKind.wrap_i64]; omega
          have hwa : IntKind.i64.wrap ((sm : Int) + (nb : Int)) = (sm : Int) + (nb : Int) := by rw [IntKind.wrap_i64]; omega
          clear hsmf
          by_cases hE : 0 < qs.length ∧ most - (sm : Int) < (nb : Int)
          · have hgo := HGO2.out
            rw [if_pos hE] at hgo
            have HGO3 := hide hgo
            have dq : decide (0 < qs.length) = true := decide_eq_true hE.1
            have de : decide (most - (sm : Int) < (nb : Int)) = true := decide_eq_true hE.2
            clear hgo HGO2 hE
            go_wp2_with (first
              | (go_at_call 46; refine HSZ.out.mono ?_; rintro e w5 ⟨rfl, hb5⟩; have HB5 := hide (HB4.out.trans (hb5.mono HB4.out.size)); have v0 := (hb5.cell (p := ⟨g, 0, none⟩) hgz2).trans y0; have v1 := (hb5.cell (p := ⟨g, 1, none⟩) hgz2).trans y1; have v2 := (hb5.cell (p := ⟨g, 2, none⟩) hgz2).trans y2; have HA5 := hide (HAB4.out.trans (Above.of_below hb5)); clear hb5 HSZ HB4 HAB4)
              | fail)
            go_ret
            exact ⟨_, rfl, ⟨qs, HRW.out.below HB5.out, HGO3.out⟩, HBK.out.trans (HB5.out.mono HBK.out.size)⟩
          · have hgo := HGO2.out
            rw [if_neg hE] at hgo
            have HGO3 := hide hgo
            clear hgo HGO2
            obtain ⟨i0, hi, hz, hs1, hby⟩ := info_parts batch_info
            have hqk2 : qs.length ≤ 20 := by omega
            by_cases hY : most < (sm : Int) + (nb : Int)
            · have hgo := HGO3.out
              rw [if_pos hY] at hgo
              have HGO4 := hide hgo
              have dy : decide (most < (sm : Int) + (nb : Int)) = true := decide_eq_true (by omega)
              clear hgo HGO3 hY
              by_cases hl : 0 < qs.length
              · have dq : decide (0 < qs.length) = true := decide_eq_true hl
                have de : decide (most - (sm : Int) < (nb : Int)) = false := decide_eq_false (fun h => hE ⟨hl, h⟩)
                clear hE
                go_upto_region 13 with (first
                  | (go_at_call 46; refine HSZ.out.mono ?_; rintro e w5 ⟨rfl, hb5⟩; have HB5 := hide (HB4.out.trans (hb5.mono HB4.out.size)); have v0 := (hb5.cell (p := ⟨g, 0, none⟩) hgz2).trans y0; have v1 := (hb5.cell (p := ⟨g, 1, none⟩) hgz2).trans y1; have v2 := (hb5.cell (p := ⟨g, 2, none⟩) hgz2).trans y2; have HA5 := hide (HAB4.out.trans (Above.of_below hb5)); clear hb5 HSZ HB4 HAB4)
                  | fail)
                have HR5 := hide (HRW.out.below HB5.out)
                have HBW5 := hide (HBK.out.trans (HB5.out.mono HBK.out.size))
                have HBAL : Hid (Below w5.heap.size w5 (w5.alloc (.cells #[.int .i64 ba, .int .i64 ep, .slice Ax m cx] 41))) := hide (balloc (Below.refl _ _) _)
                go_wp2_with (first
                  | (at_builtin; refine wpList_append_own_at (w := w5.alloc _) rfl (.tmp 56) (.tmp 58) 26 rfl lo 41 i0 _ 3 40 Tryz.underlying26 hi hz hs1 hby rfl (by omega) (.slice Av qs.length cv) qs.length (qs.flatMap PBat.cells) rfl (HR5.out.own.alloc _) ⟨w5.heap.size, 0, none⟩ 1 1 [.int .i64 ba, .int .i64 ep, .slice Ax m cx] rfl rfl (cells_three _ _ _ _ _) (HCS.out ▸ PBat.cells_one _) (by simp only [maxLen]; omega) (by omega) (by have := HLO.out; have := HBW5.out.size; simp; omega) ?_; intro v6 w6 hown6 hg6 hnil6 hat6; rw [← HCS.out] at hown6; have HROW6 := hide (HR5.out.appO (q := ⟨C, Ax, cx⟩) HL0.out HNQ.out HA5.out (fun b hb => .inr (Nat.le_trans HWK.out (HOWN.out b hb))) HBAL.out hg6 hat6 hown6); have HB6 := hide (HBW5.out.trans ((HBAL.out.mono HBW5.out.size).trans ((Below.refl w.heap.size _).grown hg6 (by have := HBW5.out.size; simp; omega) (fun b hb => HOWN.out b hb)))); have HOWN6 : Hid (∀ b, v6.ownBlock = some b → w.heap.size ≤ b) := hide (fun b hb => by rcases hat6 with h | h; exact HOWN.out b (h ▸ hb); have h1 := h.symm.trans hb; injection h1 with h1; have := HBW5.out.size; simp at h1; omega); clear hown6 hg6 hnil6 hat6)
                  | fail)
                go_ret
                exact ⟨v6, rfl, ⟨qs ++ [⟨C, Ax, cx⟩], HROW6.out, by rw [List.map_append]; exact HGO4.out⟩, HB6.out⟩
              · have dq : decide (0 < qs.length) = false := decide_eq_false hl
                clear hE
                go_upto_region 13 with (first
                  | (go_at_call 46; refine HSZ.out.mono ?_; rintro e w5 ⟨rfl, hb5⟩; have HB5 := hide (HB4.out.trans (hb5.mono HB4.out.size)); have v0 := (hb5.cell (p := ⟨g, 0, none⟩) hgz2).trans y0; have v1 := (hb5.cell (p := ⟨g, 1, none⟩) hgz2).trans y1; have v2 := (hb5.cell (p := ⟨g, 2, none⟩) hgz2).trans y2; have HA5 := hide (HAB4.out.trans (Above.of_below hb5)); clear hb5 HSZ HB4 HAB4)
                  | fail)
                have HR5 := hide (HRW.out.below HB5.out)
                have HBW5 := hide (HBK.out.trans (HB5.out.mono HBK.out.size))
                have HBAL : Hid (Below w5.heap.size w5 (w5.alloc (.cells #[.int .i64 ba, .int .i64 ep, .slice Ax m cx] 41))) := hide (balloc (Below.refl _ _) _)
                go_wp2_with (first
                  | (at_builtin; refine wpList_append_own_at (w := w5.alloc _) rfl (.tmp 56) (.tmp 58) 26 rfl lo 41 i0 _ 3 40 Tryz.underlying26 hi hz hs1 hby rfl (by omega) (.slice Av qs.length cv) qs.length (qs.flatMap PBat.cells) rfl (HR5.out.own.alloc _) ⟨w5.heap.size, 0, none⟩ 1 1 [.int .i64 ba, .int .i64 ep, .slice Ax m cx] rfl rfl (cells_three _ _ _ _ _) (HCS.out ▸ PBat.cells_one _) (by simp only [maxLen]; omega) (by omega) (by have := HLO.out; have := HBW5.out.size; simp; omega) ?_; intro v6 w6 hown6 hg6 hnil6 hat6; rw [← HCS.out] at hown6; have HROW6 := hide (HR5.out.appO (q := ⟨C, Ax, cx⟩) HL0.out HNQ.out HA5.out (fun b hb => .inr (Nat.le_trans HWK.out (HOWN.out b hb))) HBAL.out hg6 hat6 hown6); have HB6 := hide (HBW5.out.trans ((HBAL.out.mono HBW5.out.size).trans ((Below.refl w.heap.size _).grown hg6 (by have := HBW5.out.size; simp; omega) (fun b hb => HOWN.out b hb)))); have HOWN6 : Hid (∀ b, v6.ownBlock = some b → w.heap.size ≤ b) := hide (fun b hb => by rcases hat6 with h | h; exact HOWN.out b (h ▸ hb); have h1 := h.symm.trans hb; injection h1 with h1; have := HBW5.out.size; simp at h1; omega); clear hown6 hg6 hnil6 hat6)
                  | fail)
                go_ret
                exact ⟨v6, rfl, ⟨qs ++ [⟨C, Ax, cx⟩], HROW6.out, by rw [List.map_append]; exact HGO4.out⟩, HB6.out⟩
            · have hgo := HGO3.out
              rw [if_neg hY] at hgo
              have HGO4 := hide hgo
              have dy : decide (most < (sm : Int) + (nb : Int)) = false := decide_eq_false (by omega)
              have hY2 : ((sm + nb : Nat) : Int) ≤ most := by omega
              have HY2 := hide hY2
              clear hgo HGO3 hY hY2
              by_cases hl : 0 < qs.length
              · have dq : decide (0 < qs.length) = true := decide_eq_true hl
                have de : decide (most - (sm : Int) < (nb : Int)) = false := decide_eq_false (fun h => hE ⟨hl, h⟩)
                clear hE
                go_upto_region 13 with (first
                  | (go_at_call 46; refine HSZ.out.mono ?_; rintro e w5 ⟨rfl, hb5⟩; have HB5 := hide (HB4.out.trans (hb5.mono HB4.out.size)); have v0 := (hb5.cell (p := ⟨g, 0, none⟩) hgz2).trans y0; have v1 := (hb5.cell (p := ⟨g, 1, none⟩) hgz2).trans y1; have v2 := (hb5.cell (p := ⟨g, 2, none⟩) hgz2).trans y2; have HA5 := hide (HAB4.out.trans (Above.of_below hb5)); clear hb5 HSZ HB4 HAB4)
                  | fail)
                have HR5 := hide (HRW.out.below HB5.out)
                have HBW5 := hide (HBK.out.trans (HB5.out.mono HBK.out.size))
                have HBAL : Hid (Below w5.heap.size w5 (w5.alloc (.cells #[.int .i64 ba, .int .i64 ep, .slice Ax m cx] 41))) := hide (balloc (Below.refl _ _) _)
                go_wp2_with (first
                  | (at_builtin; refine wpList_append_own_at (w := w5.alloc _) rfl (.tmp 56) (.tmp 58) 26 rfl lo 41 i0 _ 3 40 Tryz.underlying26 hi hz hs1 hby rfl (by omega) (.slice Av qs.length cv) qs.length (qs.flatMap PBat.cells) rfl (HR5.out.own.alloc _) ⟨w5.heap.size, 0, none⟩ 1 1 [.int .i64 ba, .int .i64 ep, .slice Ax m cx] rfl rfl (cells_three _ _ _ _ _) (HCS.out ▸ PBat.cells_one _) (by simp only [maxLen]; omega) (by omega) (by have := HLO.out; have := HBW5.out.size; simp; omega) ?_; intro v6 w6 hown6 hg6 hnil6 hat6; rw [← HCS.out] at hown6; have HROW6 := hide (HR5.out.appO (q := ⟨C, Ax, cx⟩) HL0.out HNQ.out HA5.out (fun b hb => .inr (Nat.le_trans HWK.out (HOWN.out b hb))) HBAL.out hg6 hat6 hown6); have HB6 := hide (HBW5.out.trans ((HBAL.out.mono HBW5.out.size).trans ((Below.refl w.heap.size _).grown hg6 (by have := HBW5.out.size; simp; omega) (fun b hb => HOWN.out b hb)))); have HOWN6 : Hid (∀ b, v6.ownBlock = some b → w.heap.size ≤ b) := hide (fun b hb => by rcases hat6 with h | h; exact HOWN.out b (h ▸ hb); have h1 := h.symm.trans hb; injection h1 with h1; have := HBW5.out.size; simp at h1; omega); clear hown6 hg6 hnil6 hat6)
                  | fail)
                go_roundw
                case rel => exact ⟨k + 1, qs ++ [⟨C, Ax, cx⟩], sm + nb, by omega, by go_num, by rw [Int.natCast_add], HROW6.out, HOWN6.out, HB6.out, by simp; omega, by omega, .inr HY2.out, by rw [List.map_append]; exact HGO4.out⟩
                case measure => simp [intOf]; omega
              · have dq : decide (0 < qs.length) = false := decide_eq_false hl
                clear hE
                go_upto_region 13 with (first
                  | (go_at_call 46; refine HSZ.out.mono ?_; rintro e w5 ⟨rfl, hb5⟩; have HB5 := hide (HB4.out.trans (hb5.mono HB4.out.size)); have v0 := (hb5.cell (p := ⟨g, 0, none⟩) hgz2).trans y0; have v1 := (hb5.cell (p := ⟨g, 1, none⟩) hgz2).trans y1; have v2 := (hb5.cell (p := ⟨g, 2, none⟩) hgz2).trans y2; have HA5 := hide (HAB4.out.trans (Above.of_below hb5)); clear hb5 HSZ HB4 HAB4)
                  | fail)
                have HR5 := hide (HRW.out.below HB5.out)
                have HBW5 := hide (HBK.out.trans (HB5.out.mono HBK.out.size))
                have HBAL : Hid (Below w5.heap.size w5 (w5.alloc (.cells #[.int .i64 ba, .int .i64 ep, .slice Ax m cx] 41))) := hide (balloc (Below.refl _ _) _)
                go_wp2_with (first
                  | (at_builtin; refine wpList_append_own_at (w := w5.alloc _) rfl (.tmp 56) (.tmp 58) 26 rfl lo 41 i0 _ 3 40 Tryz.underlying26 hi hz hs1 hby rfl (by omega) (.slice Av qs.length cv) qs.length (qs.flatMap PBat.cells) rfl (HR5.out.own.alloc _) ⟨w5.heap.size, 0, none⟩ 1 1 [.int .i64 ba, .int .i64 ep, .slice Ax m cx] rfl rfl (cells_three _ _ _ _ _) (HCS.out ▸ PBat.cells_one _) (by simp only [maxLen]; omega) (by omega) (by have := HLO.out; have := HBW5.out.size; simp; omega) ?_; intro v6 w6 hown6 hg6 hnil6 hat6; rw [← HCS.out] at hown6; have HROW6 := hide (HR5.out.appO (q := ⟨C, Ax, cx⟩) HL0.out HNQ.out HA5.out (fun b hb => .inr (Nat.le_trans HWK.out (HOWN.out b hb))) HBAL.out hg6 hat6 hown6); have HB6 := hide (HBW5.out.trans ((HBAL.out.mono HBW5.out.size).trans ((Below.refl w.heap.size _).grown hg6 (by have := HBW5.out.size; simp; omega) (fun b hb => HOWN.out b hb)))); have HOWN6 : Hid (∀ b, v6.ownBlock = some b → w.heap.size ≤ b) := hide (fun b hb => by rcases hat6 with h | h; exact HOWN.out b (h ▸ hb); have h1 := h.symm.trans hb; injection h1 with h1; have := HBW5.out.size; simp at h1; omega); clear hown6 hg6 hnil6 hat6)
                  | fail)
                go_roundw
                case rel => exact ⟨k + 1, qs ++ [⟨C, Ax, cx⟩], sm + nb, by omega, by go_num, by rw [Int.natCast_add], HROW6.out, HOWN6.out, HB6.out, by simp; omega, by omega, .inr HY2.out, by rw [List.map_append]; exact HGO4.out⟩
                case measure => simp [intOf]; omega
    · obtain rfl : k = n := by omega
      have dln : decide (k < k) = false := decide_eq_false (by omega)
      have hdr : qs0.drop k = [] := List.drop_of_length_le (by rw [HN.out]; exact Nat.le_refl _)
      have hgo := HGO.out
      rw [hdr] at hgo
      have HGO1 := hide hgo
      clear hgo hdr HGO
      go_wp2_with fail
      go_ret
      exact ⟨_, rfl, ⟨qs, HRW.out, HGO1.out⟩, HBK.out⟩
end Go.Proofs.YtfdppggdgdnnaaaGreatDoor

namespace Go.Proofs.YtfdppggdgdnnaaaGreatDoor
open Go.RowKit

namespace Rw
theorem goB_ok (zs : List Int) : ∀ (at_ : Int) (i ev : Nat), 0 ≤ at_ → at_ + 5 * zs.length ≤ 1099511627776 → i + zs.length ≤ 100 → ∀ b ∈ go at_ i ev zs, Rc.Good b ∧ b.recs.length ≤ 5 ∧ ∀ r ∈ b.recs, r.k.length ≤ 64 ∧ r.v.length ≤ 512 := by
  induction zs with
  | nil => intro at_ i ev _ _ _ b hb; simp [go] at hb
  | cons z zs ih =>
    intro at_ i ev h0 h1 h2 b hb
    have hm := many_bd z
    rw [List.length_cons] at h1 h2
    rcases List.mem_cons.1 hb with rfl | hb
    · have hl : (bt at_ i ev z).recs.length = many z := by simp [bt]
      have hr : ∀ r ∈ (bt at_ i ev z).recs, -1099511627776 ≤ r.t ∧ r.t ≤ 1099511627776 ∧ r.k.length ≤ 64 ∧ r.v.length ≤ 512 := by
        intro r hr
        obtain ⟨k, hk, rfl⟩ := List.mem_map.1 hr
        have hk' := List.mem_range.1 hk
        have := kv_lt z k
        refine ⟨?_, ?_, by simp [rc], by simp [rc]; omega⟩
        · show -1099511627776 ≤ 100 * (i : Int) + (k : Int); omega
        · show 100 * (i : Int) + (k : Int) ≤ 1099511627776; omega
      have hd : i / ev ≤ i := Nat.div_le_self _ _
      refine ⟨⟨by omega, by omega, h0, ?_, ?_, ?_, hr⟩, by omega, fun r h => ⟨(hr r h).2.2.1, (hr r h).2.2.2⟩⟩
      · rw [hl]; show at_ + (many z : Int) ≤ _; omega
      · show (0 : Int) ≤ 1 + ((i / ev : Nat) : Int)
        generalize i / ev = q at *
        omega
      · show 1 + ((i / ev : Nat) : Int) ≤ _
        generalize i / ev = q at *
        omega
    · exact ih (at_ + many z) (i + 1) ev (by omega) (by omega) (by omega) b hb
end Rw

/-- The edges from the count on pass the test. -/
theorem Sg.cnt_ge (l : List Sg.Edge) (P : Sg.Edge → Bool) (hm : ∀ i j, i ≤ j → j < l.length → P (Sg.ed l i) = true → P (Sg.ed l j) = true) (i : Nat) (hi : Sg.cnt l P ≤ i) (hl : i < l.length) : P (Sg.ed l i) = true := by
  obtain ⟨k, hk, h1, h2⟩ := Sg.exists_cut (fun i => P (Sg.ed l i)) l.length hm
  have e := Sg.cnt_eq l P k hk h1 h2
  exact h2 i (by omega) hl

theorem wantGo_skip (o most : Int) (r : List Rc.Bat) : ∀ (l out : List Rc.Bat) (s : Int), (∀ b ∈ l, b.base + b.recs.length ≤ o) → wantGo o most (l ++ r) out s = wantGo o most r out s
  | [], _, _, _ => rfl
  | b :: l, out, s, h => by
    rw [List.cons_append, wantGo, if_pos (h b List.mem_cons_self)]
    exact wantGo_skip o most r l out s fun x hx => h x (List.mem_cons_of_mem _ hx)
theorem wantC_same {o : Int} {b : Rc.Bat} (h : o ≤ b.base) : wantC o b = b := if_neg (by omega)
/-- Behind the first: as many as the limit lets by. -/
theorem wantGo_rest (o most : Int) : ∀ (l out : List Rc.Bat) (s : Int) (j : Nat), 0 < out.length → (∀ b ∈ l, o ≤ b.base ∧ 0 < b.recs.length) → j ≤ l.length → s + (((l.take j).flatMap Rc.bytes).length : Nat) ≤ most →
    (j = l.length ∨ most < s + (((l.take (j + 1)).flatMap Rc.bytes).length : Nat)) → wantGo o most l out s = out ++ l.take j
  | [], out, s, j, _, _, hj, _, _ => by
    have : j = 0 := by simpa using hj
    subst this
    simp [wantGo]
  | b :: l, out, s, j, ho, hb, hj, hs, hm => by
    obtain ⟨h1, h2⟩ := hb b List.mem_cons_self
    rw [wantGo, if_neg (by omega), wantC_same h1]
    cases j with
    | zero =>
      rcases hm with hm | hm
      · simp at hm
      · rw [List.take_succ_cons, List.take_zero, List.flatMap_cons, List.flatMap_nil, List.append_nil] at hm
        rw [if_pos ⟨ho, by omega⟩]
        simp
    | succ j =>
      rw [List.take_succ_cons, List.flatMap_cons, List.length_append] at hs
      rw [if_neg (by omega), if_neg (by omega)]
      rw [wantGo_rest o most l (out ++ [b]) (s + (Rc.bytes b).length) j (by simp) (fun x hx => hb x (List.mem_cons_of_mem _ hx)) (by simpa using hj) (by omega) (by
        rcases hm with hm | hm
        · exact .inl (by simpa using hm)
        · refine .inr ?_
          rw [List.take_succ_cons, List.flatMap_cons, List.length_append] at hm
          omega)]
      rw [List.append_assoc, List.take_succ_cons]
      rfl

theorem Mz.want {d : Dk.St} {s : Sg.St} {room used base every : Int} {names : Dk.Dir} {x : Nat} {bs : List Rc.Bat} (h : Mz d s room used names base every x bs) (o most : Int) (k q fin : Nat) (hk : k < bs.length) (hq : o = bs[k].base + q) (hql : q < bs[k].recs.length)
    (hfin : (fin : Int) = max ((k : Int) + 1) (((Sg.cnt s.edges (fun e => decide (most < e.pos - ((Sg.ed s.edges (k + 1)).pos - (Rc.bytes (cutB bs[k] o q)).length)))) : Int) - 1)) (hfl : fin ≤ bs.length) :
    wantGo o most bs [] 0 = cutB bs[k] o q :: (bs.drop (k + 1)).take (fin - (k + 1)) := by
  have hin : ∀ i (hi : i < bs.length), i < k → bs[i].base + bs[i].recs.length ≤ bs[k].base := fun i hi hik => by
    rw [← h.edOff k hk, ← h.edOff i hi]
    have e1 : (Sg.ed s.edges (i + 1)).off = bs[i].base + bs[i].recs.length := by rw [h.edges]; exact Sg.ed_next _ rfl bs i hi
    have e2 := h.edOff i hi
    have e3 : (Sg.ed s.edges (i + 1)).off ≤ (Sg.ed s.edges k).off := h.offMono (i + 1) k (by omega) (by rw [h.len]; omega)
    omega
  have hout : ∀ i (hi : i < bs.length), k < i → bs[k].base + bs[k].recs.length ≤ bs[i].base := fun i hi hik => by
    have e1 : (Sg.ed s.edges (k + 1)).off = bs[k].base + bs[k].recs.length := by rw [h.edges]; exact Sg.ed_next _ rfl bs k hk
    have e2 := h.edOff i hi
    have e3 : (Sg.ed s.edges (k + 1)).off ≤ (Sg.ed s.edges i).off := h.offMono (k + 1) i (by omega) (by rw [h.len]; omega)
    omega
  have hsp : bs = bs.take k ++ (bs[k] :: bs.drop (k + 1)) := by
    conv => lhs; rw [← List.take_append_drop k bs, List.drop_eq_getElem_cons hk]
  have hs1 : wantGo o most bs [] 0 = wantGo o most (bs[k] :: bs.drop (k + 1)) [] 0 := by
    conv => lhs; rw [hsp]
    refine wantGo_skip o most _ _ _ _ fun b hb => ?_
    obtain ⟨i, hi, rfl⟩ := List.mem_iff_getElem.1 hb
    rw [List.length_take] at hi
    rw [List.getElem_take]
    have := hin i (by omega) (by omega)
    omega
  have hC : wantC o bs[k] = cutB bs[k] o q := by
    unfold wantC
    by_cases hc : bs[k].base < o
    · rw [if_pos hc, show (o - bs[k].base).toNat = q by omega]
    · have hq0 : q = 0 := by omega
      subst hq0
      rw [if_neg hc, show o = bs[k].base by omega, cutB_zero]
  have hmono : ∀ i j, i ≤ j → j < s.edges.length → (Sg.ed s.edges i).pos ≤ (Sg.ed s.edges j).pos := fun i j hij hj => by
    rcases Nat.lt_or_ge i j with h1 | h1
    · have := h.poss i j h1 (by rw [h.len] at hj; omega); omega
    · obtain rfl : i = j := by omega
      exact Int.le_refl _
  have hPm : ∀ i j, i ≤ j → j < s.edges.length → decide (most < (Sg.ed s.edges i).pos - ((Sg.ed s.edges (k + 1)).pos - (Rc.bytes (cutB bs[k] o q)).length)) = true → decide (most < (Sg.ed s.edges j).pos - ((Sg.ed s.edges (k + 1)).pos - (Rc.bytes (cutB bs[k] o q)).length)) = true := fun i j hij hj hp => by
    have h1 := hmono i j hij hj
    have h2 := of_decide_eq_true hp
    exact decide_eq_true (by omega)
  have hw : fin = k + 1 ∨ ((Rc.bytes (cutB bs[k] o q)).length : Int) + ((((bs.drop (k + 1)).take (fin - (k + 1))).flatMap Rc.bytes).length : Nat) ≤ most := by
    obtain ⟨z, hz⟩ := h
    exact hz.within most k _ fin hk hfin hfl
  have hlast : fin = bs.length ∨ most < ((Rc.bytes (cutB bs[k] o q)).length : Int) + ((((bs.drop (k + 1)).take (fin - (k + 1) + 1)).flatMap Rc.bytes).length : Nat) := by
    by_cases hf : fin = bs.length
    · exact .inl hf
    · refine .inr ?_
      have hP := Sg.cnt_ge s.edges (fun e => decide (most < e.pos - ((Sg.ed s.edges (k + 1)).pos - (Rc.bytes (cutB bs[k] o q)).length))) hPm (fin + 1) (by omega) (by rw [h.len]; omega)
      have hP' := of_decide_eq_true hP
      rw [h.edPos (fin + 1) (by omega), h.edPos (k + 1) (by omega)] at hP'
      have hm := flat_mid bs (k + 1) (fin + 1) (by omega)
      rw [show fin + 1 - (k + 1) = fin - (k + 1) + 1 by omega] at hm
      omega
  have hfirst : ((Rc.bytes (cutB bs[k] o q)).length : Int) ≤ most ∨ fin = k + 1 := by
    rcases hw with h1 | h1
    · exact .inr h1
    · exact .inl (by omega)
  rw [hs1, wantGo, if_neg (by omega), hC, if_neg (by simp)]
  generalize Rc.bytes (cutB bs[k] o q) = lb at *
  by_cases hb : most < 0 + (lb.length : Int)
  · rw [if_pos hb]
    have : fin = k + 1 := by rcases hfirst with h1 | h1 <;> omega
    subst this
    simp
  · rw [if_neg hb]
    have hr := wantGo_rest o most (bs.drop (k + 1)) ([] ++ [cutB bs[k] o q]) (0 + (lb.length : Int)) (fin - (k + 1)) (by simp) (fun b hb => by
      obtain ⟨i, hi, rfl⟩ := List.mem_iff_getElem.1 hb
      rw [List.length_drop] at hi
      rw [List.getElem_drop]
      have h1 := hout (k + 1 + i) (by omega) (by omega)
      exact ⟨by omega, (h.good _ (List.getElem_mem _)).n0⟩) (by rw [List.length_drop]; omega) (by
      rcases hw with h1 | h1
      · subst h1; simp; omega
      · omega) (by
      rcases hlast with h1 | h1
      · exact .inl (by rw [List.length_drop]; omega)
      · exact .inr (by omega))
    rw [hr]
    rfl
end Go.Proofs.YtfdppggdgdnnaaaGreatDoor
