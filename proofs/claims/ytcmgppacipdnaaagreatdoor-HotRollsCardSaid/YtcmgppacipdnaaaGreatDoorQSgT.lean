/-
  Package seg: Read, where the file has its batches.
  Package seg: Cut.
  What is read of bytes is what is written as just these bytes: plainly. Nothing of any program is named here.
-/
import Derived.Test.YtcmgppacipdnaaaGreatDoorQSgU
import Derived.Test.YtcmgppacipdnaaaGreatDoorQRcQ
import Derived.Test.YtcmgppacipdnaaaGreatDoorQVRdr
namespace Go.Proofs.YtcmgppacipdnaaaGreatDoor
open Go.RowKit Go.Maps Go.Sort Go.Shelf

/-- What a read that is answered goes by: the batch that has the offset, how many of its records are ahead of it, how far it goes, and what follows. -/
structure ReadH (d : Dk.St) (s : Sg.St) (o most : Int) (at_ q f fin : Nat) (b0 : Rc.Bat) (ys : List Rc.Bat) : Prop where
  lo : (Sg.ed s.edges 0).off ≤ o
  hi : o < (Sg.last s.edges).off
  offs : ∀ a b, a ≤ b → b < s.edges.length → (Sg.ed s.edges a).off ≤ (Sg.ed s.edges b).off
  poss : ∀ a b, a ≤ b → b < s.edges.length → (Sg.ed s.edges a).pos ≤ (Sg.ed s.edges b).pos
  cnt : Sg.cnt s.edges (fun e => decide (o < e.off)) = at_ + 1
  raw1 : ∃ l, sgRaw d s at_ (at_ + 1) = (none, l) ∧ Rc.all l = ([b0], l.length, 0) ∧ l.length ≤ 1000000
  lies1 : Lies s [b0] at_ (at_ + 1)
  qeq : o = b0.base + q
  qlt : q < b0.recs.length
  good : Rc.bad (cutB b0 o q) = 0
  size : (Rc.bytes (cutB b0 o q)).length ≤ 1000000
  cnt2 : Sg.cnt s.edges (fun e => decide (most < e.pos - ((Sg.ed s.edges (at_ + 1)).pos - (Rc.bytes (cutB b0 o q)).length))) = f
  feq : (fin : Int) = max ((at_ : Int) + 1) ((f : Int) - 1)
  raw2 : ∃ l, sgRaw d s (at_ + 1) fin = (none, l) ∧ Rc.all l = (ys, l.length, 0) ∧ l.length ≤ 1000000
  lies2 : Lies s ys (at_ + 1) fin

/-- A new box of a number, apart from what was. -/
def heldBox (lo : Nat) : Held (fun a b : World => Below a.heap.size a b) :=
  ⟨fun v w => ∃ B, lo ≤ B ∧ v = .pointer (some ⟨B, 0, none⟩) ∧ w.heap[B]? = some (.cells #[.int .i64 0] 3 (0, 0)),
   fun _ _ _ ⟨B, h1, h2, h3⟩ hg => ⟨B, h1, h2, (hg.block B (Array.getElem?_eq_some_iff.1 h3).1).trans h3⟩⟩

set_option maxRecDepth 100000 in
set_option maxHeartbeats 4000000 in
theorem sgRead_good (w0 w : World) (S T : Nat → Prop) (n Bd X : Nat) (d : Dk.St) (s : Sg.St) (p : Nat → Addr) (h : SgW w0 S T n Bd d X s w) (hs : SentsG w0 p) (ht : Tabs w0) (hn : n ≤ 1000) (o most : Int) (ho : -9223372036854775808 ≤ o ∧ o ≤ 9223372036854775807) (at_ q f fin : Nat) (b0 : Rc.Bat) (ys : List Rc.Bat) (hr : ReadH d s o most at_ q f fin b0 ys) :
    Calls Tryz.prog 55 #[.pointer (some ⟨X, 0, none⟩), .int .i64 o, .int .i64 most] w fun e w' => ∃ v qs, e = .returned (.tuple #[v, .nilIface]) ∧ BRow w' w.heap.size v qs ∧ qs.map (·.b) = cutB b0 o q :: ys ∧ Below w.heap.size w w' := by
  have HH := hide h
  have HR := hide hr
  have hlen := h.ok.len
  have HBA := hide (fun (W : World) (hw : Below w.heap.size w W) => sgBase_any X Bd s T W (h.seg.below hw) h.ok)
  have HEN := hide (fun (W : World) (hw : Below w.heap.size w W) => sgEnd_any X Bd s T W (h.seg.below hw) h.ok)
  have HBF := hide (fun (W : World) (hw : Below w.heap.size w W) => sgBefore_any X Bd s T o W (h.seg.below hw) h.ok hr.offs)
  rw [hr.cnt, show (((at_ + 1 : Nat) : Int) - 1) = (at_ : Int) by omega] at HBF
  have HB1 := hide (fun (W : World) (hw : Below w.heap.size w W) => by
    obtain ⟨l, h1, h2, h3⟩ := hr.raw1
    exact sgBatches_any w0 W S T n Bd X d s p (h.grow hw) hs ht hn at_ (at_ + 1) [b0] l h1 h2 hr.lies1 h3)
  have HB2 := hide (fun (W : World) (hw : Below w.heap.size w W) => by
    obtain ⟨l, h1, h2, h3⟩ := hr.raw2
    exact sgBatches_any w0 W S T n Bd X d s p (h.grow hw) hs ht hn (at_ + 1) fin ys l h1 h2 hr.lies2 h3)
  have hat1 : at_ + 1 < s.edges.length := hr.lies1.lt
  have hfin := hr.lies2.lt
  have HFIN := hide hr.feq
  have HYL : Hid (ys.length ≤ 100000) := hide (by have := hr.lies2.len; omega)
  obtain ⟨v0, hl⟩ := h.seg
  have HSL := hide hl
  have d1 : decide (o < (Sg.ed s.edges 0).off) = false := decide_eq_false (by have := hr.lo; omega)
  have d2 : decide ((Sg.last s.edges).off ≤ o) = false := decide_eq_false (by have := hr.hi; omega)
  have hq1 : o - b0.base = (q : Int) := by have := hr.qeq; omega
  have hqlt := hr.qlt
  have hwat : IntKind.i64.wrap ((at_ : Int) + 1) = ((at_ + 1 : Nat) : Int) := by rw [IntKind.wrap_i64]; omega
  have HS5 := hide (fun (W : World) (hw : Below w.heap.size w W) => SentsG.two (hs.below (h.below.trans (hw.mono h.below.size))))
  have HCN := hide hr.cnt2
  have HPS := hide hr.poss
  have HSZ := hide hr.size
  have HGD := hide hr.good
  have HOK := hide h.ok
  have HPOS := hide h.ok.pos
  clear h hs ht hr hl
  generalize (Sg.ed s.edges 0).off = lo at *
  generalize (Sg.last s.edges).off = hi at *
  go_enter Tryz.func55, Tryz.ntmps55
  go_upto_region 7 with (first
    | (go_at_call 49; refine (HBA.out _ (balloc (Below.refl _ _) _)).mono ?_; rintro e w1 ⟨rfl, hb⟩; have HBW1 := hide ((balloc (Below.refl w.heap.size w) (.cells #[.int .i64 most] 3)).trans (hb.mono (by simp))); have HMO1 : Hid (w1.cell? ⟨w.heap.size, 0, none⟩ = some (.int .i64 most)) := hide ((hb.cell (p := ⟨w.heap.size, 0, none⟩) (by simp)).trans (cell_new_sl _ _ _)); have HZ1 : Hid (w.heap.size < w1.heap.size) := hide (by have := hb.size; simp at this; omega); clear hb)
    | (go_at_call 50; refine (HEN.out _ HBW1.out).mono ?_; rintro e w2 ⟨rfl, hb⟩; have HBW2 := hide (HBW1.out.trans (hb.mono HBW1.out.size)); have HMO2 := hide ((hb.cell (p := ⟨w.heap.size, 0, none⟩) HZ1.out).trans HMO1.out); have HZ2 := hide (Nat.lt_of_lt_of_le HZ1.out hb.size); clear hb)
    | (go_at_call 97; refine (HBF.out _ HBW2.out).mono ?_; rintro e w3 ⟨rfl, hb⟩; have HBW3 := hide (HBW2.out.trans (hb.mono HBW2.out.size)); have HMO3 := hide ((hb.cell (p := ⟨w.heap.size, 0, none⟩) HZ2.out).trans HMO2.out); have HZ3 := hide (Nat.lt_of_lt_of_le HZ2.out hb.size); clear hb)
    | (go_at_call 98; refine (HB1.out _ HBW3.out).mono ?_; rintro e w4 ⟨v4, qs4, rfl, hr4, hq4, hb⟩; have HBW4 := hide (HBW3.out.trans (hb.mono HBW3.out.size)); have HMO4 := hide ((hb.cell (p := ⟨w.heap.size, 0, none⟩) HZ3.out).trans HMO3.out); have HZ4 := hide (Nat.lt_of_lt_of_le HZ3.out hb.size); have HR4 := hide hr4; have HQ4 := hide hq4; clear hb hr4 hq4)
    | fail)
  obtain ⟨q0, rfl, hqb⟩ : ∃ q0, qs4 = [q0] ∧ q0.b = b0 := by
    have h := HQ4.out
    match qs4, h with
    | [], h => simp at h
    | [q0], h => exact ⟨q0, rfl, by simpa using h⟩
    | _ :: _ :: _, h => simp at h
  obtain ⟨g, cap, e4, hglo, hgl, c0, c1, c2, f0, f2, hcap, hbt⟩ := HR4.out.turn o q (by rw [hqb]; exact hqlt) ho
  obtain ⟨hrl, hrm⟩ : b0.recs.length ≤ q0.c ∧ q0.c ≤ 9223372036854775807 := by
    obtain ⟨l0, wk, _, h1, h2, _⟩ := HR4.out.el q0 (by simp)
    have := h1 w4 h2
    rw [hqb] at this
    exact ⟨this.le, this.max⟩
  subst e4
  rw [hqb] at c0 c1 c2 hbt
  have HT4 := hide hbt
  have kcut : ∀ W, (Instr.sliceAt 34 (.slice q0.A b0.recs.length q0.c) (some (.int .i64 (q : Int))) none none).run Tryz.prog W = .ok (.slice (cutR q0.A q0.c q) (b0.recs.length - q) (q0.c - q)) W := fun W => run_cut_rec W q0.A b0.recs.length q0.c q (by omega) hrl
  have hwq : IntKind.i64.wrap (o - b0.base) = (q : Int) := by rw [hq1, IntKind.wrap_i64]; omega
  have hgB : g ≠ w.heap.size := by have h1 := hglo; have := HBW3.out.size; have := HZ3.out; omega
  clear hbt hq1
  generalize hnr : b0.recs.length = nr at *
  generalize b0.base = ba at *
  generalize hAc : cutR q0.A q0.c q = Ac at *
  go_still_tail 14, (by kernel_rfl)
  change wpList _ _ _ _ _ w4.drew
  go_upto_region 9 with fail
  have HT6 := hide (HT4.out.below (Below.refl _ _).drew)
  have HBW6 : Hid (Below w.heap.size w ((w4.setCell ⟨g, 2, none⟩ (.slice Ac (nr - q) (q0.c - q))).setCell ⟨g, 0, none⟩ (.int .i64 o)).drew) := hide ((HBW4.out.setCell (p := ⟨g, 2, none⟩) (by have := HBW3.out.size; show _ ≤ g; omega) _).setCell (p := ⟨g, 0, none⟩) (by have := HBW3.out.size; show _ ≤ g; omega) _).drew
  have HMO6 : Hid (((w4.setCell ⟨g, 2, none⟩ (.slice Ac (nr - q) (q0.c - q))).setCell ⟨g, 0, none⟩ (.int .i64 o)).drew.cell? ⟨w.heap.size, 0, none⟩ = some (.int .i64 most)) := hide ((World.cell?_setCell_other _ _ _ _ (by simp)).trans ((World.cell?_setCell_other _ _ _ _ (by simp)).trans HMO4.out))
  have hzW : w4.heap.size ≤ ((w4.setCell ⟨g, 2, none⟩ (.slice Ac (nr - q) (q0.c - q))).setCell ⟨g, 0, none⟩ (.int .i64 o)).drew.heap.size := by simp
  generalize ((w4.setCell ⟨g, 2, none⟩ (.slice Ac (nr - q) (q0.c - q))).setCell ⟨g, 0, none⟩ (.int .i64 o)).drew = W6 at *
  have HZ6 : Hid (w.heap.size < W6.heap.size ∧ g < W6.heap.size) := hide ⟨by have := HZ4.out; omega, by omega⟩
  have hrow6 : ∀ j u, (PBat.cells ⟨cutB b0 o q, Ac, q0.c - q⟩)[j]? = some u → W6.cell? ⟨g, j, none⟩ = some u := fun j u hu => by
    have h := HT6.out.own.cells (g := g) rfl j u (by simpa using hu)
    rwa [Addr.add_lit, Nat.zero_add] at h
  have k0 : W6.cell? ⟨g, 0, none⟩ = some (.int .i64 o) := hrow6 0 _ rfl
  have k1 : W6.cell? ⟨g, 1, none⟩ = some (.int .i64 b0.epoch) := hrow6 1 _ rfl
  have k2 : W6.cell? ⟨g, 2, none⟩ = some (.slice Ac (nr - q) (q0.c - q)) := by
    have h := hrow6 2 _ rfl
    simp only [cutB, List.length_drop, hnr] at h
    exact h
  have HIB : Hid (∀ W, Below W6.heap.size W6 W → IsBat W Ac (q0.c - q) (cutB b0 o q)) := hide (fun W hw => by
    obtain ⟨l0, wk, _, h1, h2, _⟩ := HT6.out.el ⟨cutB b0 o q, Ac, q0.c - q⟩ (by simp)
    exact h1 W (h2.trans (Above.of_below hw)))
  have hlc : (cutB b0 o q).recs.length = nr - q := by simp only [cutB, List.length_drop, hnr]
  have HSZE := hide (fun (W : World) (hw : Below W6.heap.size W6 W) => size_any_bat (cutB b0 o q) Ac (q0.c - q) (nr - q) W p (HIB.out W hw) (HS5.out W (HBW6.out.trans (hw.mono HBW6.out.size))) hlc)
  rw [if_pos HGD.out] at HSZE
  obtain ⟨Ae, ce, e6, heg, -, -, -, x3, -⟩ := (HSL.out.below HBW6.out).cells
  obtain ⟨ge, rfl, hge, -, kp, -, -⟩ := heg.at_ (at_ + 1) hat1
  have hpe := HPOS.out _ (Sg.ed_mem hat1)
  have hX6 := (HSL.out.below HBW6.out).lt
  have hece := heg.le
  have hszb := HSZ.out
  have HB6R := hide (fun (W : World) (hw : Below W6.heap.size W6 W) => HBW6.out.trans (hw.mono HBW6.out.size))
  unfold batV at HSZE
  rw [show (cutB b0 o q).base = o from rfl, show (cutB b0 o q).epoch = b0.epoch from rfl] at HSZE
  generalize (Rc.bytes (cutB b0 o q)).length = sz at *
  generalize b0.epoch = ep at *
  generalize nr - q = nq at *
  generalize q0.c - q = cq at *
  obtain ⟨pe, hpee⟩ : ∃ pe, pe = (Sg.ed s.edges (at_ + 1)).pos := ⟨_, rfl⟩
  rw [← hpee] at kp hpe HCN
  obtain ⟨at1, hat⟩ : ∃ at1, at1 = at_ + 1 := ⟨_, rfl⟩
  rw [← hat] at kp hwat hat1 HB2
  obtain ⟨m, hm⟩ : ∃ m, m = s.edges.length := ⟨_, rfl⟩
  rw [← hm] at x3 hat1 hece hlen hfin
  have HM := hide hm
  have HAT := hide hat
  have HPE := hide hpee
  have hwp : IntKind.i64.wrap (pe - (sz : Int)) = pe - sz := by rw [IntKind.wrap_i64]; omega
  clear hrow6 heg e6 hm hat hpee hlc kcut f0 f2 c0 c1 c2
  have hz6g := HZ6.out.2
  refine wp_region_store (G := fun a b : World => Below a.heap.size a b) ⟨fun w => Below.refl _ w, fun h k => h.trans (k.mono h.size)⟩ [57, 58, 59, 60, 61, 62, 63, 64, 65, 66, 67, 68, 69, 70, 11] (fun d => match d with
    | 57 => .is (.pointer (some ⟨X, 0, none⟩)) | 58 => .is (.pointer (some ⟨X, 0, none⟩)) | 59 => .is (.pointer (some ⟨X, 3, none⟩)) | 60 => .is (.slice (some ⟨ge, 0, none⟩) m ce) | 61 => .is (.int .i64 at_) | 62 => .is (.int .i64 at1) | 63 => .is (.pointer (some ⟨ge, at1 * 4, none⟩)) | 64 => .is (.pointer (some ⟨ge, at1 * 4 + 1, none⟩)) | 65 => .is (.int .i64 pe) | 66 => .is (.slice (some ⟨g, 0, none⟩) 1 cap) | 67 => .is (.pointer (some ⟨g, 0, none⟩)) | 68 => .is (.agg #[.int .i64 o, .int .i64 ep, .slice Ac nq cq]) | 69 => .is (.int .i64 sz) | 70 => .is (.int .i64 (pe - sz)) | _ => heldBox W6.heap.size) _ (by kernel_rfl) (by kernel_rfl) rfl (by kernel_rfl) ?_ ?_
  · simp only [List.size_toArray, List.length_cons, List.length_nil, List.take_succ_cons, List.take_zero, StepsH]
    refine ⟨?_, ?_, ?_, ?_, ?_, ?_, ?_, ?_, ?_, ?_, ?_, ?_, ?_, ?_, ?_, trivial⟩
    all_goals
      intro ev w7 hb hev hd
      have ev0 : ev (.tmp 0) = .pointer (some ⟨X, 0, none⟩) := hev _ (by simp)
      have ev8 : ev (.tmp 8) = .int .i64 at_ := hev _ (by simp)
      have ev9 : ev (.tmp 9) = .slice (some ⟨g, 0, none⟩) 1 cap := hev _ (by simp)
      have evf : ∀ f, ev (.func f) = .func (.func f) #[] #[] := fun f => hev _ (by simp)
      have evc : ∀ c, ev (.const c) = c := fun c => hev _ (by simp)
      have j3 := (hb.cell (p := ⟨X, 3, none⟩) hX6).trans x3
      have jp := (hb.cell (p := ⟨ge, at1 * 4 + 1, none⟩) hge).trans kp
      have j0 := (hb.cell (p := ⟨g, 0, none⟩) hz6g).trans k0
      have j1 := (hb.cell (p := ⟨g, 1, none⟩) hz6g).trans k1
      have j2 := (hb.cell (p := ⟨g, 2, none⟩) hz6g).trans k2
      have HB7 := hide ((Below.refl W6.heap.size W6).drew.trans hb)
      clear hev hb x3 kp k0 k1 k2
      simp [DepsG, Held.is] at hd
      try simp [OpRuns, execOp, go_sem, Held.is, Below.refl, *]
    · exact HSZE.out w7 HB7.out
    · exact ⟨balloc (Below.refl _ _) _, w7.heap.size, HB7.out.size, rfl, heap_alloc_new _ _⟩
  · intro f' w9 hb hf
    have e70 : f' 70 = .int .i64 (pe - sz) := hf 70 (by simp)
    obtain ⟨B, hB1, e11, hB3⟩ : ∃ B, W6.heap.size ≤ B ∧ f' 11 = .pointer (some ⟨B, 0, none⟩) ∧ w9.heap[B]? = some (.cells #[.int .i64 0] 3 (0, 0)) := hf 11 (by simp)
    have r0 : w9.cell? ⟨B, 0, none⟩ = some (.int .i64 0) := box_cell hB3 0
    have rf : w9.frozen? ⟨B, 0, none⟩ = false := box_free hB3 0
    have hb9 : Below W6.heap.size W6 (w9.setCell ⟨B, 0, none⟩ (.int .i64 (pe - sz))) := ((Below.refl W6.heap.size W6).drew.trans hb).setCell (p := ⟨B, 0, none⟩) hB1 _
    have HB9 := hide hb9
    have HBG : Hid ((w9.setCell ⟨B, 0, none⟩ (.int .i64 (pe - sz))).cell? ⟨B, 0, none⟩ = some (.int .i64 (pe - sz))) := hide (World.cell?_setCell_same _ _ _ r0)
    clear hf hb hb9 x3 kp k0 k1 k2 hB3
    simp only [puts, Act.put, List.setIfInBounds_toArray, List.set_cons_succ, List.set_cons_zero]
    rw [e70, e11]
    clear e70 e11
    generalize f' 57 = z57
    generalize f' 58 = z58
    generalize f' 59 = z59
    generalize f' 60 = z60
    generalize f' 61 = z61
    generalize f' 62 = z62
    generalize f' 63 = z63
    generalize f' 64 = z64
    generalize f' 65 = z65
    generalize f' 66 = z66
    generalize f' 67 = z67
    generalize f' 68 = z68
    generalize f' 69 = z69
    clear f'
    go_upto_region 10 with fail
    generalize w9.setCell ⟨B, 0, none⟩ (.int .i64 (pe - sz)) = W9 at *
    have hz9 : W6.heap.size ≤ W9.heap.size := HB9.out.size
    have HB9w := hide (HBW6.out.trans (HB9.out.mono HBW6.out.size))
    have HMO9 : Hid (W9.cell? ⟨w.heap.size, 0, none⟩ = some (.int .i64 most)) := hide ((HB9.out.cell (p := ⟨w.heap.size, 0, none⟩) HZ6.out.1).trans HMO6.out)
    have hB9 : B < W9.heap.size := World.block_lt_of_cell? _ _ HBG.out
    have hz69 : w.heap.size < W9.heap.size := by have := HZ6.out.1; omega
    have HU := hide (until_any X Bd 101 #[.pointer (some ⟨B, 0, none⟩), .pointer (some ⟨w.heap.size, 0, none⟩)] (fun e => decide (most < e.pos - (pe - sz))) s T W9 ⟨v0, HSL.out.below HB9w.out⟩ HOK.out (enters_of Tryz.func101 (by kernel_rfl) rfl)
      (fun W hw e hep => (read1_any B w.heap.size (pe - sz) most e.off e.pos e.ep e.time W ((hw.cell (p := ⟨B, 0, none⟩) hB9).trans HBG.out) ((hw.cell (p := ⟨w.heap.size, 0, none⟩) hz69).trans HMO9.out) (by omega)).mono fun r w' ⟨h1, h2⟩ => ⟨h1, 0, #[.cells #[.int .i64 e.off, .int .i64 e.pos, .int .i64 e.ep, .int .i64 e.time] 138], by rw [h2]; rfl⟩)
      (fun a b hab hb ha => decide_eq_true (by have := of_decide_eq_true ha; have := HPS.out a b hab hb; omega)))
    rw [HCN.out] at HU
    have hcle : f ≤ s.edges.length := by rw [← HCN.out]; exact Sg.cnt_le _ _
    go_upto_region 11 with (first
      | (go_at_call 100; refine HU.out.mono ?_; rintro e w10 ⟨rfl, hb⟩; have HB10 := hide (HB9.out.trans (hb.mono HB9.out.size)); clear hb)
      | fail)
    obtain ⟨z, hz⟩ : ∃ z, z = (f : Int) - 1 := ⟨_, rfl⟩
    have hmx : max (at1 : Int) z = (fin : Int) := by
      have h1 := HFIN.out
      have h2 := HAT.out
      rw [hz, h1, h2]
      omega
    rw [← hz]
    clear hcle hz
    have hw3 := HBW3.out.size
    have hz66 := HZ6.out
    go_upto_region 14 with (first
      | (go_at_call 98; refine (HB2.out _ (HBW6.out.trans (HB10.out.mono HBW6.out.size))).mono ?_; rintro e w11 ⟨v11, ys11, rfl, hr11, hq11, hb⟩; have HB11 := hide (HB10.out.trans (hb.mono HB10.out.size)); have HR11 := hide hr11; have HQ11 := hide hq11; have HT11 := hide (HT6.out.below HB11.out); have hz10 := HB10.out.size; have hz11 := HB11.out.size; have hyl : ys11.length ≤ 100000 := (by have h := HYL.out; rw [← HQ11.out, List.length_map] at h; exact h); clear hb hr11 hq11)
      | fail)
    have t1 : w3.heap.size ≤ w10.heap.size := by omega
    have t2 : ∀ k, (Value.slice (some ⟨g, 0, none⟩) 1 cap).ownBlock = some k → k < w10.heap.size := by
      intro k hk
      obtain rfl : g = k := by simpa [Value.ownBlock] using hk
      omega
    have t2b : ∀ k, (Value.slice (some ⟨g, 0, none⟩) 1 cap).ownBlock = some k → w.heap.size ≤ k := by
      intro k hk
      obtain rfl : g = k := by simpa [Value.ownBlock] using hk
      omega
    have t3 : 0 + 1 + ys11.length ≤ 1000000 := by omega
    have t4 : w3.heap.size ≤ w11.heap.size := by omega
    have t5 : w.heap.size ≤ w11.heap.size := by omega
    go_wp2_with (first
      | (at_builtin; refine wpList_appB (w := w11) rfl (.tmp 88) (.tmp 89) rfl w3.heap.size w10.heap.size _ v11 _ ys11 rfl rfl HT11.out HR11.out t1 t2 t3 t4 ?_; intro v12 w12 hr12 hg12; have HR12 := hide (hr12.mono hw3); have HB12 := hide ((HBW6.out.trans (HB11.out.mono HBW6.out.size)).grown hg12 t5 t2b); clear hr12 hg12)
      | fail)
    go_ret2
    exact ⟨v12, _, rfl, HR12.out, by simp [HQ11.out], HB12.out⟩
end Go.Proofs.YtcmgppacipdnaaaGreatDoor

namespace Go.Proofs.YtcmgppacipdnaaaGreatDoor
open Go.RowKit Go.Shelf Go.Sort

theorem Sg.Ok.cut {s : Sg.St} (h : Sg.Ok s) (k : Nat) (hk : 1 ≤ k) : Sg.Ok { s with edges := s.edges.take k } :=
  have hm : ∀ e ∈ s.edges.take k, e ∈ s.edges := fun _ he => List.mem_of_mem_take he
  ⟨fun e => by
    have h1 := List.length_pos_iff.2 h.ne
    have h2 := congrArg List.length e
    simp only [List.length_take, List.length_nil] at h2
    omega, by have := h.len; simp only [List.length_take]; omega, fun e he => h.off e (hm e he), fun e he => h.pos e (hm e he), fun e he => h.ep e (hm e he), fun e he => h.time e (hm e he), h.every⟩
end Go.Proofs.YtcmgppacipdnaaaGreatDoor

namespace Go.Proofs.YtcmgppacipdnaaaGreatDoor

namespace Vi
end Vi

namespace Rc
/-! The reference's way: greater steps. -/
end Rc
end Go.Proofs.YtcmgppacipdnaaaGreatDoor
