/-
  A log of segments: Pairs.
  HotSizes, walked.
  A log of segments: all of its batches, read one segment after the other.
  A log's segments against its batches, plainly: which batches lie in a segment, their greatest time, the epochs in order.
  The reference's Time.
-/
import Derived.Test.YtcmgppacipdnaaaGreatDoorQHtN
import Derived.Test.YtcmgppacipdnaaaGreatDoorQHt1
import Derived.Test.YtcmgppacipdnaaaGreatDoorQRfV
import Derived.LoopTactic
import Derived.Deep.LoopGhost
import Derived.Test.YtcmgppacipdnaaaGreatDoorQIxBy
import Derived.Test.YtcmgppacipdnaaaGreatDoorQRcQ
namespace Go.Proofs.YtcmgppacipdnaaaGreatDoor
open Go.RowKit Go.Maps

namespace Ht
/-- The epochs of these batches, and where each begins first. -/
def prs (l : List (Int × Int)) : List Ep.Pr := l.foldl (fun acc b => if acc = [] ∨ (Ep.pr acc (acc.length - 1)).ep ≠ b.2 then acc ++ [⟨b.2, b.1⟩] else acc) []
theorem prs_snoc (l : List (Int × Int)) (b : Int × Int) : prs (l ++ [b]) = if prs l = [] ∨ (Ep.pr (prs l) ((prs l).length - 1)).ep ≠ b.2 then prs l ++ [⟨b.2, b.1⟩] else prs l := by
  unfold prs
  rw [List.foldl_append]
  rfl
theorem prs_len (l : List (Int × Int)) : (prs l).length ≤ l.length := by
  have key : ∀ l : List (Int × Int), (prs l.reverse).length ≤ l.reverse.length := fun l => by
    induction l with
    | nil => simp [prs]
    | cons b l ih =>
      rw [List.reverse_cons, prs_snoc, List.length_append, List.length_singleton]
      split
      · rw [List.length_append, List.length_singleton]; omega
      · omega
  have := key l.reverse
  rwa [List.reverse_reverse] at this
end Ht
def OwnPr (w : World) (base : Nat) (v : Value) (l : List Ep.Pr) : Prop := w.ownsRow base 75 2 v l.length (l.flatMap prCells)
set_option maxRecDepth 100000 in
set_option maxHeartbeats 2000000 in
theorem htPairs_A {w0 w : World} {U : Nat → Prop} {n Bd H : Nat} {sz ev room : Int} {gs : List Ht.Gr} (h : HtA w0 U n Bd H sz ev room gs w) (hl : (Ht.bats gs).length ≤ 10000) :
    Calls Tryz.prog 38 #[.pointer (some ⟨H, 0, none⟩)] w fun e w' => ∃ v, e = .returned v ∧ OwnPr w' w.heap.size v (Ht.prs (Ht.bats gs)) ∧ Below w.heap.size w w' := by
  obtain ⟨d, S, C, vs, vb, qs, names, h2, g, h3, rfl⟩ := h
  obtain ⟨A, c, A', c', rfl, rfl, -, hb, -, -, -, -, c4⟩ := h2.cells
  have HB := hide hb
  have HGL := hide hl
  obtain ⟨N, hN⟩ : ∃ N, N = (Ht.bats gs).length := ⟨_, rfl⟩
  rw [← hN] at c4 HGL
  have HN := hide hN.symm
  have hgN : N ≤ 10000 := HGL.out
  clear h2 g h3 hb hl hN
  generalize Ht.bats gs = bats at *
  go_enter Tryz.func38, Tryz.ntmps38
  go_wp2_with fail
  go_loopw [3, 12] (fun v i wr => ∃ k : Nat, k ≤ N ∧ i = .int .i64 k ∧ OwnPr wr w.heap.size v (Ht.prs (bats.take k)) ∧ Below w.heap.size w wr) (fun _ i _ => N - (intOf i).toNat)
  case atStart => exact ⟨0, Nat.zero_le _, rfl, World.ownsRow_nil _ _ _ 2, Below.refl _ _⟩
  case round =>
    obtain ⟨k, hk, rfl, ho, hb⟩ := hrel
    have HO := hide ho
    have HBW := hide hb
    clear ho hb
    by_cases hlt : k < N
    · have hkg : k < bats.length := by rw [HN.out]; exact hlt
      obtain ⟨g0, hA, hg0, k0, k1⟩ := HB.out.at_ k hkg
      subst hA
      replace k0 := (HBW.out.cell (p := ⟨g0, k * 2, none⟩) hg0).trans k0
      replace k1 := (HBW.out.cell (p := ⟨g0, k * 2 + 1, none⟩) hg0).trans k1
      have htk : bats.take (k + 1) = bats.take k ++ [bats.getD k (0, 0)] := by
        rw [List.take_succ_eq_append_getElem hkg]
        simp [List.getD, hkg]
      have hsn := Ht.prs_snoc (bats.take k) (bats.getD k (0, 0))
      rw [← htk] at hsn
      have HSN := hide hsn
      have hle := HB.out.le
      rw [HN.out] at hle
      have hcx : k < c' := by omega
      have hmx := HB.out.mx
      have hpl := Ht.prs_len (bats.take k)
      rw [List.length_take] at hpl
      have HPL : Hid ((Ht.prs (bats.take k)).length ≤ 10000) := hide (by omega)
      clear htk hsn hpl hle
      generalize (bats.getD k (0, 0)) = bv at *
      obtain ⟨bo, be⟩ := bv
      simp only at k0 k1
      generalize Ht.prs (bats.take k) = ps at *
      obtain ⟨ps1, hps1⟩ : ∃ ps1, ps1 = Ht.prs (bats.take (k + 1)) := ⟨_, rfl⟩
      rw [← hps1] at HSN
      have HPS := hide hps1
      clear hps1
      have hba : Below wr.heap.size wr (wr.alloc (.cells #[.int .i64 bo, .int .i64 be] 103)) := balloc (Below.refl _ _) _
      have HBA := hide hba
      have y0 : (wr.alloc (.cells #[.int .i64 bo, .int .i64 be] 103)).cell? ⟨wr.heap.size, 0, none⟩ = some (.int .i64 bo) := by rw [World.cell?_alloc_mark]; rfl
      have y1 : (wr.alloc (.cells #[.int .i64 bo, .int .i64 be] 103)).cell? ⟨wr.heap.size, 1, none⟩ = some (.int .i64 be) := by rw [World.cell?_alloc_mark]; rfl
      obtain ⟨Av, cv, rfl, hpa, -, -⟩ := pairs_at HO.out
      have hpl := HPL.out
      rcases List.eq_nil_or_concat ps with e | ⟨ps0, lp, e⟩
      · subst e
        have hs1 : ps1 = [⟨be, bo⟩] := by have := HSN.out; simpa using this
        have HS1 := hide hs1
        clear hpl hs1 hba hpa
        rw [List.length_nil]
        go_upto_region 6 with fail
        generalize wr.alloc (.cells #[.int .i64 bo, .int .i64 be] 103) = w1 at *
        generalize wr.heap.size = Bx at y0 y1 ⊢
        go_quiet (fail)
        rename Nat => q
        have HQA : Hid (Below wr.heap.size wr (w1.drewN q)) := hide (below_drewN HBA.out q)
        go_wp2_with (first
          | (at_builtin; refine wpList_appG (w := (w1.drewN q).alloc _) rfl 64 75 2 16 _ (by kernel_rfl) pair_info rfl (by omega) (.tmp 31) (.tmp 37) rfl w.heap.size _ 0 [] rfl (ownsRow_same HO.out fun g hg => (HQA.out.trans ((balloc (Below.refl _ _) _ : Below (w1.drewN q).heap.size (w1.drewN q) _).mono HQA.out.size)).block g (HO.out.lt g hg).2) ⟨(w1.drewN q).heap.size, 0, none⟩ 1 1 [.int .i64 be, .int .i64 bo] rfl rfl (news2 (w := w1.drewN q)) (by intro u hu; simp at hu; rcases hu with rfl | rfl <;> rfl) (by simp only [maxLen]; omega) (by omega) (by have h1 := HBW.out.size; have h2 := HQA.out.size; simp at h2 ⊢; omega) ?_; intro v4 w4 hown4 hg4 hv4; have HO4 := hide hown4; have HB4 : Hid (Below w.heap.size w w4) := hide ((HBW.out.trans ((HQA.out.trans ((balloc (Below.refl _ _) _).mono HQA.out.size)).mono HBW.out.size)).grown hg4 (by have h1 := HBW.out.size; have h2 := HQA.out.size; simp at h2 ⊢; omega) (fun g hg => (HO.out.lt g hg).1)); clear hown4 hg4 hv4)
          | fail)
        refine ⟨⟨k + 1, by omega, by simp, ?_, HB4.out⟩, by simp [intOf]; omega⟩
        have := HO4.out
        unfold OwnPr
        rw [← HPS.out, HS1.out]
        exact this
      · rw [List.concat_eq_append] at e
        subst e
        obtain ⟨g1, o1, rfl, hg1, z0, -⟩ := hpa.at_ ps0.length (by simp)
        have hlp : Ep.pr (ps0 ++ [lp]) ps0.length = lp := by simp [Ep.pr, List.getD]
        rw [hlp] at z0
        have hs1 := HSN.out
        rw [List.length_append, List.length_singleton, Nat.add_sub_cancel, hlp] at hs1
        rw [List.length_append, List.length_singleton] at hpl
        have hple := hpa.le
        rw [List.length_append, List.length_singleton] at hple
        have hpmx := hpa.mx
        have HS1 := hide hs1
        have HLL : Hid ((ps0 ++ [lp]).length = ps0.length + 1) := hide (by simp)
        rw [HLL.out]
        obtain ⟨le_, ls⟩ := lp
        simp only at z0
        replace z0 := (hba.cell (p := ⟨g1, o1 + ps0.length * 2, none⟩) hg1).trans z0
        clear hs1 hba hpa hlp HPL HSN
        generalize hm : ps0.length = m at *
        have hwm : IntKind.i64.wrap (((m : Int) + 1) - 1) = (m : Int) := by rw [IntKind.wrap_i64]; omega
        have hz : ((m : Int) + 1 == 0) = false := by rw [beq_eq_false_iff_ne]; omega
        clear hm
        by_cases heq : le_ = be
        · subst heq
          have h1 : ps1 = ps0 ++ [⟨le_, ls⟩] := by have := HS1.out; simpa using this
          have H1 := hide h1
          clear HS1 h1
          go_upto_region 6 with fail
          generalize wr.alloc (.cells #[.int .i64 bo, .int .i64 le_] 103) = w1 at *
          generalize wr.heap.size = Bx at y0 y1 ⊢
          go_quiet (fail)
          rename Nat => q
          have HQA : Hid (Below wr.heap.size wr (w1.drewN q)) := hide (below_drewN HBA.out q)
          go_wp2_with fail
          refine ⟨⟨k + 1, by omega, by simp, ?_, HBW.out.trans (HQA.out.mono HBW.out.size)⟩, by simp [intOf]; omega⟩
          rw [← HPS.out, H1.out]
          have := ownsRow_same (w' := w1.drewN q) HO.out fun g hg => HQA.out.block g (HO.out.lt g hg).2
          rw [HLL.out] at this
          unfold OwnPr
          rw [HLL.out]
          exact this
        · have hne : (le_ != be) = true := by simpa using heq
          have h1 : ps1 = ps0 ++ [⟨le_, ls⟩] ++ [⟨be, bo⟩] := by have := HS1.out; rw [if_pos (.inr heq)] at this; exact this
          have H1 := hide h1
          have HOX := hide HO.out
          unfold OwnPr at HOX
          rw [HLL.out] at HOX
          clear HS1 h1 heq
          go_upto_region 6 with fail
          generalize wr.alloc (.cells #[.int .i64 bo, .int .i64 be] 103) = w1 at *
          generalize wr.heap.size = Bx at y0 y1 ⊢
          go_quiet (fail)
          rename Nat => q
          have HQA : Hid (Below wr.heap.size wr (w1.drewN q)) := hide (below_drewN HBA.out q)
          go_wp2_with (first
            | (at_builtin; refine wpList_appG (w := (w1.drewN q).alloc _) rfl 64 75 2 16 _ (by kernel_rfl) pair_info rfl (by omega) (.tmp 31) (.tmp 37) rfl w.heap.size (.slice (some ⟨g1, o1, none⟩) (m + 1) cv) (m + 1) ((ps0 ++ [(⟨le_, ls⟩ : Ep.Pr)]).flatMap prCells) rfl (ownsRow_same HOX.out fun g hg => (HQA.out.trans ((balloc (Below.refl _ _) _ : Below (w1.drewN q).heap.size (w1.drewN q) _).mono HQA.out.size)).block g (HOX.out.lt g hg).2) ⟨(w1.drewN q).heap.size, 0, none⟩ 1 1 [.int .i64 be, .int .i64 bo] rfl rfl (news2 (w := w1.drewN q)) (by intro u hu; simp at hu; rcases hu with rfl | rfl <;> rfl) (by simp only [maxLen]; omega) (by omega) (by have h1 := HBW.out.size; have h2 := HQA.out.size; simp at h2 ⊢; omega) ?_; intro v4 w4 hown4 hg4 hv4; have HO4 := hide hown4; have HB4 : Hid (Below w.heap.size w w4) := hide ((HBW.out.trans ((HQA.out.trans ((balloc (Below.refl _ _) _).mono HQA.out.size)).mono HBW.out.size)).grown hg4 (by have h1 := HBW.out.size; have h2 := HQA.out.size; simp at h2 ⊢; omega) (fun g hg => (HOX.out.lt g hg).1)); clear hown4 hg4 hv4)
            | fail)
          refine ⟨⟨k + 1, by omega, by simp, ?_, HB4.out⟩, by simp [intOf]; omega⟩
          have := HO4.out
          unfold OwnPr
          rw [← HPS.out, H1.out, List.length_append, HLL.out, List.flatMap_append]
          exact this
    · obtain rfl : k = N := by omega
      go_wp2_with fail
      go_ret
      refine ⟨_, rfl, ?_, HBW.out⟩
      have h := HO.out
      rw [List.take_of_length_le (by have := HN.out; omega)] at h
      exact h
end Go.Proofs.YtcmgppacipdnaaaGreatDoor

namespace Go.Proofs.YtcmgppacipdnaaaGreatDoor
open Go.RowKit Go.Maps

section
variable {w0 w : World} {U : Nat → Prop} {n Bd H : Nat} {sz base : Int} {cs : List Rc.Bat}
theorem htPairs_grp {ev room : Int} (h : HtA w0 U n Bd H sz ev room (Ht.grp sz base cs) w) (hl : cs.length ≤ 10000) :
    Calls Tryz.prog 38 #[.pointer (some ⟨H, 0, none⟩)] w fun e w' => ∃ v, e = .returned v ∧ OwnPr w' w.heap.size v (Ht.prs (cs.map Ht.pr)) ∧ Below w.heap.size w w' := by
  have e : Ht.bats (Ht.grp sz base cs) = cs.map Ht.pr := by rw [Ht.bats_all, (Ht.grp_all sz base cs).1]
  have := htPairs_A h (by rw [e, List.length_map]; exact hl)
  rw [e] at this
  exact this
end
theorem OwnPr.at_ {w : World} {base : Nat} {v : Value} {l : List Ep.Pr} (h : OwnPr w base v l) : ∃ A c, v = .slice A l.length c ∧ PrAt w A c l := by
  obtain ⟨A, c, e, hp, -⟩ := pairs_at h
  exact ⟨A, c, e, hp⟩

end Go.Proofs.YtcmgppacipdnaaaGreatDoor

namespace Go.Proofs.YtcmgppacipdnaaaGreatDoor
open Go.RowKit Go.Maps

namespace Ht
/-- Segments without a gap, none of them empty. -/
def Tight : Int → List Gr → Prop
  | _, [] => True
  | e, g :: gs => g.1 = e ∧ g.2 ≠ [] ∧ Tight (lastOff g.1 g.2) gs
def endT : Int → List Gr → Int
  | e, [] => e
  | _, g :: gs => endT (lastOff g.1 g.2) gs
theorem tight_snoc : ∀ (gs : List Gr) (e : Int) (g : Gr), Tight e (gs ++ [g]) ↔ Tight e gs ∧ g.1 = endT e gs ∧ g.2 ≠ []
  | [], e, g => by simp [Tight, endT]
  | x :: gs, e, g => by
    simp only [List.cons_append, Tight, endT, tight_snoc gs]
    constructor
    · rintro ⟨h1, h2, h3, h4⟩; exact ⟨⟨h1, h2, h3⟩, h4⟩
    · rintro ⟨⟨h1, h2, h3⟩, h4⟩; exact ⟨h1, h2, h3, h4⟩
theorem endT_snoc : ∀ (gs : List Gr) (e : Int) (g : Gr), endT e (gs ++ [g]) = lastOff g.1 g.2
  | [], e, g => rfl
  | x :: gs, e, g => by simp only [List.cons_append, endT, endT_snoc gs]
theorem tight_at (gs : List Gr) (e : Int) (h : Tight e gs) (k : Nat) (hk : k < gs.length) : gs[k].1 = endT e (gs.take k) ∧ gs[k].2 ≠ [] := by
  have e1 : gs = gs.take (k + 1) ++ gs.drop (k + 1) := (List.take_append_drop _ _).symm
  have key : ∀ (a b : List Gr) (e : Int), Tight e (a ++ b) → Tight e a := fun a => by
    induction a with
    | nil => intro b e _; trivial
    | cons x a ih => intro b e h; exact ⟨h.1, h.2.1, ih b _ h.2.2⟩
  rw [e1] at h
  have h2 := key _ _ _ h
  rw [List.take_succ_eq_append_getElem hk, tight_snoc] at h2
  exact h2.2
theorem grp_tight (sz base : Int) (cs : List Rc.Bat) (s0 : Sg.St) (hso : (Sg.last s0.edges).off = base) (hch : Sg.Chain s0 cs) : cs = [] ∨ Tight base (grp sz base cs) := by
  induction cs using snoc_ind with
  | nil => exact .inl rfl
  | snoc cs b ih =>
    have hch2 := Sg.Chain.append.1 hch
    obtain ⟨g0, o, ds, e, hlo, hne⟩ := grp_last sz base cs
    have hfol := hch2.2.1
    unfold Sg.follows at hfol
    rw [Bool.and_eq_true, decide_eq_true_eq, decide_eq_true_eq, chain_last hso] at hfol
    refine .inr ?_
    rw [grp_snoc, e]
    rcases ih hch2.1 with h0 | h
    · have hall := (grp_all sz base cs).1
      subst h0
      have e2 : g0 ++ [(o, ds)] = [(base, [])] := e.symm
      have e3 : ([] : List Gr) ++ [(base, ([] : List Rc.Bat))] = g0 ++ [(o, ds)] := e2.symm
      obtain ⟨e4, e5⟩ := List.append_inj' e3 rfl
      injection e5 with e5 _
      injection e5 with e5 e6
      subst e4 e5 e6
      rw [add_small (by simp [big, size])]
      exact ⟨rfl, by simp, trivial⟩
    · rw [e] at h
      have h2 := (tight_snoc g0 base (o, ds)).1 h
      cases hb : big sz ds b
      · rw [add_small hb, tight_snoc]
        exact ⟨h2.1, h2.2.1, by simp⟩
      · rw [add_big hb, tight_snoc]
        refine ⟨h, ?_, by simp⟩
        rw [endT_snoc]
        show b.base = lastOff o ds
        rw [hlo]; exact hfol.1
theorem tight_app : ∀ (a : List Gr) (e : Int) (b : List Gr), Tight e (a ++ b) → Tight e a ∧ Tight (endT e a) b
  | [], _, _, h => ⟨trivial, h⟩
  | x :: a, e, b, h => by
    have := tight_app a _ b h.2.2
    exact ⟨⟨h.1, h.2.1, this.1⟩, this.2⟩
theorem endT_app : ∀ (a : List Gr) (e : Int) (b : List Gr), endT e (a ++ b) = endT (endT e a) b
  | [], _, _ => rfl
  | x :: a, e, b => by simp only [List.cons_append, endT, endT_app a]
theorem endT_le : ∀ (gs : List Gr) (e : Int), Tight e gs → (∀ g ∈ gs, g.1 ≤ lastOff g.1 g.2) → e ≤ endT e gs
  | [], _, _, _ => Int.le_refl _
  | x :: gs, e, h, h1 => by
    have h2 := endT_le gs _ h.2.2 (fun g hg => h1 g (List.mem_cons_of_mem _ hg))
    have h3 := h1 x List.mem_cons_self
    have h4 := h.1
    show e ≤ endT (lastOff x.1 x.2) gs
    omega
theorem endT_take (gs : List Gr) (e : Int) (h : Tight e gs) (h1 : ∀ g ∈ gs, g.1 ≤ lastOff g.1 g.2) (k : Nat) (_hk : k ≤ gs.length) : endT e (gs.take k) ≤ endT e gs := by
  have e1 : gs = gs.take k ++ gs.drop k := (List.take_append_drop _ _).symm
  have h2 := (tight_app (gs.take k) e (gs.drop k) (by rw [← e1]; exact h)).2
  have h3 := endT_le _ _ h2 (fun g hg => h1 g (List.mem_of_mem_drop hg))
  rw [← endT_app, ← e1] at h3
  exact h3
theorem all_take (gs : List Gr) (k : Nat) (hk : k < gs.length) : all (gs.take (k + 1)) = all (gs.take k) ++ gs[k].2 := by
  unfold all
  rw [List.take_succ_eq_append_getElem hk, List.flatMap_append]
  simp
end Ht
theorem Mz.head {d : Dk.St} {s : Sg.St} {room used : Int} {names : Dk.Dir} {base ev : Int} {x : Nat} {bs : List Rc.Bat} (h : Mz d s room used names base ev x bs) (hne : 0 < bs.length) : bs[0].base = base := by
  rw [Sg.ed_base (Sg.begin (Nm.seg base) base ev) rfl bs h.chain 0 hne, Sg.adds_ed _ _ 0 (by simp [Sg.begin])]
  rfl
theorem BRow.slice {w : World} {lo : Nat} {v : Value} {ps : List PBat} (h : BRow w lo v ps) : ∃ A c, v = .slice A ps.length c ∧ Bats w A (ps.map (·.b)) := by
  obtain ⟨A, c, e, -, -, hb⟩ := h.val
  exact ⟨A, c, e, hb⟩
end Go.Proofs.YtcmgppacipdnaaaGreatDoor

namespace Go.Proofs.YtcmgppacipdnaaaGreatDoor
open Go.RowKit Go.Maps

namespace Ht
/-- Does the batch begin in the segment? -/
def inSeg (g : Gr) (b : Rc.Bat) : Bool := decide (g.1 ≤ b.base) && decide (b.base < lastOff g.1 g.2)
theorem filter_at (gs : List Gr) (hc : Cont gs) (hb : ∀ g ∈ gs, ∀ b ∈ g.2, g.1 ≤ b.base ∧ b.base < lastOff g.1 g.2) (i : Nat) (hi : i < gs.length) : (all gs).filter (inSeg gs[i]) = gs[i].2 := by
  have e : gs = gs.take i ++ gs[i] :: gs.drop (i + 1) := by
    rw [← List.drop_eq_getElem_cons hi, List.take_append_drop]
  have hp := List.pairwise_iff_getElem.1 hc.two
  have e2 : all gs = all (gs.take i) ++ (gs[i].2 ++ all (gs.drop (i + 1))) := by
    conv => lhs; rw [e]
    unfold all
    rw [List.flatMap_append, List.flatMap_cons]
  rw [e2, List.filter_append, List.filter_append]
  have h1 : (all (gs.take i)).filter (inSeg gs[i]) = [] := by
    rw [List.filter_eq_nil_iff]
    intro b hb1
    obtain ⟨g, hg, hb2⟩ := List.mem_flatMap.1 hb1
    obtain ⟨j, hj, rfl⟩ := List.getElem_of_mem hg
    rw [List.length_take] at hj
    rw [List.getElem_take] at hb2
    have h2 := hp j i (by omega) hi (by omega)
    have h3 := hb gs[j] (List.getElem_mem _) b hb2
    simp [inSeg]
    omega
  have h2 : (all (gs.drop (i + 1))).filter (inSeg gs[i]) = [] := by
    rw [List.filter_eq_nil_iff]
    intro b hb1
    obtain ⟨g, hg, hb2⟩ := List.mem_flatMap.1 hb1
    obtain ⟨j, hj, rfl⟩ := List.getElem_of_mem hg
    rw [List.length_drop] at hj
    rw [List.getElem_drop] at hb2
    have h2 := hp i (i + 1 + j) hi (by omega) (by omega)
    have h3 := hb (gs[i + 1 + j]'(by omega)) (List.getElem_mem _) b hb2
    simp [inSeg]
    omega
  have h3 : gs[i].2.filter (inSeg gs[i]) = gs[i].2 := by
    rw [List.filter_eq_self]
    intro b hb1
    have := hb gs[i] (List.getElem_mem _) b hb1
    simp [inSeg, this]
  rw [h1, h2, h3]
  simp
theorem take_ne {cs : List Rc.Bat} {k : Nat} (hk : k + 1 < cs.length) : cs.take (k + 1) ≠ [] := fun e => by
  have := congrArg List.length e
  rw [List.length_take, List.length_nil] at this
  omega
/-- The greatest time, nothing being at 0. -/
def timeOf (bs : List Rc.Bat) : Int := bs.foldl (fun t b => max t (Rc.maxT b.recs)) 0
theorem timeOf_snoc (bs : List Rc.Bat) (b : Rc.Bat) : timeOf (bs ++ [b]) = max (timeOf bs) (Rc.maxT b.recs) := by simp [timeOf]
theorem time_last (o ev : Int) (bs : List Rc.Bat) (hT : ∀ b ∈ bs, 0 ≤ Rc.maxT b.recs) : (Sg.last (Sg.adds (Sg.begin (Nm.seg o) o ev) bs).edges).time = timeOf bs := by
  have key : ∀ j, j ≤ bs.length → (Sg.eAt (Sg.begin (Nm.seg o) o ev) bs j).time = timeOf (bs.take j) := fun j => by
    induction j with
    | zero => intro _; rfl
    | succ j ih =>
      intro hj
      rw [eAt_next hT j (by omega), ih (by omega), List.take_succ_eq_append_getElem (by omega), timeOf_snoc]
  have h := key bs.length (Nat.le_refl _)
  rw [List.take_length] at h
  rw [← h]
  unfold Sg.eAt
  rw [List.take_length]
/-- The pairs of some batches, at the next one. -/
theorem prs_next (bs : List Rc.Bat) (hne : bs ≠ []) : prs (bs.map pr) ≠ [] ∧ (Ep.pr (prs (bs.map pr)) ((prs (bs.map pr)).length - 1)).ep = lastEp bs := by
  induction bs using snoc_ind with
  | nil => exact absurd rfl hne
  | snoc bs b ih =>
    rw [List.map_append, List.map_singleton, prs_snoc, lastEp_snoc]
    split
    · refine ⟨by simp, ?_⟩
      simp [Ep.pr, List.getD, pr]
    · rename_i h
      rw [not_or] at h
      refine ⟨h.1, ?_⟩
      have := Classical.not_not.1 h.2
      rw [this]
      rfl
theorem prs_pre (bs cs : List Rc.Bat) : ∃ t, prs ((bs ++ cs).map pr) = prs (bs.map pr) ++ t := by
  induction cs using snoc_ind with
  | nil => exact ⟨[], by simp⟩
  | snoc cs b ih =>
    obtain ⟨t, e⟩ := ih
    rw [← List.append_assoc, List.map_append, List.map_singleton, prs_snoc, e]
    split
    · exact ⟨t ++ [⟨(pr b).2, (pr b).1⟩], by rw [List.append_assoc]⟩
    · exact ⟨t, rfl⟩
/-- The batch k and the pairs of those ahead of it: one more where its epoch is another. -/
theorem prs_at (cs : List Rc.Bat) (k : Nat) (hk : k < cs.length) (hd : k = 0 ∨ ∃ h : k - 1 < cs.length, cs[k].epoch ≠ cs[k - 1].epoch) : prs ((cs.take (k + 1)).map pr) = prs ((cs.take k).map pr) ++ [⟨cs[k].epoch, cs[k].base⟩] := by
  rw [List.take_succ_eq_append_getElem hk, List.map_append, List.map_singleton, prs_snoc, if_pos]
  · rfl
  · rcases hd with rfl | ⟨h, hd⟩
    · exact .inl rfl
    · rcases Nat.eq_zero_or_pos k with rfl | hp
      · exact .inl rfl
      · obtain ⟨j, rfl⟩ : ∃ j, k = j + 1 := ⟨k - 1, by omega⟩
        refine .inr ?_
        rw [(prs_next (cs.take (j + 1)) (take_ne hk)).2, List.take_succ_eq_append_getElem (by omega), lastEp_snoc]
        simp only [Nat.add_sub_cancel] at hd
        exact fun e => hd e.symm
theorem prs_same (cs : List Rc.Bat) (k : Nat) (hk : k + 1 < cs.length) (hd : cs[k + 1].epoch = cs[k].epoch) : prs ((cs.take (k + 1 + 1)).map pr) = prs ((cs.take (k + 1)).map pr) := by
  have h := prs_next (cs.take (k + 1)) (take_ne hk)
  rw [List.take_succ_eq_append_getElem hk, List.map_append, List.map_singleton, prs_snoc, if_neg]
  rw [not_or]
  refine ⟨h.1, ?_⟩
  rw [h.2, List.take_succ_eq_append_getElem (by omega), lastEp_snoc, Classical.not_not]
  exact hd.symm
theorem base_at {s0 : Sg.St} {base : Int} {cs : List Rc.Bat} (hso : (Sg.last s0.edges).off = base) (hch : Sg.Chain s0 cs) (k : Nat) (hk : k < cs.length) : cs[k].base = lastOff base (cs.take k) := by
  have hfol := chain_next hch k hk
  unfold Sg.follows at hfol
  rw [Bool.and_eq_true, decide_eq_true_eq, decide_eq_true_eq, chain_last hso] at hfol
  exact hfol.1
end Ht
section
variable {w0 w : World} {U : Nat → Prop} {n Bd H : Nat} {sz ev room : Int} {gs : List Ht.Gr}
theorem HtA.inner (h : HtA w0 U n Bd H sz ev room gs w) : ∀ g ∈ gs, (∀ b ∈ g.2, g.1 ≤ b.base ∧ b.base < Ht.lastOff g.1 g.2) ∧ (g.2 ≠ [] → g.1 < Ht.lastOff g.1 g.2) := by
  obtain ⟨d, S, C, vs, vb, qs, names, -, g, h3, -⟩ := h
  subst h3
  intro x hx
  obtain ⟨q, hq, rfl⟩ := List.mem_map.1 hx
  have hm := g.mz q hq
  refine ⟨fun b hb => ?_, fun hne => ?_⟩
  · obtain ⟨j, hj, rfl⟩ := List.getElem_of_mem hb
    have h1 := hm.bounds j hj
    have h2 := (hm.good _ hb).n0
    simp only at h2 ⊢
    omega
  · have := hm.base_lt hne
    rw [hm.lastOff.1] at this
    exact this
end
end Go.Proofs.YtcmgppacipdnaaaGreatDoor

namespace Go.Proofs.YtcmgppacipdnaaaGreatDoor
open Go.RowKit

set_option maxRecDepth 100000 in
set_option maxHeartbeats 1000000 in
theorem rtime_any (base epoch : Int) (rs : List Rc.Rec) (A : Option Addr) (cap n : Nat) (w : World) (hn : rs.length = n) (hm : n ≤ 9223372036854775807) (hr : Recs w A rs) :
    Calls Tryz.prog 40 #[batV base epoch A n cap] w fun e w' => e = .returned (.int .i64 (Rc.maxT rs)) ∧ Below w.heap.size w w' := by
  subst hn
  obtain ⟨W1, hW1⟩ : ∃ W1, W1 = w.alloc (.cells #[.int .i64 base, .int .i64 epoch, .slice A rs.length cap] 36) := ⟨_, rfl⟩
  have hbb : Below w.heap.size w W1 := by rw [hW1]; exact balloc (Below.refl _ _) _
  have x2 : W1.cell? ⟨w.heap.size, 2, none⟩ = some (.slice A rs.length cap) := by rw [hW1, World.cell?_alloc_mark]; rfl
  have hgz : w.heap.size < W1.heap.size := by rw [hW1]; simp
  have HB0 := hide hbb
  have HR := hide (hr.below hbb (Nat.le_refl _))
  obtain ⟨g, hg⟩ : ∃ g, g = w.heap.size := ⟨_, rfl⟩
  rw [← hg] at x2 hgz
  obtain ⟨n, hn⟩ : ∃ n, n = rs.length := ⟨_, rfl⟩
  have HN := hide hn
  rw [← hn] at x2 hW1 hm ⊢
  clear hbb hr hn
  go_enter Tryz.func40, Tryz.ntmps40
  go_upto_region 1 with fail
  rw [← hW1, ← hg]
  clear hW1 hg
  go_wp2_with fail
  go_loopw [3, 4] (fun m i wr => ∃ k : Nat, k ≤ n ∧ i = .int .i64 k ∧ m = .int .i64 (Rc.maxT (rs.take k)) ∧ Below W1.heap.size W1 wr) (fun _ i _ => n - (intOf i).toNat)
  case atStart => exact ⟨0, Nat.zero_le _, rfl, rfl, Below.refl _ _⟩
  case round =>
    obtain ⟨k, hk, rfl, rfl, hb⟩ := hrel
    have HBK := hide hb
    have y2 := (hb.cell (p := ⟨g, 2, none⟩) hgz).trans x2
    clear hb
    by_cases hlt : k < n
    · have hkl : k < rs.length := by rw [← HN.out]; exact hlt
      rcases HR.out with h0 | ⟨b', off', rfl, hb0', hcl⟩
      · rw [h0] at hkl; simp at hkl
      obtain ⟨Ak', ck', Av', cv', d0, -⟩ := (hcl k hkl).ex
      have d0 := (HBK.out.cell (p := ⟨b', off' + k * 3, none⟩) hb0').trans d0
      have e2 : rs.take (k + 1) = rs.take k ++ [rs.getD k default] := by
        rw [List.take_succ_eq_append_getElem hkl]; simp [List.getD, hkl]
      have dln : decide (k < n) = true := decide_eq_true hlt
      by_cases h0 : k = 0
      · subst h0
        rw [Nat.zero_mul, Nat.add_zero] at d0
        have e3 : Rc.maxT (rs.take (0 + 1)) = (rs.getD 0 default).t := by rw [e2]; rfl
        have HE3 := hide e3
        clear hcl e2 e3
        generalize (rs.getD 0 default).t = t at *
        go_wp2_with fail
        go_roundw
        case rel => exact ⟨0 + 1, by omega, by go_num, by rw [HE3.out], HBK.out⟩
        case measure => simp [intOf]; omega
      · have e3 : Rc.maxT (rs.take (k + 1)) = max (Rc.maxT (rs.take k)) (rs.getD k default).t := by
          rw [e2, Rc.maxT_snoc _ _ (by intro h; have := congrArg List.length h; rw [List.length_take, List.length_nil] at this; omega)]
        have HE3 := hide e3
        have d00 : ((k : Int) == 0) = false := by simp; omega
        clear hcl e2 e3
        generalize (rs.getD k default).t = t at *
        generalize Rc.maxT (rs.take k) = mk at *
        by_cases hx : mk < t
        · have dx : decide (mk < t) = true := decide_eq_true hx
          rw [show max mk t = t by omega] at HE3
          clear hx
          go_wp2_with fail
          go_roundw
          case rel => exact ⟨k + 1, by omega, by go_num, by rw [HE3.out], HBK.out⟩
          case measure => simp [intOf]; omega
        · have dx : decide (mk < t) = false := decide_eq_false hx
          rw [show max mk t = mk by omega] at HE3
          clear hx
          go_wp2_with fail
          go_roundw
          case rel => exact ⟨k + 1, by omega, by go_num, by rw [HE3.out], HBK.out⟩
          case measure => simp [intOf]; omega
    · obtain rfl : k = n := by omega
      have htk : rs.take k = rs := List.take_of_length_le (by rw [HN.out]; exact Nat.le_refl _)
      rw [htk]
      have dln : decide (k < k) = false := decide_eq_false (by omega)
      go_wp2_with fail
      go_ret
      exact ⟨rfl, HB0.out.trans (HBK.out.mono HB0.out.size)⟩
end Go.Proofs.YtcmgppacipdnaaaGreatDoor
