/-
  A log of segments: Pairs.
  HotSizes, walked.
-/
import Derived.Test.YtcmgppacipdnaaaGreatDoorQHtN
import Derived.Test.YtcmgppacipdnaaaGreatDoorQEp
import Derived.Test.YtcmgppacipdnaaaGreatDoorQHtR
namespace Go.Proofs.YtcmgppacipdnaaaGreatDoor
open Go.RowKit Go.Maps

namespace Ht
/-- The epochs of these batches, and where each begins first. -/
def prs (l : List (Int × Int)) : List Ep.Pr := l.foldl (fun acc b => if acc = [] ∨ (Ep.pr acc (acc.length - 1)).ep ≠ b.2 then acc ++ [⟨b.2, b.1⟩] else acc) []
theorem prs_snoc (l : List (Int × Int)) (b : Int × Int) : prs (l ++ [b]) = if prs l = [] ∨ (Ep.pr (prs l) ((prs l).length - 1)).ep ≠ b.2 then prs l ++ [⟨b.2, b.1⟩] else prs l := by
  unfold prs
  rw [List.foldl_append]
  rfl
theorem prs_len (l : List (Int × Int)) : (prs l).length ≤ l.length := by
  have key : ∀ l : List (Int × Int), (prs l.reverse).length ≤ l.reverse.length := fun l => by
    induction l with
    | nil => simp [prs]
    | cons b l ih =>
      rw [List.reverse_cons, prs_snoc, List.length_append, List.length_singleton]
      split
      · rw [List.length_append, List.length_singleton]; omega
      · omega
  have := key l.reverse
  rwa [List.reverse_reverse] at this
end Ht
def OwnPr (w : World) (base : Nat) (v : Value) (l : List Ep.Pr) : Prop := w.ownsRow base 75 2 v l.length (l.flatMap prCells)
set_option maxRecDepth 100000 in
set_option maxHeartbeats 2000000 in
theorem htPairs_A {w0 w : World} {U : Nat → Prop} {n Bd H : Nat} {sz ev room : Int} {gs : List Ht.Gr} (h : HtA w0 U n Bd H sz ev room gs w) (hl : (Ht.bats gs).length ≤ 10000) :
    Calls Tryz.prog 38 #[.pointer (some ⟨H, 0, none⟩)] w fun e w' => ∃ v, e = .returned v ∧ OwnPr w' w.heap.size v (Ht.prs (Ht.bats gs)) ∧ Below w.heap.size w w' := by
  obtain ⟨d, S, C, vs, vb, qs, names, h2, g, h3, rfl⟩ := h
  obtain ⟨A, c, A', c', rfl, rfl, -, hb, -, -, -, -, c4⟩ := h2.cells
  have HB := hide hb
  have HGL := hide hl
  obtain ⟨N, hN⟩ : ∃ N, N = (Ht.bats gs).length := ⟨_, rfl⟩
  rw [← hN] at c4 HGL
  have HN := hide hN.symm
  have hgN : N ≤ 10000 := HGL.out
  clear h2 g h3 hb hl hN
  generalize Ht.bats gs = bats at *
  go_enter Tryz.func38, Tryz.ntmps38
  go_wp2_with fail
  go_loopw [3, 12] (fun v i wr => ∃ k : Nat, k ≤ N ∧ i = .int .i64 k ∧ OwnPr wr w.heap.size v (Ht.prs (bats.take k)) ∧ Below w.heap.size w wr) (fun _ i _ => N - (intOf i).toNat)
  case atStart => exact ⟨0, Nat.zero_le _, rfl, World.ownsRow_nil _ _ _ 2, Below.refl _ _⟩
  case round =>
    obtain ⟨k, hk, rfl, ho, hb⟩ := hrel
    have HO := hide ho
    have HBW := hide hb
    clear ho hb
    by_cases hlt : k < N
    · have hkg : k < bats.length := by rw [HN.out]; exact hlt
      obtain ⟨g0, hA, hg0, k0, k1⟩ := HB.out.at_ k hkg
      subst hA
      replace k0 := (HBW.out.cell (p := ⟨g0, k * 2, none⟩) hg0).trans k0
      replace k1 := (HBW.out.cell (p := ⟨g0, k * 2 + 1, none⟩) hg0).trans k1
      have htk : bats.take (k + 1) = bats.take k ++ [bats.getD k (0, 0)] := by
        rw [List.take_succ_eq_append_getElem hkg]
        simp [List.getD, hkg]
      have hsn := Ht.prs_snoc (bats.take k) (bats.getD k (0, 0))
      rw [← htk] at hsn
      have HSN := hide hsn
      have hle := HB.out.le
      rw [HN.out] at hle
      have hcx : k < c' := by omega
      have hmx := HB.out.mx
      have hpl := Ht.prs_len (bats.take k)
      rw [List.length_take] at hpl
      have HPL : Hid ((Ht.prs (bats.take k)).length ≤ 10000) := hide (by omega)
      clear htk hsn hpl hle
      generalize (bats.getD k (0, 0)) = bv at *
      obtain ⟨bo, be⟩ := bv
      simp only at k0 k1
      generalize Ht.prs (bats.take k) = ps at *
      obtain ⟨ps1, hps1⟩ : ∃ ps1, ps1 = Ht.prs (bats.take (k + 1)) := ⟨_, rfl⟩
      rw [← hps1] at HSN
      have HPS := hide hps1
      clear hps1
      have hba : Below wr.heap.size wr (wr.alloc (.cells #[.int .i64 bo, .int .i64 be] 103)) := balloc (Below.refl _ _) _
      have HBA := hide hba
      have y0 : (wr.alloc (.cells #[.int .i64 bo, .int .i64 be] 103)).cell? ⟨wr.heap.size, 0, none⟩ = some (.int .i64 bo) := by rw [World.cell?_alloc_mark]; rfl
      have y1 : (wr.alloc (.cells #[.int .i64 bo, .int .i64 be] 103)).cell? ⟨wr.heap.size, 1, none⟩ = some (.int .i64 be) := by rw [World.cell?_alloc_mark]; rfl
      obtain ⟨Av, cv, rfl, hpa, -, -⟩ := pairs_at HO.out
      have hpl := HPL.out
      rcases List.eq_nil_or_concat ps with e | ⟨ps0, lp, e⟩
      · subst e
        have hs1 : ps1 = [⟨be, bo⟩] := by have := HSN.out; simpa using this
        have HS1 := hide hs1
        clear hpl hs1 hba hpa
        rw [List.length_nil]
        go_upto_region 6 with fail
        generalize wr.alloc (.cells #[.int .i64 bo, .int .i64 be] 103) = w1 at *
        generalize wr.heap.size = Bx at y0 y1 ⊢
        go_quiet (fail)
        rename Nat => q
        have HQA : Hid (Below wr.heap.size wr (w1.drewN q)) := hide (below_drewN HBA.out q)
        go_wp2_with (first
          | (at_builtin; refine wpList_appG (w := (w1.drewN q).alloc _) rfl 64 75 2 16 _ (by kernel_rfl) pair_info rfl (by omega) (.tmp 31) (.tmp 37) rfl w.heap.size _ 0 [] rfl (ownsRow_same HO.out fun g hg => (HQA.out.trans ((balloc (Below.refl _ _) _ : Below (w1.drewN q).heap.size (w1.drewN q) _).mono HQA.out.size)).block g (HO.out.lt g hg).2) ⟨(w1.drewN q).heap.size, 0, none⟩ 1 1 [.int .i64 be, .int .i64 bo] rfl rfl (news2 (w := w1.drewN q)) (by intro u hu; simp at hu; rcases hu with rfl | rfl <;> rfl) (by simp only [maxLen]; omega) (by omega) (by have h1 := HBW.out.size; have h2 := HQA.out.size; simp at h2 ⊢; omega) ?_; intro v4 w4 hown4 hg4 hv4; have HO4 := hide hown4; have HB4 : Hid (Below w.heap.size w w4) := hide ((HBW.out.trans ((HQA.out.trans ((balloc (Below.refl _ _) _).mono HQA.out.size)).mono HBW.out.size)).grown hg4 (by have h1 := HBW.out.size; have h2 := HQA.out.size; simp at h2 ⊢; omega) (fun g hg => (HO.out.lt g hg).1)); clear hown4 hg4 hv4)
          | fail)
        refine ⟨⟨k + 1, by omega, by simp, ?_, HB4.out⟩, by simp [intOf]; omega⟩
        have := HO4.out
        unfold OwnPr
        rw [← HPS.out, HS1.out]
        exact this
      · rw [List.concat_eq_append] at e
        subst e
        obtain ⟨g1, o1, rfl, hg1, z0, -⟩ := hpa.at_ ps0.length (by simp)
        have hlp : Ep.pr (ps0 ++ [lp]) ps0.length = lp := by simp [Ep.pr, List.getD]
        rw [hlp] at z0
        have hs1 := HSN.out
        rw [List.length_append, List.length_singleton, Nat.add_sub_cancel, hlp] at hs1
        rw [List.length_append, List.length_singleton] at hpl
        have hple := hpa.le
        rw [List.length_append, List.length_singleton] at hple
        have hpmx := hpa.mx
        have HS1 := hide hs1
        have HLL : Hid ((ps0 ++ [lp]).length = ps0.length + 1) := hide (by simp)
        rw [HLL.out]
        obtain ⟨le_, ls⟩ := lp
        simp only at z0
        replace z0 := (hba.cell (p := ⟨g1, o1 + ps0.length * 2, none⟩) hg1).trans z0
        clear hs1 hba hpa hlp HPL HSN
        generalize hm : ps0.length = m at *
        have hwm : IntKind.i64.wrap (((m : Int) + 1) - 1) = (m : Int) := by rw [IntKind.wrap_i64]; omega
        have hz : ((m : Int) + 1 == 0) = false := by rw [beq_eq_false_iff_ne]; omega
        clear hm
        by_cases heq : le_ = be
        · subst heq
          have h1 : ps1 = ps0 ++ [⟨le_, ls⟩] := by have := HS1.out; simpa using this
          have H1 := hide h1
          clear HS1 h1
          go_upto_region 6 with fail
          generalize wr.alloc (.cells #[.int .i64 bo, .int .i64 le_] 103) = w1 at *
          generalize wr.heap.size = Bx at y0 y1 ⊢
          go_quiet (fail)
          rename Nat => q
          have HQA : Hid (Below wr.heap.size wr (w1.drewN q)) := hide (below_drewN HBA.out q)
          go_wp2_with fail
          refine ⟨⟨k + 1, by omega, by simp, ?_, HBW.out.trans (HQA.out.mono HBW.out.size)⟩, by simp [intOf]; omega⟩
          rw [← HPS.out, H1.out]
          have := ownsRow_same (w' := w1.drewN q) HO.out fun g hg => HQA.out.block g (HO.out.lt g hg).2
          rw [HLL.out] at this
          unfold OwnPr
          rw [HLL.out]
          exact this
        · have hne : (le_ != be) = true := by simpa using heq
          have h1 : ps1 = ps0 ++ [⟨le_, ls⟩] ++ [⟨be, bo⟩] := by have := HS1.out; rw [if_pos (.inr heq)] at this; exact this
          have H1 := hide h1
          have HOX := hide HO.out
          unfold OwnPr at HOX
          rw [HLL.out] at HOX
          clear HS1 h1 heq
          go_upto_region 6 with fail
          generalize wr.alloc (.cells #[.int .i64 bo, .int .i64 be] 103) = w1 at *
          generalize wr.heap.size = Bx at y0 y1 ⊢
          go_quiet (fail)
          rename Nat => q
          have HQA : Hid (Below wr.heap.size wr (w1.drewN q)) := hide (below_drewN HBA.out q)
          go_wp2_with (first
            | (at_builtin; refine wpList_appG (w := (w1.drewN q).alloc _) rfl 64 75 2 16 _ (by kernel_rfl) pair_info rfl (by omega) (.tmp 31) (.tmp 37) rfl w.heap.size (.slice (some ⟨g1, o1, none⟩) (m + 1) cv) (m + 1) ((ps0 ++ [(⟨le_, ls⟩ : Ep.Pr)]).flatMap prCells) rfl (ownsRow_same HOX.out fun g hg => (HQA.out.trans ((balloc (Below.refl _ _) _ : Below (w1.drewN q).heap.size (w1.drewN q) _).mono HQA.out.size)).block g (HOX.out.lt g hg).2) ⟨(w1.drewN q).heap.size, 0, none⟩ 1 1 [.int .i64 be, .int .i64 bo] rfl rfl (news2 (w := w1.drewN q)) (by intro u hu; simp at hu; rcases hu with rfl | rfl <;> rfl) (by simp only [maxLen]; omega) (by omega) (by have h1 := HBW.out.size; have h2 := HQA.out.size; simp at h2 ⊢; omega) ?_; intro v4 w4 hown4 hg4 hv4; have HO4 := hide hown4; have HB4 : Hid (Below w.heap.size w w4) := hide ((HBW.out.trans ((HQA.out.trans ((balloc (Below.refl _ _) _).mono HQA.out.size)).mono HBW.out.size)).grown hg4 (by have h1 := HBW.out.size; have h2 := HQA.out.size; simp at h2 ⊢; omega) (fun g hg => (HOX.out.lt g hg).1)); clear hown4 hg4 hv4)
            | fail)
          refine ⟨⟨k + 1, by omega, by simp, ?_, HB4.out⟩, by simp [intOf]; omega⟩
          have := HO4.out
          unfold OwnPr
          rw [← HPS.out, H1.out, List.length_append, HLL.out, List.flatMap_append]
          exact this
    · obtain rfl : k = N := by omega
      go_wp2_with fail
      go_ret
      refine ⟨_, rfl, ?_, HBW.out⟩
      have h := HO.out
      rw [List.take_of_length_le (by have := HN.out; omega)] at h
      exact h
end Go.Proofs.YtcmgppacipdnaaaGreatDoor

namespace Go.Proofs.YtcmgppacipdnaaaGreatDoor
open Go.RowKit Go.Maps

section
variable {w0 w : World} {U : Nat → Prop} {n Bd H : Nat} {sz base : Int} {cs : List Rc.Bat}
theorem htEnd_grp {ev room : Int} (h : HtA w0 U n Bd H sz ev room (Ht.grp sz base cs) w) :
    Calls Tryz.prog 21 #[.pointer (some ⟨H, 0, none⟩)] w fun e w' => e = .returned (.int .i64 (Ht.lastOff base cs)) ∧ Below w.heap.size w w' := by
  obtain ⟨g0, o, ds, e, hlo, -⟩ := Ht.grp_last sz base cs
  rw [e] at h
  rw [← hlo]
  exact htEnd_A h
/-- Of a batch's beginning, with no limit to speak of: this batch alone. -/
theorem htRead_one (h : HtA w0 U n Bd H sz 60 1048576 (Ht.grp sz base cs) w) (p : Nat → Addr) (hs : SentsG w0 p) (ht : Tabs w0) (hn : n ≤ 1000) (s0 : Sg.St) (hso : (Sg.last s0.edges).off = base) (hch : Sg.Chain s0 cs) (hg : ∀ b ∈ cs, Rc.Good b) (hl : cs.length ≤ 100) (hsm : ∀ b ∈ cs, (Rc.bytes b).length ≤ 300) (i : Nat) (hi : i < cs.length) :
    Calls Tryz.prog 24 #[.pointer (some ⟨H, 0, none⟩), .int .i64 cs[i].base, .int .i64 0] w fun e w' => ∃ v, e = .returned (.tuple #[v, .nilIface]) ∧ (∃ ps, BRow w' w.heap.size v ps ∧ ps.map (·.b) = [cs[i]]) ∧ Below w.heap.size w w' := by
  have hall := (Ht.grp_all sz base cs).1
  have hgl := Ht.grp_len sz base cs
  have hus := Ht.grp_used sz base cs
  have hfl := flat_len_le Rc.bytes 300 cs hsm
  obtain ⟨k, j, hk, hj, e⟩ := Ht.all_at (Ht.grp sz base cs) i (by rw [hall]; exact hi)
  have e2 : cs[i] = (Ht.grp sz base cs)[k].2[j] := by rw [← e]; simp only [hall]
  have hgd := hg _ (List.getElem_mem hi)
  have hn0 := hgd.n0
  rw [e2] at hn0
  have hcont := Ht.grp_cont sz base cs s0 hso hch
  obtain ⟨fin, h1, h2, h3, h4⟩ := htRead_A h hcont p hs ht hn (by omega) (by rw [hus]; unfold Ht.size; have : 300 * cs.length ≤ 300 * 100 := Nat.mul_le_mul_left _ hl; omega) k hk j hj 0 hn0 cs[i].base 0 (by rw [e2]; simp)
  have hb0 := Ht.bytes_pos (cutB (Ht.grp sz base cs)[k].2[j] cs[i].base 0)
  have hfin : fin = j + 1 := by omega
  rw [hfin, Nat.sub_self, List.take_zero] at h4
  have ecut : cutB (Ht.grp sz base cs)[k].2[j] cs[i].base 0 = cs[i] := by rw [← e2]; exact cutB_zero _
  rw [ecut] at h4
  exact h4
theorem htPairs_grp {ev room : Int} (h : HtA w0 U n Bd H sz ev room (Ht.grp sz base cs) w) (hl : cs.length ≤ 10000) :
    Calls Tryz.prog 38 #[.pointer (some ⟨H, 0, none⟩)] w fun e w' => ∃ v, e = .returned v ∧ OwnPr w' w.heap.size v (Ht.prs (cs.map Ht.pr)) ∧ Below w.heap.size w w' := by
  have e : Ht.bats (Ht.grp sz base cs) = cs.map Ht.pr := by rw [Ht.bats_all, (Ht.grp_all sz base cs).1]
  have := htPairs_A h (by rw [e, List.length_map]; exact hl)
  rw [e] at this
  exact this
end
theorem BRow.oneB {w : World} {lo : Nat} {v : Value} {ps : List PBat} {b : Rc.Bat} (h : BRow w lo v ps) (hp : ps.map (·.b) = [b]) : ∃ A c, v = .slice A 1 c ∧ Bats w A [b] := by
  obtain ⟨A, c, e, -, -, hb⟩ := h.val
  have hl : ps.length = 1 := by have := congrArg List.length hp; simpa using this
  rw [hl] at e
  rw [hp] at hb
  exact ⟨A, c, e, hb⟩
theorem OwnPr.at_ {w : World} {base : Nat} {v : Value} {l : List Ep.Pr} (h : OwnPr w base v l) : ∃ A c, v = .slice A l.length c ∧ PrAt w A c l := by
  obtain ⟨A, c, e, hp, -⟩ := pairs_at h
  exact ⟨A, c, e, hp⟩

set_option maxRecDepth 100000 in
set_option maxHeartbeats 4000000 in
theorem hotSizes_walk (w : World) (p : Nat → Addr) (hs : SentsG w p) (ht : Tabs w) (hpt : PowTab w) (A : Option Addr) (cap n : Nat) (zs : List Int) (hn : zs.length = n) (hA : Ints w A zs) (hz : ∀ k, k < zs.length → -9223372036854775808 ≤ zs.getD k 0 ∧ zs.getD k 0 ≤ 9223372036854775807) (na nb : Int) (ha1 : -9223372036854775808 ≤ na) (ha2 : na ≤ 9223372036854775807) (hb1 : -9223372036854775808 ≤ nb) (hb2 : nb ≤ 9223372036854775807) :
    Calls Tryz.prog 11 #[.slice A n cap, .int .i64 na, .int .i64 nb] w fun e w' => e = .returned (.bool true) ∧ Below w.heap.size w w' := by
  have HF := hide (htFirst_any w p hs ht hpt)
  have HS := hide hs
  have HT := hide ht
  have HPT := hide hpt
  by_cases hle : n ≤ 20
  · have HRW := hide (fun (W : World) (hW : Below w.heap.size w W) => rowE_any 0 A cap n 3 zs W hn hle (by omega) (by omega) (hA.below hW (Nat.le_refl _)) hz)
    have hxa := num_lt na 500 (by omega)
    have hxb := num_lt nb 500 (by omega)
    obtain ⟨xa, hxa2⟩ : ∃ x, num na 500 = x := ⟨_, rfl⟩
    obtain ⟨xb, hxb2⟩ : ∃ x, num nb 500 = x := ⟨_, rfl⟩
    rw [hxa2] at hxa
    rw [hxb2] at hxb
    have HNA := hide (fun (W : World) => num_at na 500 500 W (by omega) (by omega) (by omega) ha1 ha2)
    have HNB := hide (fun (W : World) => num_at nb 500 500 W (by omega) (by omega) (by omega) hb1 hb2)
    rw [hxa2] at HNA
    rw [hxb2] at HNB
    have hwa : IntKind.i64.wrap ((xa : Int) + 1) = (xa : Int) + 1 := IntWalk.i64_in _ (by omega)
    have hwb : IntKind.i64.wrap ((xb : Int) + 1) = (xb : Int) + 1 := IntWalk.i64_in _ (by omega)
    have hok := Rw.go_ok zs 0 0 3 (by omega) (by omega) (by omega)
    have hgd : ∀ b ∈ Rw.go ((0 : Nat) : Int) 0 3 zs, Rc.Good b := fun b hb => (hok b hb).1
    have hsm := Rw.go_small zs ((0 : Nat) : Int) 0 3 hgd
    have hch := Rw.go_chain zs ((0 : Nat) : Int) 0 3 (Sg.begin (Nm.seg 0) 0 60) rfl (by decide)
    have hln : (Rw.go ((0 : Nat) : Int) 0 3 zs).length = n := by rw [Rw.go_len, hn]
    have HGD := hide hgd
    have HSM := hide hsm
    have HCH := hide hch
    have HLN := hide hln
    clear hok hgd hsm hch hln hs ht hpt hA hz hn ha1 ha2 hb1 hb2 hxa2 hxb2
    generalize Rw.go ((0 : Nat) : Int) 0 3 zs = cs at *
    have HMD := hide (fun (W : World) (hb : Below w.heap.size w W) (A : Option Addr) (cap : Nat) (hbt : Bats W A cs) (sz : Int) (hsz : 1 ≤ sz ∧ sz ≤ 1048576) => htMade_any sz 0 A cap n cs W p (HS.out.below hb) (HT.out.below hb (Nat.le_refl _)) (HPT.out.below hb) HLN.out (by omega) hbt HGD.out HSM.out hsz (by omega) (Sg.begin (Nm.seg 0) 0 60) rfl HCH.out)
    have hnc : (n : Int) ≤ 20 := by omega
    go_enter Tryz.func11, Tryz.ntmps11
    have HRD := hide (fun (k : Nat) (hk : k < cs.length) (w0 W : World) (hb : Below w.heap.size w w0) (U : Nat → Prop) (Bd H : Nat) (sz : Int) (h : HtA w0 U (3 + 5 * n) Bd H sz 60 1048576 (Ht.grp sz 0 cs) W) => htRead_one h p (HS.out.below hb) (HT.out.below hb (Nat.le_refl _)) (by omega) (Sg.begin (Nm.seg 0) 0 60) rfl HCH.out HGD.out (by have := HLN.out; omega) HSM.out k hk)
    have HOKB : Hid (∀ k (hk : k < cs.length), ∀ b ∈ [cs[k]], b.recs.length ≤ 1000000 ∧ ∀ r ∈ b.recs, r.k.length ≤ 1000000 ∧ r.v.length ≤ 1000000) := hide (fun k hk b hb => by
      have hg := HGD.out b (by rw [List.mem_singleton.1 hb]; exact List.getElem_mem hk)
      refine ⟨by have := hg.n1; omega, fun r hr => ?_⟩
      have := hg.recs r hr
      omega)
    go_wp2_with (first
      | (go_at_call 12; refine HF.out.mono ?_; rintro e w1 ⟨rfl, hb⟩; have HB1 := hide hb; clear hb)
      | (go_at_call 15; refine (HRW.out w1 HB1.out).mono ?_; rintro e w2 ⟨⟨A2, c2, rfl, hc2, hm2, hbt2, -⟩, hb2⟩; have HB2 := hide (HB1.out.trans (hb2.mono HB1.out.size)); have HBT := hide hbt2; clear hbt2 hb2)
      | (have := H3.out; clear this; go_at_call 13; refine (HNB.out w3).mono ?_; rintro e w' ⟨rfl, rfl⟩)
      | (go_at_call 13; refine (HNA.out w2).mono ?_; rintro e w' ⟨rfl, rfl⟩)
      | (have := H3.out; clear this; go_at_call 16; refine (HMD.out w3 HB3.out A2 c2 (HBT.out.below H3.out.below (Nat.le_refl _)) ((xb : Int) + 1) (by omega)).mono ?_; rintro e w4 ⟨Bd2, H2, U2, rfl, h4⟩; have H4 := hide h4; have H3B := hide (H3.out.grow h4.below); have HB4 := hide (HB3.out.trans (h4.below.mono HB3.out.size)); clear h4)
      | (go_at_call 16; refine (HMD.out w2 HB2.out A2 c2 HBT.out ((xa : Int) + 1) (by omega)).mono ?_; rintro e w3 ⟨Bd1, H1, U1, rfl, h3⟩; have H3 := hide h3; have HB3 := hide (HB2.out.trans (h3.below.mono HB2.out.size)); clear h3)
      | (have := HE5.out; clear this; go_at_call 21; refine (htEnd_grp (H4.out.grow HE5.out)).mono ?_; rintro e w6 ⟨rfl, hb⟩; have HE6 := hide (HE5.out.trans (hb.mono HE5.out.size)); clear hb)
      | (go_at_call 21; refine (htEnd_grp H3B.out).mono ?_; rintro e w5 ⟨rfl, hb⟩; have HE5 := hide hb; clear hb)
      | fail)
    have HX6 := hide (H3B.out.grow HE6.out)
    have HY6 := hide (H4.out.grow HE6.out)
    have H26 : Hid (Below w2.heap.size w2 w6) := hide (H3.out.below.trans ((H4.out.below.trans (HE6.out.mono H4.out.below.size)).mono H3.out.below.size))
    have HB6 := hide (HB2.out.trans (H26.out.mono HB2.out.size))
    clear HF HRW HNA HNB HMD H3B H4 HE5 HE6
    go_loopw [13] (fun i wr => ∃ k : Nat, k ≤ n ∧ i = .int .i64 k ∧ Below w6.heap.size w6 wr) (fun i _ => n - (intOf i).toNat)
    case atStart => exact ⟨0, Nat.zero_le _, rfl, Below.refl _ _⟩
    case round =>
      obtain ⟨k, hk, rfl, hb⟩ := hrel
      have HBR := hide hb
      clear hb
      by_cases hlt : k < n
      · have hkl : k < cs.length := by rw [HLN.out]; exact hlt
        obtain ⟨b0, o0, hA, hb0, Ax, cx, k0, -, -, -⟩ := HBT.out.at_ k hkl
        subst hA
        have H2R : Hid (Below w2.heap.size w2 wr) := hide (H26.out.trans (HBR.out.mono H26.out.size))
        replace k0 := (H2R.out.cell (p := ⟨b0, o0 + k * 3, none⟩) hb0).trans k0
        have hb0r := Nat.lt_of_lt_of_le hb0 H2R.out.size
        have HR1 := hide (fun (W : World) (hW : Below wr.heap.size wr W) => HRD.out k hkl w2 W HB2.out U1 Bd1 H1 _ ((HX6.out.grow HBR.out).grow hW))
        have HR2 := hide (fun (W : World) (hW : Below wr.heap.size wr W) => HRD.out k hkl w3 W HB3.out U2 Bd2 H2 _ ((HY6.out.grow HBR.out).grow hW))
        have HOB := hide (HOKB.out k hkl)
        generalize cs[k] = cb at *
        generalize cb.base = ba at *
        go_wp2_with (first
          | (have := HB7.out; clear this; go_at_call 24; refine (HR2.out w7 HB7.out).mono ?_; rintro e w8 ⟨v8, rfl, ⟨ps8, hr8, hp8⟩, hb⟩; obtain ⟨A8, c8, rfl, hbt8⟩ := hr8.oneB hp8; have HB8 := hide (HB7.out.trans (hb.mono HB7.out.size)); have HT8 := hide hbt8; have HT78 := hide (HT7.out.below hb (Nat.le_refl _)); clear hr8 hp8 hb hbt8)
          | (go_at_call 24; refine (HR1.out wr (Below.refl _ _)).mono ?_; rintro e w7 ⟨v7, rfl, ⟨ps7, hr7, hp7⟩, hb⟩; obtain ⟨A7, c7, rfl, hbt7⟩ := hr7.oneB hp7; have HB7 := hide hb; have HT7 := hide hbt7; have k07 := (hb.cell (p := ⟨b0, o0 + k * 3, none⟩) hb0r).trans k0; clear hr7 hp7 hb hbt7)
          | (go_at_call 46; refine (sameBatches_eq A7 A8 c7 c8 1 [cb] w8 rfl (by omega) HT78.out HT8.out HOB.out).mono ?_; rintro e w9 ⟨rfl, hb⟩; have HB9 := hide (HB8.out.trans (hb.mono HB8.out.size)); clear hb)
          | fail)
        exact ⟨⟨k + 1, by omega, by simp, HBR.out.trans (HB9.out.mono HBR.out.size)⟩, by simp [intOf]; omega⟩
      · obtain rfl : k = n := by omega
        have hpl := Ht.prs_len (cs.map Ht.pr)
        rw [List.length_map, HLN.out] at hpl
        have HPL := hide hpl
        have HP1 := hide (htPairs_grp (HX6.out.grow HBR.out) (by have := HLN.out; omega))
        have HP2 := hide (fun (W : World) (hW : Below wr.heap.size wr W) => htPairs_grp ((HY6.out.grow HBR.out).grow hW) (by have := HLN.out; omega))
        clear hpl
        generalize Ht.prs (cs.map Ht.pr) = ps at *
        go_wp2_with (first
          | (have := HB7.out; clear this; go_at_call 38; refine (HP2.out w7 HB7.out).mono ?_; rintro e w8 ⟨v8, rfl, ho8, hb⟩; obtain ⟨A8, c8, rfl, hp8⟩ := ho8.at_; have HB8 := hide (HB7.out.trans (hb.mono HB7.out.size)); have HP8 := hide hp8; have HP78 := hide (HP7.out.below hb); clear ho8 hp8 hb)
          | (go_at_call 38; refine HP1.out.mono ?_; rintro e w7 ⟨v7, rfl, ho7, hb⟩; obtain ⟨A7, c7, rfl, hp7⟩ := ho7.at_; have HB7 := hide hb; have HP7 := hide hp7; clear ho7 hp7 hb)
          | (go_at_call 47; refine (samePairs_eq A7 A8 c7 c8 ps.length ps w8 rfl (by have := HPL.out; omega) HP78.out HP8.out).mono ?_; rintro e w9 ⟨rfl, hb⟩; have HB9 := hide (HB8.out.trans (hb.mono HB8.out.size)); clear hb)
          | fail)
        go_ret
        exact ⟨rfl, HB6.out.trans ((HBR.out.trans (HB9.out.mono HBR.out.size)).mono HB6.out.size)⟩
  · go_enter Tryz.func11, Tryz.ntmps11
    go_wp2_with (first
      | (go_at_call 12; refine HF.out.mono ?_; rintro e w1 ⟨rfl, hb⟩; have HB1 := hide hb; clear hb)
      | fail)
    go_ret
    exact ⟨rfl, HB1.out⟩
end Go.Proofs.YtcmgppacipdnaaaGreatDoor
