/-
  A log of segments: a segment more; the last one sealed.
  A log of segments: the last one sealed, Append.
-/
import Derived.Test.YtcmgppacipdnaaaGreatDoorQHtP
import Derived.Test.YtcmgppacipdnaaaGreatDoorQSgO
import Derived.Test.YtcmgppacipdnaaaGreatDoorQRegV
import Derived.StillTailTactics
import Derived.Test.YtcmgppacipdnaaaGreatDoorQSgE
namespace Go.Proofs.YtcmgppacipdnaaaGreatDoor
open Go.RowKit Go.Maps

section
variable {w0 w : World} {S C : Nat → Prop} {n Bd H : Nat} {d : Dk.St} {sz ev : Int} {vs vb : Value} {qs0 qs : List HQ} {q : HQ} {bats : List (Int × Int)}
theorem htU_more {S S' C C' : Nat → Prop} {w w' : World} {qs : List HQ} {q : HQ} (hu : ∀ k, (S' k ∨ q.T k) → Up S w w' k) (hC : ∀ k, C' k → Up C w w' k) (k : Nat) (hk : htU S' C' (qs ++ [q]) k) : Up (htU S C qs) w w' k := by
  have key : Up S w w' k → Up (htU S C qs) w w' k := fun h => h.imp_left .inl
  rcases hk with hk | hk | ⟨a, ha, hk⟩
  · exact key (hu k (.inl hk))
  · exact (hC k hk).imp_left fun h => .inr (.inl h)
  · rcases List.mem_append.1 ha with ha | ha
    · exact .inl (.inr (.inr ⟨a, ha, hk⟩))
    · rw [List.mem_singleton.1 ha] at hk
      exact key (hu k (.inr hk))
/-- What Create has left, when it had no error. -/
def htCrP (w0 wD : World) (S : Nat → Prop) (n Bd : Nat) (s0 : Sg.St) (d3 : Nat → Dk.St) (X : Nat) (W : World) : Prop :=
  ∃ x T S', wD.heap.size ≤ x ∧ SgW w0 S' T (n + 3) Bd (d3 x) X s0 W ∧ Chg S wD W ∧ ∀ k, (S' k ∨ T k) → Up S wD W k
theorem htCrP_grow {w0 wD : World} {S : Nat → Prop} {n Bd : Nat} {s0 : Sg.St} {d3 : Nat → Dk.St} {X : Nat} {W W' : World} (h : htCrP w0 wD S n Bd s0 d3 X W) (hb : Below W.heap.size W W') : htCrP w0 wD S n Bd s0 d3 X W' := by
  obtain ⟨x, T, S', h1, h2, h3, h4⟩ := h
  exact ⟨x, T, S', h1, h2.grow hb, h3.then (Chg.of_below hb), fun k hk => (h4 k hk).imp_right fun h => by have := hb.size; omega⟩
def heldCr (w0 wD : World) (S : Nat → Prop) (n Bd : Nat) (s0 : Sg.St) (d3 : Nat → Dk.St) (mk : Nat → Value) : Held (fun a b : World => Below a.heap.size a b) :=
  ⟨fun v W => ∃ X, v = mk X ∧ htCrP w0 wD S n Bd s0 d3 X W, fun _ _ _ ⟨X, h1, h2⟩ hg => ⟨X, h1, htCrP_grow h2 hg⟩⟩
def heldNo {G : World → World → Prop} : Held G := ⟨fun _ _ => False, fun _ _ _ h _ => h⟩
abbrev mkPtr (X : Nat) : Value := .pointer (some ⟨X, 0, none⟩)
abbrev mkTwo (X : Nat) : Value := .tuple #[.pointer (some ⟨X, 0, none⟩), .nilIface]
set_option maxRecDepth 100000 in
set_option maxHeartbeats 1000000 in
/-- A segment more. -/
theorem htCreate_good (h : HtL w0 S n Bd d H C sz ev vs vb qs bats w) (p : Nat → Addr) (hs : SentsG w0 p) (hpt : PowTab w0) (hn : n ≤ 990) (hlen : qs.length ≤ 10000) (base : Int) (h0 : 0 ≤ base ∧ base ≤ 1099511627776) (h1 : 1 ≤ ev ∧ ev ≤ 1048576) (d3 : Nat → Dk.St) (hcr : ∀ x, sgCrt d (Nm.seg base) x = (none, d3 x)) :
    Calls Tryz.prog 76 #[.pointer (some ⟨H, 0, none⟩), .int .i64 base] w fun e w' => e = .returned .nilIface ∧ ∃ x X T S' C' vs', w.heap.size ≤ x ∧ HtL w0 S' (n + 3) Bd (d3 x) H C' sz ev vs' vb (qs ++ [⟨X, T, Sg.begin (Nm.seg base) base ev, base, x, []⟩]) bats w' ∧ Chg (htU S C qs) w w' ∧ ∀ k, htU S' C' (qs ++ [⟨X, T, Sg.begin (Nm.seg base) base ev, base, x, []⟩]) k → Up (htU S C qs) w w' k := by
  have HD : Hid (Below w.heap.size w w.drew) := hide (Below.refl w.heap.size w).drew
  have HH := hide (h.grow HD.out)
  have hHd : H < w.drew.heap.size := HH.out.lt
  have HC := hide (fun (W : World) (hW : Below w.drew.heap.size w.drew W) => sgCreate_any w0 W S n Bd d base ev p (HH.out.disk.grow hW) hs hn h0 h1 hpt)
  have HCR := hide hcr
  have HNM : Hid ((Sg.begin (Nm.seg base) base ev).file.length ≤ 1000) := hide (by show (Nm.seg base).length ≤ 1000; rw [seg_name h0]; omega)
  have HLN := hide hlen
  obtain ⟨A, c, A', c', rfl, rfl, -, -, c0, -, c2, c3, -⟩ := h.cells
  clear h hs hpt hcr hlen h0 h1 hn
  have x0 : w.drew.cell? ⟨H, 0, none⟩ = some (.pointer (some ⟨Bd, 0, none⟩)) := c0
  have x2 : w.drew.cell? ⟨H, 2, none⟩ = some (.int .i64 ev) := c2
  generalize Sg.begin (Nm.seg base) base ev = s0 at *
  go_enter Tryz.func76, Tryz.ntmps76
  go_upto_region 1 with fail
  refine wp_region_V (G0 := fun a b : World => Below a.heap.size a b) (G1 := fun a b : World => Below a.heap.size a b) (J := fun _ => True) ⟨fun w => Below.refl _ w, fun h k => h.trans (k.mono h.size)⟩ (fun _ _ _ _ => trivial) 10 [8, 9, 10, 11, 12, 13, 14, 15, 16, 17, 18, 7, 19, 20, 5, 6] [8, 9, 10, 11, 12, 13, 14, 15, 16, 17, 18, 7, 19, 20, 5, 6] [0, 1, 2, 3, 4, 5, 6, 7, 8, 9] [11, 12, 13, 14, 15]
    (fun d => match d with | 8 => .is (.pointer (some ⟨H, 0, none⟩)) | 9 => .is (.pointer (some ⟨H, 0, none⟩)) | 10 => .is (.pointer (some ⟨H, 0, none⟩)) | 11 => .is (.pointer (some ⟨Bd, 0, none⟩)) | 12 => .is (.int .i64 base) | 13 => .is (.pointer (some ⟨H, 0, none⟩)) | 14 => .is (.pointer (some ⟨H, 0, none⟩)) | 15 => .is (.pointer (some ⟨H, 1, none⟩)) | 16 => .is (.pointer (some ⟨H, 2, none⟩)) | 17 => .is (.int .i64 ev) | _ => heldNo)
    (fun d => match d with | 18 => heldCr w0 w.drew S n Bd s0 d3 mkTwo | 7 => heldCr w0 w.drew S n Bd s0 d3 mkTwo | 19 => heldCr w0 w.drew S n Bd s0 d3 mkPtr | 20 => .is .nilIface | 5 => heldCr w0 w.drew S n Bd s0 d3 mkPtr | 6 => .is .nilIface | _ => .any) (by kernel_rfl) (by kernel_rfl) (by kernel_rfl) (.inl rfl) ?_ ?_
  · simp only [StepsV]
    refine ⟨?_, ?_, ?_, ?_, ?_, ?_, ?_, ?_, ?_, ?_, ?_, ?_, ?_, ?_, ?_, ?_, trivial⟩
    all_goals first | rw [if_pos (by decide)] | (rw [if_neg (by decide)]; first | rw [if_pos (by decide)] | (rw [if_neg (by decide)]; first | rw [if_pos (by decide)] | (rw [if_neg (by decide)]; refine ⟨?_, ?_⟩)))
    all_goals
      intro ev wb hb hev hd
      have ev0 : ev (.tmp 0) = .pointer (some ⟨H, 0, none⟩) := hev _ (by simp)
      have ev1 : ev (.tmp 1) = .int .i64 base := hev _ (by simp)
      have evf : ∀ f, ev (.func f) = .func (.func f) #[] #[] := fun f => hev _ (by simp)
      have evc : ∀ c, ev (.const c) = c := fun c => hev _ (by simp)
      clear hev
      simp [DepsV, Held.is, Held.any, heldCr] at hd
      try
        have HBb : Hid (Below w.drew.heap.size w.drew wb) := hide hb
        have v0 := (HBb.out.cell (p := ⟨H, 0, none⟩) hHd).trans x0
        have v2 := (HBb.out.cell (p := ⟨H, 2, none⟩) hHd).trans x2
      try (simp [OpGuardU, undef, OpRuns, execOp, go_sem, Held.is, Held.any, Below.refl, *]; done)
    · simp [OpGuardU, OpRuns, execOp, go_sem, heldCr, heldNo, Held.any, *]
      refine (HC.out wb HBb.out).mono fun e w'' ⟨x, hx, hp⟩ => ?_
      rw [HCR.out x] at hp
      obtain ⟨X, S', T', he, hw, hc, hu⟩ := hp
      exact ⟨_, he, X, rfl, x, T', S', by have := HBb.out.size; omega, hw, (Chg.of_below HBb.out).then hc, fun k hk => (hu k hk).imp_right fun h => by have := HBb.out.size; omega⟩
    · obtain ⟨X, e18, hP⟩ := hd
      simp [OpGuardU, OpRuns, execOp, go_sem, e18, heldCr, Below.refl]
      exact hP
    · obtain ⟨X, e18, hP⟩ := hd
      simp [OpGuardU, OpRuns, execOp, go_sem, e18, heldCr, Below.refl]
      exact hP
    · obtain ⟨X, e18, hP⟩ := hd
      simp [OpGuardU, OpRuns, execOp, go_sem, e18, Held.is, Below.refl]
    · obtain ⟨⟨X, e18, hP⟩, -⟩ := hd
      simp [OpGuardU, OpRuns, execOp, go_sem, e18, heldCr, Below.refl]
      exact hP
  · intro f w2 _ hf
    obtain ⟨X, e5, x, T2, S2, hx, hw, hc, hu⟩ := hf 5 (by simp)
    have e6 : f 6 = .nilIface := hf 6 (by simp)
    replace e5 : f 5 = .pointer (some ⟨X, 0, none⟩) := e5
    have HM := hide (HH.out.more hw hc hu)
    have HU := hide hu
    have HCG := hide hc
    have HSG : Hid (SegAt w2 X Bd s0 T2 ∧ Sg.Ok s0) := hide ⟨hw.seg, hw.ok⟩
    have HX := hide hx
    have y3 : w2.cell? ⟨H, 3, none⟩ = some (.slice A qs.length c) := box_cell HM.out.1.box 3
    have hHl := HM.out.1.lt
    clear hf hw hc hu hx c0 c2 c3 x0 x2 HC
    simp only [puts, Act.put, List.setIfInBounds_toArray, List.set_cons_succ, List.set_cons_zero]
    rw [e5, e6]
    clear e5 e6
    generalize f 7 = q7
    generalize f 8 = q8
    generalize f 9 = q9
    generalize f 10 = q10
    generalize f 11 = q11
    generalize f 12 = q12
    generalize f 13 = q13
    generalize f 14 = q14
    generalize f 15 = q15
    generalize f 16 = q16
    generalize f 17 = q17
    generalize f 18 = q18
    generalize f 19 = q19
    generalize f 20 = q20
    clear f
    go_wp2_with (at_builtin; refine wpList_appG (w := w2.alloc _) rfl 83 87 1 8 _ (by kernel_rfl) sp_info rfl (by omega) (.tmp 28) (.tmp 30) rfl 0 _ qs.length (qs.map hqV) rfl (HM.out.1.grow (balloc (Below.refl _ _) _)).own ⟨w2.heap.size, 0, none⟩ 1 1 [.pointer (some ⟨X, 0, none⟩)] rfl rfl (fun j u hu => by cases j with | zero => (injection hu with hu; subst hu; rw [Addr.add_lit, World.cell?_alloc_mark]; rfl) | succ j => simp at hu) (by intro u hu; rw [List.mem_singleton.1 hu]; rfl) (by have := HLN.out; simp only [maxLen]; omega) (by have := HLN.out; omega) (by omega) ?_; intro v3 w3 hown3 hg3 hv3; obtain ⟨A3, n3, k3, rfl⟩ := own_slice hown3; have HB3 : Hid (Below w2.heap.size w2 (w2.alloc (.cells #[.pointer (some ⟨X, 0, none⟩)] 87))) := hide (balloc (Below.refl _ _) _); have hbx := HM.out.1.boxAt HB3.out hg3 HM.out.1.ne.1; have e3 : w3.cell? ⟨H, 3, none⟩ = some (.slice A qs.length c) := box_cell hbx 3; have f3 : w3.frozen? ⟨H, 3, none⟩ = false := box_free hbx 3; have HP := hide (HM.out.1.push (q := ⟨X, T2, s0, base, x, []⟩) HB3.out hg3 hown3 hv3 ⟨HSG.out.1, HSG.out.2, HNM.out, HM.out.2.1⟩ HM.out.2.2); have HG3 := hide hg3.size; clear hown3 hg3 hv3 hbx)
    go_ret
    have hz2 := HCG.out.size
    have hz3 := HG3.out
    have hz4 := HB3.out.size
    have hzd := HD.out.size
    refine ⟨rfl, x, X, T2, _, _, _, by have := HX.out; omega, HP.out.1, ((Chg.of_below HD.out).then (HCG.out.mono fun k hk => .inl hk)).then (HP.out.2.mono fun k hk => .inr (.inl hk)), htU_more (fun k hk => ?_) fun k hk => ?_⟩
    · rcases HU.out k hk with hk | hk
      · exact .inl hk
      · exact .inr ⟨by omega, by simp; omega⟩
    · rcases hk with hk | hk
      · exact .inl hk
      · exact .inr ⟨by omega, by simp; omega⟩
end
end Go.Proofs.YtcmgppacipdnaaaGreatDoor

namespace Go.Proofs.YtcmgppacipdnaaaGreatDoor
open Go.RowKit Go.Maps

section
variable {w0 w : World} {S C : Nat → Prop} {n Bd H : Nat} {d : Dk.St} {sz ev room used : Int} {vs vb : Value} {qs0 qs : List HQ} {q : HQ} {bats : List (Int × Int)} {names : Dk.Dir}
theorem Up.then {U V : Nat → Prop} {a b c : World} (h1 : ∀ k, V k → Up U a b k) (hab : a.heap.size ≤ b.heap.size) (hbc : b.heap.size ≤ c.heap.size) {k : Nat} (h : Up V b c k) : Up U a c k := by
  rcases h with h | h
  · rcases h1 k h with h | h
    · exact .inl h
    · exact .inr (by omega)
  · exact .inr (by omega)
theorem Chg.next {U V : Nat → Prop} {a b c : World} (h : Chg U a b) (hu : ∀ k, V k → Up U a b k) (k : Chg V b c) : Chg U a c :=
  h.trans k fun i hi hv => by
    rcases hu i hv with h | h
    · exact h
    · omega
/-- The files of a log's segments are elder than what is made now. -/
theorem HtL.elder (h : HtL w0 S n Bd d H C sz ev vs vb qs bats w) (g : Ht.G d room used ev names qs) (a : HQ) (ha : a ∈ qs) : a.x < w.heap.size :=
  (h.disk.named g.has (Nm.seg a.base) a.x (g.mz a ha).nm).2
set_option maxRecDepth 100000 in
set_option maxHeartbeats 1000000 in
theorem htRoll_good (h : HtL w0 S n Bd d H C sz ev vs vb (qs0 ++ [q]) bats w) (p : Nat → Addr) (hs : SentsG w0 p) (hpt : PowTab w0) (hn : n ≤ 980) (hlen : qs0.length ≤ 9000) (g : Ht.G d room used ev names (qs0 ++ [q])) (h1 : 1 ≤ ev ∧ ev ≤ 1048576) (hl : ∀ a ∈ qs0 ++ [q], a.base < (Sg.last q.s.edges).off) :
    Calls Tryz.prog 62 #[.pointer (some ⟨H, 0, none⟩)] w fun e w' => e = .returned .nilIface ∧ ∃ d' names' q1 q2 S' C' vs', HtL w0 S' (n + 4) Bd d' H C' sz ev vs' vb (qs0 ++ [q1] ++ [q2]) bats w' ∧ Ht.G d' room used ev names' (qs0 ++ [q1] ++ [q2]) ∧ q1.base = q.base ∧ q1.bs = q.bs ∧ q2.base = (Sg.last q.s.edges).off ∧ q2.bs = [] ∧ q2.s = Sg.begin (Nm.seg (Sg.last q.s.edges).off) (Sg.last q.s.edges).off ev ∧ Chg (htU S C (qs0 ++ [q])) w w' ∧ ∀ k, htU S' C' (qs0 ++ [q1] ++ [q2]) k → Up (htU S C (qs0 ++ [q])) w w' k := by
  have HL := hide (htLast_any h)
  have hq : q ∈ qs0 ++ [q] := by simp
  have hoff := h.lastSeg.2.off _ (Sg.last_mem h.lastSeg.2.ne)
  obtain ⟨d2, hsy, gs⟩ := g.sync
  have HSY := hide (fun (W : World) (hw : Below w.heap.size w W) => sgSync_any w0 W S q.T n Bd q.X d q.s p ((h.grow hw).seg q hq) hs (by omega))
  rw [hsy] at HSY
  simp only at HSY
  have HH := hide h
  obtain ⟨off, ho⟩ : ∃ off, (Sg.last q.s.edges).off = off := ⟨_, rfl⟩
  rw [ho] at hl hoff ⊢
  have GC := hide (fun (T : Nat → Prop) => (gs T).create off hoff (fun a ha => by
    rcases List.mem_append.1 ha with ha | ha
    · exact hl a (List.mem_append_left _ ha)
    · rw [List.mem_singleton.1 ha]; exact hl q hq))
  have HEL := hide (fun a (ha : a ∈ qs0 ++ [q]) => h.elder g a ha)
  have HEL2 : Hid (∀ (T : Nat → Prop) (a : HQ), a ∈ qs0 ++ [{ q with T := T, s := { q.s with synced := (Sg.last q.s.edges).pos }, bs := q.bs }] → a.x < w.heap.size) := hide (fun T a ha => by
    rcases List.mem_append.1 ha with ha | ha
    · exact HEL.out a (List.mem_append_left _ ha)
    · rw [List.mem_singleton.1 ha]; exact HEL.out q hq)
  have HO : Hid (∀ s', s' = { q.s with synced := (Sg.last q.s.edges).pos } → (Sg.last s'.edges).off = off) := hide (fun s' e => by rw [e]; exact ho)
  have HPT := hide hpt
  have HS := hide hs
  generalize ({ q.s with synced := (Sg.last q.s.edges).pos } : Sg.St) = s2 at *
  unfold hqV at HL
  clear h g hs hpt hsy gs ho hl
  go_enter Tryz.func62, Tryz.ntmps62
  go_wp2_with (first
    | (go_at_call 52; refine HL.out.mono ?_; rintro e w1 ⟨rfl, hk⟩; have HB1 := hide (below_dr hk); clear hk)
    | (go_at_call 64; refine (HSY.out _ HB1.out).mono ?_; rintro e w2 ⟨rfl, S2, T2, hw, hc, hu⟩; have H2 := hide ((HH.out.grow HB1.out).told (bs' := q.bs) hw hc hu); have HC2 := hide hc; have HU2 := hide hu; clear hw hc hu; unfold errR)
    | (go_at_call 21; have hE := htEnd_any H2.out; have hO2 := HO.out _ rfl; simp only [hO2] at hE; refine hE.mono ?_; rintro e w3 ⟨rfl, hb⟩; have HB3 := hide hb; clear hb hE hO2)
    | (go_at_call 76; obtain ⟨d3, hcr, hg3⟩ := GC.out T2; refine (htCreate_good (H2.out.grow HB3.out) p HS.out HPT.out (by omega) (by simp; omega) off hoff h1 d3 hcr).mono ?_; rintro e w4 ⟨rfl, x, X, T, S4, C4, vs4, hx, h4, hc4, hu4⟩; have G4 := hide (hg3 x (fun a ha => by have hz1 := HB1.out.size; have hz2 := HC2.out.size; have hz3 := HB3.out.size; have hax := HEL2.out T2 a ha; omega) X T); have H4 := hide h4; have HC4 := hide hc4; have HU4 := hide hu4; clear h4 hc4 hu4 hg3 hcr hx)
    | fail)
  go_ret
  have hz1 := HB1.out.size
  have hz2 := HC2.out.size
  have hz3 := HB3.out.size
  have hz4 := HC4.out.size
  have hc2 : Chg (htU S C (qs0 ++ [q])) w w2 := (Chg.of_below HB1.out).then (HC2.out.mono fun k hk => hk.elim .inl fun h => .inr (.inr ⟨q, hq, h⟩))
  have hu2 : ∀ k, htU S2 C (qs0 ++ [{ q with T := T2, s := s2, bs := q.bs }]) k → Up (htU S C (qs0 ++ [q])) w w2 k := fun k hk => by
    rcases htU_told (C := C) HU2.out k hk with h | h
    · exact .inl h
    · exact .inr (by omega)
  have hc3 := hc2.then (Chg.of_below HB3.out)
  have hu3 : ∀ k, htU S2 C (qs0 ++ [{ q with T := T2, s := s2, bs := q.bs }]) k → Up (htU S C (qs0 ++ [q])) w w3 k := fun k hk => (hu2 k hk).imp_right fun h => by omega
  exact ⟨rfl, _, _, _, _, S4, C4, vs4, H4.out, G4.out, rfl, rfl, rfl, rfl, rfl, hc3.next hu3 HC4.out, fun k hk => Up.then hu3 (by omega) hz4 (HU4.out k hk)⟩
end
end Go.Proofs.YtcmgppacipdnaaaGreatDoor
