/-
  Package point's calls under a walk: drop, lay.
  Package point's calls under a walk: Write, Read.
  Package point: a Write and a Read, as the statements go on with them.
-/
import Derived.Test.YtfjanenooembkaaDoorQ4
import Derived.Test.YtfjanenooembkaaDoorQ7
import Derived.Test.YtfjanenooembkaaDoorQ3
import Derived.Laws.Concat
import Derived.Test.YtfjanenooembkaaDoorQ2
namespace Go.Proofs.YtfjanenooembkaaDoor
open Go.RowKit Go.Maps Go.Sort

/-- The errors that point tells. -/
abbrev SentsP (w : World) (p : Nat → Addr) : Prop := SentsOn (fun j => j < 2 ∨ (4 ≤ j ∧ j ≤ 9)) w p
theorem SentsP.d {w : World} {p : Nat → Addr} (h : SentsP w p) : SentsD w p := h.mono fun j hj => by omega
theorem SentsP.o {w : World} {p : Nat → Addr} (h : SentsP w p) : SentsO w p := h.mono fun j hj => by omega
/-- What a call leaves: a disk again, of the same blocks and new ones. -/
def WPost (S : Nat → Prop) (w0 : World) (n Bd : Nat) (s : Dk.St) (w w' : World) : Prop :=
  ∃ S', SessS S' w0 n Bd s w' ∧ Chg S w w' ∧ ∀ k, S' k → Up S w w' k
section
variable {w0 w w' w2 : World} {S : Nat → Prop} {n m Bd : Nat} {s : Dk.St}
theorem WPost.refl (h : SessS S w0 n Bd s w) (hm : n ≤ m) : WPost S w0 m Bd s w w := ⟨S, h.mono hm, Chg.refl _ _, fun _k hk => .inl hk⟩
theorem WPost.mono (h : WPost S w0 n Bd s w w') (hm : n ≤ m) : WPost S w0 m Bd s w w' := by obtain ⟨S', h1, h2, h3⟩ := h; exact ⟨S', h1.mono hm, h2, h3⟩
theorem WPost.told (h : SessS (Up S w w') w0 n Bd s w') (hc : Chg S w w') : WPost S w0 n Bd s w w' := ⟨_, h, hc, fun _ hk => hk⟩
theorem WPost.ahead (hb : Below w.heap.size w w') (h : WPost S w0 n Bd s w' w2) : WPost S w0 n Bd s w w2 := by
  obtain ⟨S2, hw, hc2, hu2⟩ := h
  have hs1 := hb.size
  refine ⟨S2, hw, (Chg.of_below hb).then hc2, fun k hk => ?_⟩
  rcases hu2 k hk with h | h
  · exact .inl h
  · exact .inr (by omega)
theorem WPost.grow (h : WPost S w0 n Bd s w w') (hb : Below w'.heap.size w' w2) : WPost S w0 n Bd s w w2 := by
  obtain ⟨S2, hw, hc2, hu2⟩ := h
  have hs1 := hb.size
  refine ⟨S2, hw.grow hb, hc2.then (Chg.of_below hb), fun k hk => ?_⟩
  rcases hu2 k hk with h | h
  · exact .inl h
  · exact .inr (by omega)
theorem WPost.trans {S1 : Nat → Prop} (hc : Chg S w w') (hu : ∀ k, S1 k → Up S w w' k) (h2 : WPost S1 w0 n Bd s w' w2) : WPost S w0 n Bd s w w2 := by
  obtain ⟨S2, hw, hc2, hu2⟩ := h2
  have hs1 := hc.size
  have hs2 := hc2.size
  refine ⟨S2, hw, hc.trans hc2 fun i hi ht => ?_, fun k hk => ?_⟩
  · rcases hu i ht with h | h
    · exact h
    · omega
  · rcases hu2 k hk with h | h
    · rcases hu k h with h | h
      · exact .inl h
      · exact .inr (by omega)
    · exact .inr (by omega)
end
theorem nil_eql (a : Addr) (w : World) : (binOp .eql 27 .nilIface (errV a)).run Tryd.prog w = .ok (.bool false) w := by
  obtain ⟨ms, i, j, h1, h2, h3, h4, h5⟩ := es_facts
  have h : ∀ d : Nat, (Op.equalIn (d + 1) 27 .nilIface (errV a)).run Tryd.prog w = .ok false w := fun d => by simp [Op.equalIn, run_underlying h1, errV]
  simp only [binOp]
  simp [Op.equal, Op.maxDepth, h 9999]
theorem find_errs (s : Dk.St) (k : Dk.Nm) : s.find k = (some 9, none) ∨ s.find k = (some 6, none) ∨ ∃ i, s.find k = (none, some i) := by
  unfold Dk.St.find
  cases s.down
  · cases s.names k with
    | none => exact .inr (.inl rfl)
    | some i => exact .inr (.inr ⟨i, rfl⟩)
  · exact .inl rfl

set_option maxRecDepth 100000 in
set_option maxHeartbeats 1000000 in
theorem ptDrop_any {S : Nat → Prop} {w0 w : World} {n Bd : Nat} {s : Dk.St} (h : SessS S w0 n Bd s w) (p : Nat → Addr) (hs : SentsD w0 p) (hn : n ≤ 1000) (k : Dk.Nm) (hk : k.length ≤ 1000) :
    Calls Tryd.prog 39 #[.pointer (some ⟨Bd, 0, none⟩), encStr k] w fun e w' => e = .returned (errR p (s.drop k).1) ∧ WPost S w0 (n + 1) Bd (s.drop k).2 w w' := by
  have HL := hide (h.len p hs k hk)
  have HH := hide h
  have HRM := hide (fun (W : World) (hb : Below w.heap.size w W) => (h.grow hb).remove p hs hn k hk)
  have HS : Hid (∀ W, Below w.heap.size w W → SentsD W p) := hide (fun (W : World) (hb : Below w.heap.size w W) => hs.below (h.below.trans (hb.mono h.below.size)))
  obtain ⟨R, hR⟩ : ∃ R, R = s.drop k := ⟨_, rfl⟩
  rw [← hR]
  unfold Dk.St.drop at hR
  clear h hs
  rcases find_errs s k with hf | hf | ⟨i, hf⟩
  · rw [hf] at hR HL
    simp only [show ¬ (9 : Nat) = 6 from by decide, if_false] at hR HL
    subst hR
    have hne := fun W => neq_nilD (p 9) W
    clear hf HRM
    generalize s.lenOf k = z at *
    unfold errV at hne
    go_enter Tryd.func39, Tryd.ntmps39
    go_wp2_with (first
      | (go_at_call 44; refine HL.out.mono ?_; rintro e w1 ⟨rfl, q, hq⟩; have hb1 : Below w.heap.size w w1 := (by rw [hq]; exact below_drewN (Below.refl _ _) q); have hs1 : SentsD w1 p := HS.out w1 hb1; have c6 := hs1.c6; have he := eql_other (p 9) (p 6) w1 (hs1.ne 9 6 (by omega) (by omega) (by omega)) (hs1.blk 9 (by omega)).2 (hs1.blk 6 (by omega)).2; have HB1 := hide hb1; clear hs1 hq hb1; unfold errV at c6 he; unfold errR errV)
      | fail)
    go_ret
    exact ⟨rfl, WPost.ahead HB1.out (WPost.refl (HH.out.grow HB1.out) (Nat.le_succ n))⟩
  · rw [hf] at hR HL
    simp only [if_true] at hR HL
    subst hR
    clear hf HRM
    generalize s.lenOf k = z at *
    go_enter Tryd.func39, Tryd.ntmps39
    go_wp2_with (first
      | (go_at_call 44; refine HL.out.mono ?_; rintro e w1 ⟨rfl, q, hq⟩; have hb1 : Below w.heap.size w w1 := (by rw [hq]; exact below_drewN (Below.refl _ _) q); have hs1 : SentsD w1 p := HS.out w1 hb1; have c6 := hs1.c6; have he := eql_same (p 6) w1; have HB1 := hide hb1; clear hs1 hq hb1; unfold errV at c6 he; unfold errR errV)
      | fail)
    go_ret
    exact ⟨rfl, WPost.ahead HB1.out (WPost.refl (HH.out.grow HB1.out) (Nat.le_succ n))⟩
  · rw [hf] at hR HL
    simp only at hR HL
    subst hR
    clear hf
    generalize s.lenOf k = z at *
    go_enter Tryd.func39, Tryd.ntmps39
    go_wp2_with (first
      | (go_at_call 44; refine HL.out.mono ?_; rintro e w1 ⟨rfl, q, hq⟩; have hb1 : Below w.heap.size w w1 := (by rw [hq]; exact below_drewN (Below.refl _ _) q); have hs1 : SentsD w1 p := HS.out w1 hb1; have c6 := hs1.c6; have he := nil_eql (p 6) w1; have HB1 := hide hb1; have HR1 := hide (HRM.out w1 hb1); clear hs1 hq hb1 HRM; unfold errV at c6 he; unfold errR)
      | (go_at_call 73; refine HR1.out.mono ?_; rintro e w2 ⟨rfl, h2, hc2⟩; have H2 := hide h2; have HC2 := hide hc2; clear h2 hc2)
      | fail)
    go_ret
    exact ⟨rfl, WPost.ahead HB1.out (WPost.told H2.out HC2.out)⟩

set_option maxRecDepth 100000 in
set_option maxHeartbeats 1000000 in
theorem ptLay_any {S : Nat → Prop} {w0 w : World} {n Bd : Nat} {s : Dk.St} (h : SessS S w0 n Bd s w) (p : Nat → Addr) (hs : SentsD w0 p) (hn : n ≤ 990) (k : Dk.Nm) (hk : k.length ≤ 1000) (A : Option Addr) (c m : Nat) (b : Dk.Nm) (ha : Arg w A c b) (hl : b.length = m) (hm : m ≤ 1000) (hA : ∀ x o, A = some ⟨x, o, none⟩ → b ≠ [] → ¬ S x) :
    Calls Tryd.prog 40 #[.pointer (some ⟨Bd, 0, none⟩), encStr k, .slice A m c] w fun e w' => e = .returned (errR p (s.lay k b w.heap.size).1) ∧ WPost S w0 (n + 3) Bd (s.lay k b w.heap.size).2 w w' := by
  have HC := hide (h.create p hs (by omega) k hk w.heap.size rfl)
  have HA := hide (fun (W : World) (hc : Chg S w W) => ha.chg hc hA)
  have HX := hide (fun (W : World) (x o : Nat) (e : A = some ⟨x, o, none⟩) (h0 : b ≠ []) (hu : Up S w W x) => (by rcases hu with hu | hu; exact hA x o e h0 hu; have := ha.lt x o e h0; omega : False))
  have HSD := hide hs
  have HL := hide hl
  obtain ⟨R, hR⟩ : ∃ R, R = s.lay k b w.heap.size := ⟨_, rfl⟩
  rw [← hR]
  unfold Dk.St.lay at hR
  clear ha hA hs hl h
  rcases hc : s.create k w.heap.size with ⟨_ | j, s1⟩
  · rw [hc] at HC hR
    simp only at HC hR
    rcases hap : s1.append k b with ⟨_ | j, s2⟩
    · rw [hap] at hR
      simp only at hR
      have HAP := hide hap
      have HR := hide hR
      clear hc hap hR
      go_enter Tryd.func40, Tryd.ntmps40
      go_wp2_with (first
        | (go_at_call 74; refine HC.out.mono ?_; rintro e w1 ⟨rfl, h1, hc1⟩; have HP1 := hide (h1.append p HSD.out (by omega) k hk A c m b (HA.out w1 hc1) HL.out hm (HX.out w1)); have HC1 := hide hc1; rw [HAP.out] at HP1; simp only at HP1; clear h1 hc1; unfold errR)
        | (go_at_call 25; refine HP1.out.mono ?_; rintro e w2 ⟨rfl, h2, hc2⟩; have HY2 := hide (h2.sync p HSD.out (by omega) k hk); have HC2 := hide hc2; clear h2 hc2; unfold errR)
        | (go_at_call 75; refine HY2.out.mono ?_; rintro e w3 ⟨rfl, h3, hc3⟩; have H3 := hide h3; have HC3 := hide hc3; clear h3 hc3)
        | fail)
      go_ret
      rw [HR.out]
      exact ⟨rfl, WPost.trans HC1.out (fun _ hk => hk) (WPost.trans HC2.out (fun _ hk => hk) (WPost.told H3.out HC3.out))⟩
    · rw [hap] at hR
      simp only at hR
      subst hR
      have HAP := hide hap
      have hne := fun W => neq_nilD (p j) W
      unfold errV at hne
      clear hc hap
      go_enter Tryd.func40, Tryd.ntmps40
      go_wp2_with (first
        | (go_at_call 74; refine HC.out.mono ?_; rintro e w1 ⟨rfl, h1, hc1⟩; have HP1 := hide (h1.append p HSD.out (by omega) k hk A c m b (HA.out w1 hc1) HL.out hm (HX.out w1)); have HC1 := hide hc1; rw [HAP.out] at HP1; simp only at HP1; clear h1 hc1; unfold errR)
        | (go_at_call 25; refine HP1.out.mono ?_; rintro e w2 ⟨rfl, h2, hc2⟩; have H2 := hide h2; have HC2 := hide hc2; clear h2 hc2; unfold errR errV)
        | fail)
      go_ret
      exact ⟨rfl, WPost.trans HC1.out (fun _ hk => hk) ((WPost.told H2.out HC2.out).mono (Nat.le_succ _))⟩
  · rw [hc] at HC hR
    simp only at HC hR
    subst hR
    have hne := fun W => neq_nilD (p j) W
    unfold errV at hne
    clear hc
    go_enter Tryd.func40, Tryd.ntmps40
    go_wp2_with (first
      | (go_at_call 74; refine HC.out.mono ?_; rintro e w1 ⟨rfl, h1, hc1⟩; have H1 := hide h1; have HC1 := hide hc1; clear h1 hc1; unfold errR errV)
      | fail)
    go_ret
    exact ⟨rfl, (WPost.told H1.out HC1.out).mono (by omega)⟩
end Go.Proofs.YtfjanenooembkaaDoor

namespace Go.Proofs.YtfjanenooembkaaDoor
open Go.RowKit Go.Maps Go.Sort

theorem Reads.chg {S : Nat → Prop} {w w' : World} {A : Option Addr} {b : List UInt8} (h : Reads w A b) (hc : Chg S w w') (hA : ∀ x o, A = some ⟨x, o, none⟩ → b ≠ [] → ¬ S x) : Reads w' A b := by
  rcases h with h0 | ⟨x, o, e, hx, hcl⟩
  · exact .inl h0
  · by_cases hb : b = []
    · exact .inl hb
    · exact .inr ⟨x, o, e, Nat.lt_of_lt_of_le hx hc.size, fun j hj => hc.cell (hcl j hj) (hA x o e hb)⟩
/-- What Write answers: a name that may not be changes nothing. -/
def ptWrite (s : Dk.St) (k b : Dk.Nm) (id : Nat) : Dk.End := if Dk.valid k = true ∧ Dk.valid (k ++ Dk.fresh) = true then s.write k b id else (some 5, s)

set_option maxRecDepth 100000 in
set_option maxHeartbeats 1000000 in
theorem ptWrite_reads {S : Nat → Prop} {w0 w : World} {n Bd : Nat} {s : Dk.St} (h : SessS S w0 n Bd s w) (p : Nat → Addr) (hs : SentsP w0 p) (ht : Tabs w0) (hw0 : 4 ≤ w0.heap.size) (hn : n ≤ 900) (k : Dk.Nm) (hk : k.length ≤ 900) (A : Option Addr) (c m : Nat) (b : Dk.Nm) (ha : Reads w A b) (hl : b.length = m) (hm : m ≤ 900) (hA : ∀ x o, A = some ⟨x, o, none⟩ → b ≠ [] → ¬ S x) :
    Calls Tryd.prog 11 #[.pointer (some ⟨Bd, 0, none⟩), encStr k, .slice A m c] w fun e w' => ∃ id, w.heap.size ≤ id ∧ e = .returned (errR p (ptWrite s k b id).1) ∧ WPost S w0 (n + 6) Bd (ptWrite s k b id).2 w w' := by
  have cat : ∀ W : World, (Op.stringOp .add ⟨k.toArray⟩ ⟨#[46, 110, 101, 119]⟩).run Tryd.prog W = .ok (encStr (k ++ Dk.fresh)) W := fun W => run_string_add_lists W k Dk.fresh (by omega) (by decide)
  have hkf : (k ++ Dk.fresh).length ≤ 1000 := by simp [Dk.fresh]; omega
  have HV1 := hide (fun W => ptValid_any k (by omega) W)
  have HV2 := hide (fun W => ptValid_any (k ++ Dk.fresh) (by omega) W)
  have HH := hide h
  have HSD := hide hs.d
  have c5 := SentsD.c5 (hs.d.below h.below)
  by_cases hv1 : Dk.valid k = true
  · by_cases hv2 : Dk.valid (k ++ Dk.fresh) = true
    · have HPW : Hid (∀ id, ptWrite s k b id = s.write k b id) := hide (fun id => by unfold ptWrite; rw [if_pos ⟨hv1, hv2⟩])
      rw [hv1] at HV1
      rw [hv2] at HV2
      have HD := hide (ptDrop_any h p hs.d (by omega) (k ++ Dk.fresh) hkf)
      have HTB := hide ht
      have HA : Hid (∀ W, Chg S w W → Reads W A b) := hide (fun (W : World) (hc : Chg S w W) => ha.chg hc hA)
      have HBW := hide h.below
      have HL := hide hl
      have HKF := hide hkf
      have hsl := Dk.sealed_len b
      rw [hl] at hsl
      have HSL := hide hsl
      clear hs ht ha hA hl c5 h hv1 hv2 hkf hsl
      generalize hkk : k ++ Dk.fresh = kf at *
      rcases hdr : s.drop kf with ⟨_ | j, s1⟩
      · rw [hdr] at HD
        simp only at HD
        go_enter Tryd.func11, Tryd.ntmps11
        go_wp2_with (first
          | (go_at_call 38; (with_reducible refine (HV1.out _).mono ?_); rintro e wv ⟨rfl, hwv⟩; obtain rfl : w = wv := hwv.symm)
          | (go_at_call 38; (with_reducible refine (HV2.out _).mono ?_); rintro e wv ⟨rfl, hwv⟩; obtain rfl : w = wv := hwv.symm)
          | (go_at_call 39; refine HD.out.mono ?_; rintro e w2 ⟨rfl, S2, h2, hc2, hu2⟩; have H2 := hide h2; have HC2 := hide hc2; have HU2 := hide hu2; have HA2 := hide (HA.out w2 hc2); clear h2 hc2 hu2; unfold errR)
          | (go_at_call 41; refine (seal_any A c m b w2 HL.out (by omega) HA2.out (HTB.out.below H2.out.below (Nat.le_refl _)) (Nat.le_trans hw0 H2.out.below.size)).mono ?_; rintro e w3 ⟨v, rfl, ho, hb3⟩; have hlo := ho.lt; obtain ⟨A3, c3, rfl, ha3⟩ := own_n (n := m + 4) (l := Dk.sealed b) ho HSL.out; have H3 := hide (H2.out.grow hb3); have HA3 := hide ha3; have HX3 : Hid (∀ x o, A3 = some ⟨x, o, none⟩ → Dk.sealed b ≠ [] → ¬ S2 x) := hide (fun x o e _ hx => by have h1 := (hlo x (by rw [e]; rfl)).1; have h2 := (H2.out.lo x hx).2; omega); have HB3 := hide hb3; clear ho hb3 ha3 hlo)
          | fail)
        have hid0 : w.heap.size ≤ w3.heap.size := Nat.le_trans HC2.out.size HB3.out.size
        have HPL := hide (ptLay_any H3.out p HSD.out (by omega) kf HKF.out A3 c3 (m + 4) (Dk.sealed b) HA3.out HSL.out (by omega) HX3.out)
        have HWR : Hid (ptWrite s k b w3.heap.size = match s1.lay kf (Dk.sealed b) w3.heap.size with | (some j, s2) => (some j, s2) | (none, s2) => match s2.rename kf k with | (some j, s3) => (some j, s3) | (none, s3) => s3.syncDir) := hide (by rw [HPW.out]; unfold Dk.St.write; rw [hkk, hdr]; rfl)
        have HI := hide hid0
        clear HA3 HX3 HA2 HA HTB HV1 HV2 HPW HSL HL hid0 HD hdr
        rcases hla : s1.lay kf (Dk.sealed b) w3.heap.size with ⟨_ | j, s2⟩
        · rw [hla] at HPL HWR
          simp only at HPL HWR
          clear hla
          rcases hre : s2.rename kf k with ⟨_ | j, s3⟩
          · rw [hre] at HWR
            simp only at HWR
            have HRE := hide hre
            clear hre
            go_wp2_with (first
              | (go_at_call 40; refine HPL.out.mono ?_; rintro e w4 ⟨rfl, S4, h4, hc4, hu4⟩; have HR4 := hide (h4.rename p HSD.out (by omega) kf k HKF.out (by omega)); have HC4 := hide hc4; have HU4 := hide hu4; rw [HRE.out] at HR4; simp only at HR4; clear h4 hc4 hu4; unfold errR)
              | (go_at_call 42; refine HR4.out.mono ?_; rintro e w5 ⟨rfl, h5, hc5⟩; have HS5 := hide (h5.syncDir p HSD.out (by omega)); have HC5 := hide hc5; clear h5 hc5; unfold errR)
              | (go_at_call 43; refine HS5.out.mono ?_; rintro e w6 ⟨rfl, h6, hc6⟩; have H6 := hide h6; have HC6 := hide hc6; clear h6 hc6)
              | fail)
            go_ret
            refine ⟨w3.heap.size, HI.out, by rw [HWR.out]; rfl, ?_⟩
            rw [HWR.out]
            exact WPost.trans HC2.out HU2.out (WPost.ahead HB3.out (WPost.trans HC4.out HU4.out (WPost.trans HC5.out (fun _ hk => hk) ((WPost.told H6.out HC6.out).mono (by omega)))))
          · rw [hre] at HWR
            simp only at HWR
            have HRE := hide hre
            have hne := fun W => neq_nilD (p j) W
            unfold errV at hne
            clear hre
            go_wp2_with (first
              | (go_at_call 40; refine HPL.out.mono ?_; rintro e w4 ⟨rfl, S4, h4, hc4, hu4⟩; have HR4 := hide (h4.rename p HSD.out (by omega) kf k HKF.out (by omega)); have HC4 := hide hc4; have HU4 := hide hu4; rw [HRE.out] at HR4; simp only at HR4; clear h4 hc4 hu4; unfold errR)
              | (go_at_call 42; refine HR4.out.mono ?_; rintro e w5 ⟨rfl, h5, hc5⟩; have H5 := hide h5; have HC5 := hide hc5; clear h5 hc5; unfold errR errV)
              | fail)
            go_ret
            refine ⟨w3.heap.size, HI.out, by rw [HWR.out]; rfl, ?_⟩
            rw [HWR.out]
            exact WPost.trans HC2.out HU2.out (WPost.ahead HB3.out (WPost.trans HC4.out HU4.out ((WPost.told H5.out HC5.out).mono (by omega))))
        · rw [hla] at HPL HWR
          simp only at HPL HWR
          have hne := fun W => neq_nilD (p j) W
          unfold errV at hne
          clear hla
          go_wp2_with (first
            | (go_at_call 40; refine HPL.out.mono ?_; rintro e w4 ⟨rfl, h4⟩; have H4 := hide h4; clear h4; unfold errR errV)
            | fail)
          go_ret
          refine ⟨w3.heap.size, HI.out, by rw [HWR.out]; rfl, ?_⟩
          rw [HWR.out]
          exact WPost.trans HC2.out HU2.out (WPost.ahead HB3.out (H4.out.mono (by omega)))
      · rw [hdr] at HD
        simp only at HD
        have HWR : Hid (∀ id, ptWrite s k b id = (some j, s1)) := hide (fun id => by rw [HPW.out]; unfold Dk.St.write; rw [hkk, hdr])
        have hne := fun W => neq_nilD (p j) W
        unfold errV at hne
        clear hdr
        go_enter Tryd.func11, Tryd.ntmps11
        go_wp2_with (first
          | (go_at_call 38; (with_reducible refine (HV1.out _).mono ?_); rintro e wv ⟨rfl, hwv⟩; obtain rfl : w = wv := hwv.symm)
          | (go_at_call 38; (with_reducible refine (HV2.out _).mono ?_); rintro e wv ⟨rfl, hwv⟩; obtain rfl : w = wv := hwv.symm)
          | (go_at_call 39; refine HD.out.mono ?_; rintro e w2 ⟨rfl, h2⟩; have H2 := hide h2; clear h2; unfold errR errV)
          | fail)
        go_ret
        refine ⟨w.heap.size, Nat.le_refl _, by rw [HWR.out]; rfl, ?_⟩
        rw [HWR.out]
        exact H2.out.mono (by omega)
    · have HWR : Hid (∀ id, ptWrite s k b id = (some 5, s)) := hide (fun id => by unfold ptWrite; rw [if_neg (fun h => hv2 h.2)])
      have hv2' : Dk.valid (k ++ Dk.fresh) = false := by simpa using hv2
      rw [hv1] at HV1
      rw [hv2'] at HV2
      clear hs ht ha hA hl h hv1 hv2 hkf hv2'
      generalize hkk : k ++ Dk.fresh = kf at *
      unfold errV at c5
      go_enter Tryd.func11, Tryd.ntmps11
      go_wp2_with (first
        | (go_at_call 38; (with_reducible refine (HV1.out _).mono ?_); rintro e wv ⟨rfl, hwv⟩; obtain rfl : w = wv := hwv.symm)
        | (go_at_call 38; (with_reducible refine (HV2.out _).mono ?_); rintro e wv ⟨rfl, hwv⟩; obtain rfl : w = wv := hwv.symm)
        | fail)
      go_ret
      refine ⟨_, Nat.le_refl _, by rw [HWR.out]; rfl, ?_⟩
      rw [HWR.out]
      exact WPost.refl HH.out (by omega)
  · have HWR : Hid (∀ id, ptWrite s k b id = (some 5, s)) := hide (fun id => by unfold ptWrite; rw [if_neg (fun h => hv1 h.1)])
    have hv1' : Dk.valid k = false := by simpa using hv1
    rw [hv1'] at HV1
    clear hs ht ha hA hl h hv1 hkf hv1' HV2
    unfold errV at c5
    generalize hkk : k ++ Dk.fresh = kf at *
    go_enter Tryd.func11, Tryd.ntmps11
    go_wp2_with (first
      | (go_at_call 38; (with_reducible refine (HV1.out _).mono ?_); rintro e wv ⟨rfl, hwv⟩; obtain rfl : w = wv := hwv.symm)
      | fail)
    go_ret
    refine ⟨_, Nat.le_refl _, by rw [HWR.out]; rfl, ?_⟩
    rw [HWR.out]
    exact WPost.refl HH.out (by omega)

theorem ptWrite_any {S : Nat → Prop} {w0 w : World} {n Bd : Nat} {s : Dk.St} (h : SessS S w0 n Bd s w) (p : Nat → Addr) (hs : SentsP w0 p) (ht : Tabs w0) (hw0 : 4 ≤ w0.heap.size) (hn : n ≤ 900) (k : Dk.Nm) (hk : k.length ≤ 900) (A : Option Addr) (c m : Nat) (b : Dk.Nm) (ha : Arg w A c b) (hl : b.length = m) (hm : m ≤ 900) (hA : ∀ x o, A = some ⟨x, o, none⟩ → b ≠ [] → ¬ S x) :
    Calls Tryd.prog 11 #[.pointer (some ⟨Bd, 0, none⟩), encStr k, .slice A m c] w fun e w' => ∃ id, w.heap.size ≤ id ∧ e = .returned (errR p (ptWrite s k b id).1) ∧ WPost S w0 (n + 6) Bd (ptWrite s k b id).2 w w' :=
  ptWrite_reads h p hs ht hw0 hn k hk A c m b ha.reads hl hm hA

set_option maxRecDepth 100000 in
set_option maxHeartbeats 1000000 in
theorem ptRead_none {S : Nat → Prop} {w0 w : World} {n Bd : Nat} {s : Dk.St} (h : SessS S w0 n Bd s w) (p : Nat → Addr) (hs : SentsP w0 p) (k : Dk.Nm) (hk : k.length ≤ 1000) (j : Nat) (hf : s.find k = (some j, none)) :
    Calls Tryd.prog 12 #[.pointer (some ⟨Bd, 0, none⟩), encStr k] w fun e w' => e = .returned (.tuple #[.slice none 0 0, errV (p j)]) ∧ Below w.heap.size w w' := by
  have HL := hide (h.len p hs.d k hk)
  rw [hf] at HL
  simp only at HL
  generalize s.lenOf k = z at *
  have hne := fun W => neq_nilD (p j) W
  unfold errV at hne
  clear h hs hf
  go_enter Tryd.func12, Tryd.ntmps12
  go_wp2_with (first
    | (go_at_call 44; refine HL.out.mono ?_; rintro e w1 ⟨rfl, q, hq⟩; have HB1 : Hid (Below w.heap.size w w1) := hide (by rw [hq]; exact below_drewN (Below.refl _ _) q); clear hq; unfold errR errV)
    | fail)
  go_ret2
  exact ⟨rfl, HB1.out⟩

set_option maxRecDepth 100000 in
set_option maxHeartbeats 1000000 in
theorem ptRead_some {S : Nat → Prop} {w0 w : World} {n Bd : Nat} {s : Dk.St} (h : SessS S w0 n Bd s w) (p : Nat → Addr) (hs : SentsP w0 p) (ht : Tabs w0) (hn : n ≤ 1000) (k : Dk.Nm) (hk : k.length ≤ 1000) (i m : Nat) (b : Dk.Nm) (hf : s.find k = (none, some i)) (hl : s.lenOf k = ((m + 4 : Nat) : Int)) (hr : s.readOf k 0 ((m + 4 : Nat) : Int) = (none, b)) (hb : b.length = m + 4) (hm : m ≤ 900000) (good : Bool) (hg : good = true ↔ Crc.opens b) :
    Calls Tryd.prog 12 #[.pointer (some ⟨Bd, 0, none⟩), encStr k] w (fun e w' => Below w.heap.size w w' ∧ if good then ∃ A c, e = .returned (.tuple #[.slice A m c, .nilIface]) ∧ Arg w' A c (b.take m) else e = .returned (.tuple #[.slice none 0 0, errV (p 1)])) := by
  have HL := hide (h.len p hs.d k hk)
  rw [hf, hl] at HL
  simp only at HL
  have HRD := hide (fun (W : World) (hb : Below w.heap.size w W) => (h.grow hb).read p hs.d hn k hk 0 ((m + 4 : Nat) : Int) (by omega))
  rw [hr] at HRD
  have HOP := hide (fun (W : World) (hW : Below w.heap.size w W) (A : Option Addr) (c : Nat) (ha : Arg W A c b) => open_atA A c b W p good hg (by omega) (by omega) ha (ht.below (h.below.trans (hW.mono h.below.size)) (Nat.le_refl _)) (SentsP.o (hs.below (h.below.trans (hW.mono h.below.size)))))
  rw [hb] at HOP
  have HBL := hide hb
  clear h hs ht hf hl hr hg hb
  have e4 : ((m + 4 : Nat) : Int) = (m : Int) + 4 := by omega
  go_enter Tryd.func12, Tryd.ntmps12
  go_wp2_with (first
    | (go_at_call 44; refine HL.out.mono ?_; rintro e w1 ⟨rfl, q, hq⟩; have HB1 : Hid (Below w.heap.size w w1) := hide (by rw [hq]; exact below_drewN (Below.refl _ _) q); clear hq; unfold errR)
    | (go_at_call 22; refine (HRD.out w1 HB1.out).mono ?_; rintro e w2 ⟨v, rfl, ho, hb2⟩; obtain ⟨A2, c2, rfl, ha2⟩ := own_n (n := m + 4) ho HBL.out; have HB2 := hide (HB1.out.trans (hb2.mono HB1.out.size)); have HO2 := hide (HOP.out w2 HB2.out A2 c2 ha2); clear ho hb2 ha2; unfold errR)
    | fail)
  refine HO2.out.mono ?_
  rintro e w3 ⟨hb3, he⟩
  have HB3 := hide (HB2.out.trans (hb3.mono HB2.out.size))
  clear HOP HRD HL HB1 HB2 HO2 hb3
  rw [Nat.add_sub_cancel] at he
  cases good with
  | true =>
    simp only [if_true] at he ⊢
    obtain ⟨A, c, rfl, ha⟩ := he
    have HA := hide ha
    clear ha
    go_wp2_with fail
    go_ret2
    exact ⟨HB3.out, A, c, rfl, HA.out⟩
  | false =>
    simp only [Bool.false_eq_true, if_false] at he ⊢
    subst he
    unfold errV
    go_wp2_with fail
    go_ret2
    exact ⟨HB3.out, rfl⟩
end Go.Proofs.YtfjanenooembkaaDoor

namespace Go.Proofs.YtfjanenooembkaaDoor
open Go.RowKit Go.Maps Go.Sort

section
variable {S : Nat → Prop} {w0 w : World} {n Bd : Nat} {s : Dk.St}
theorem SessS.clear (h : SessS S w0 n Bd s w) {A : Option Addr} {c : Nat} {l : List UInt8} (ha : Arg w0 A c l) : ∀ x o, A = some ⟨x, o, none⟩ → l ≠ [] → ¬ S x := fun x o e hl hS => by
  have h1 := ha.lt x o e hl
  have h2 := (h.lo x hS).1
  omega
theorem SessS.clearI (h : SessS S w0 n Bd s w) {A : Option Addr} {c : Nat} {l : List Int} (ha : IntsArg w0 A c l) : ∀ x o, A = some ⟨x, o, none⟩ → l ≠ [] → ¬ S x ∧ x < w.heap.size := fun x o e hl => by
  have h1 := ha.lt x o e hl
  have h3 := h.below.size
  exact ⟨fun hS => by have h2 := (h.lo x hS).1; omega, by omega⟩
theorem SessS.unused (h : SessS S w0 n Bd s w) (id : Nat) (hid : w.heap.size ≤ id) : ∀ x, s.names x ≠ some id := fun x e => by
  have := (h.disk.ref.1 x id e).1
  omega
theorem SessS.armS (h : SessS S w0 n Bd s w) (a : Int) (ha : -9223372036854775808 ≤ a ∧ a ≤ 9223372036854775807) :
    Calls Tryd.prog 15 #[.pointer (some ⟨Bd, 0, none⟩), .int .i64 a] w fun e w' => e = .returned (.tuple #[]) ∧ SessS S w0 n Bd (s.arm a) w' ∧ Chg S w w' := by
  refine (arm_any Bd s S a w h.disk).mono fun e w' ⟨he, hd, hc, hz⟩ => ⟨he, ⟨hd, fun k hk => by have := h.lo k hk; omega, h.below.trans (hc.below h.below.size fun k hk => (h.lo k hk).1), h.small.arm a ha⟩, hc⟩
theorem SessS.downS (h : SessS S w0 n Bd s w) : Calls Tryd.prog 16 #[.pointer (some ⟨Bd, 0, none⟩)] w fun e w' => e = .returned (.bool s.down) ∧ w' = w := down_any Bd s S w h.disk
theorem SessS.usedS (h : SessS S w0 n Bd s w) : Calls Tryd.prog 37 #[.pointer (some ⟨Bd, 0, none⟩)] w fun e w' => e = .returned (.int .i64 s.used) ∧ w' = w := used_any Bd s S w h.disk
theorem ptWrite_ok (h : SessS S w0 n Bd s w) (p : Nat → Addr) (hs : SentsP w0 p) (ht : Tabs w0) (hw0 : 4 ≤ w0.heap.size) (hn : n ≤ 900) (k : Dk.Nm) (hk : k.length ≤ 900) (hv : Dk.valid k = true) (hv2 : Dk.valid (k ++ Dk.fresh) = true) (A : Option Addr) (c m : Nat) (b : Dk.Nm) (ha : Arg w A c b) (hl : b.length = m) (hm : m ≤ 900) (hA : ∀ x o, A = some ⟨x, o, none⟩ → b ≠ [] → ¬ S x) :
    Calls Tryd.prog 11 #[.pointer (some ⟨Bd, 0, none⟩), encStr k, .slice A m c] w fun e w' => ∃ id, (∀ x, s.names x ≠ some id) ∧ e = .returned (errR p (s.write k b id).1) ∧ ∃ S', SessS S' w0 (n + 6) Bd (s.write k b id).2 w' ∧ Chg S w w' := by
  have e : ∀ id, ptWrite s k b id = s.write k b id := fun id => if_pos ⟨hv, hv2⟩
  refine (ptWrite_any h p hs ht hw0 hn k hk A c m b ha hl hm hA).mono ?_
  rintro r w' ⟨id, hid, hr, S', h1, h2, -⟩
  rw [e] at hr h1
  exact ⟨id, h.unused id hid, hr, S', h1, h2⟩
theorem ptWrite_okR (h : SessS S w0 n Bd s w) (p : Nat → Addr) (hs : SentsP w0 p) (ht : Tabs w0) (hw0 : 4 ≤ w0.heap.size) (hn : n ≤ 900) (k : Dk.Nm) (hk : k.length ≤ 900) (hv : Dk.valid k = true) (hv2 : Dk.valid (k ++ Dk.fresh) = true) (A : Option Addr) (c m : Nat) (b : Dk.Nm) (ha : Reads w A b) (hl : b.length = m) (hm : m ≤ 900) (hA : ∀ x o, A = some ⟨x, o, none⟩ → b ≠ [] → ¬ S x) :
    Calls Tryd.prog 11 #[.pointer (some ⟨Bd, 0, none⟩), encStr k, .slice A m c] w fun e w' => ∃ id, (∀ x, s.names x ≠ some id) ∧ e = .returned (errR p (s.write k b id).1) ∧ ∃ S', SessS S' w0 (n + 6) Bd (s.write k b id).2 w' ∧ Chg S w w' ∧ ∀ k, S' k → Up S w w' k := by
  have e : ∀ id, ptWrite s k b id = s.write k b id := fun id => if_pos ⟨hv, hv2⟩
  refine (ptWrite_reads h p hs ht hw0 hn k hk A c m b ha hl hm hA).mono ?_
  rintro r w' ⟨id, hid, hr, S', h1, h2, h3⟩
  rw [e] at hr h1
  exact ⟨id, h.unused id hid, hr, S', h1, h2, h3⟩
theorem opens_seal (b : Dk.Nm) : Crc.opens (Dk.sealed b) := Crc.opens_sealed b
theorem take_seal (b : Dk.Nm) (m : Nat) (h : b.length = m) : (Dk.sealed b).take m = b := by rw [Dk.sealed, ← h, List.take_left']; rfl
theorem ptRead_kept (h : SessS S w0 n Bd s w) (p : Nat → Addr) (hs : SentsP w0 p) (ht : Tabs w0) (hn : n ≤ 1000) (k : Dk.Nm) (hk : k.length ≤ 1000) (b : Dk.Nm) (m : Nat) (hb : b.length = m) (hm : m ≤ 900000) (hkp : Dk.Kp s k b) :
    Calls Tryd.prog 12 #[.pointer (some ⟨Bd, 0, none⟩), encStr k] w fun e w' => ∃ A c, e = .returned (.tuple #[.slice A m c, .nilIface]) ∧ Arg w' A c b ∧ Below w.heap.size w w' := by
  obtain ⟨⟨i, hf⟩, hl, hr⟩ := hkp
  rw [hb] at hl hr
  refine (ptRead_some h p hs ht hn k hk i m (Dk.sealed b) hf hl hr (by rw [Dk.sealed_len, hb]) hm true ⟨fun _ => opens_seal b, fun _ => rfl⟩).mono ?_
  rintro e w' ⟨hbl, A, c, he, ha⟩
  rw [take_seal b m hb] at ha
  exact ⟨A, c, he, ha, hbl⟩
end
end Go.Proofs.YtfjanenooembkaaDoor
