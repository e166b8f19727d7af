/-
  The reference's Seal and Open.
-/
import Derived.Test.YtdiplknlkmealaaDoorRef2
namespace Go.Proofs.YtdiplknlkmealaaDoor
open Go.RowKit Crc

theorem wrap64U (c : BitVec 32) : IntKind.u64.wrap (U c) = U c := by
  have h := U_lo c
  have h2 := U_hi c
  rw [IntKind.wrap_u64]; omega
theorem wrap32U (c : BitVec 32) : IntKind.u32.wrap (U c) = U c := by
  have h := U_lo c
  have h2 := U_hi c
  rw [IntKind.wrap_u32]; omega
theorem mod64U (c : BitVec 32) : U c % (18446744073709551616 : Int) = U c := by
  have h := U_lo c
  have h2 := U_hi c
  omega
attribute [local go_sem] wrap64U wrap32U mod64U

set_option maxHeartbeats 400000 in
theorem refSeal_any (A : Option Addr) (cap n : Nat) (l : List UInt8) (w : World) (hn : l.length = n) (hl : n ≤ 1000000) (hr : Reads w A l) :
    Calls Tryd.prog 22 #[.slice A n cap] w fun e w' => ∃ v, e = .returned v ∧ Own w' w.heap.size v (l ++ little (sum l)) ∧ Below w.heap.size w w' := by
  have HR := hide hr
  have HN := hide hn
  clear hr hn
  go_enter Tryd.func22, Tryd.ntmps22
  go_wp2_with fail
  refine (bytes_any A cap n l w HN.out hl HR.out).mono ?_
  rintro e w1 ⟨v1, rfl, ho1, hb1⟩
  have HO1 := hide ho1
  have HB1 := hide hb1
  clear ho1 hb1
  go_wp2_with fail
  refine (refSum_any A cap n l w1 HN.out hl (HR.out.below HB1.out (Nat.le_refl _))).mono ?_
  rintro e w1' ⟨rfl, rfl⟩
  have HL := hide (little_len (sum l))
  obtain ⟨S, hS⟩ : ∃ S, S = sum l := ⟨_, rfl⟩
  rw [← hS]
  have HS := hide hS
  clear hS
  have d1 := U_lo S
  have d2 := U_hi S
  go_wp2_with fail
  refine (little_any S w1).mono ?_
  rintro e w2 ⟨v2, rfl, ho2, hb2⟩
  obtain ⟨A2, c2, hv2, hr2, _⟩ := ho2.reads
  rw [little_len] at hv2
  subst hv2
  have HO2 := hide (HO1.out.below hb2 (Nat.le_refl _))
  have HB2 := hide (HB1.out.trans (hb2.mono HB1.out.size))
  have HR2 := hide hr2
  have HL2 := hide (little_len S)
  have HSZ := hide HB2.out.size
  clear ho2 hb2 hr2
  go_wp2_with (at_builtin; refine wpList_app rfl (.tmp 4) (.tmp 8) rfl w.heap.size v1 l (little S) rfl HO2.out A2 4 c2 rfl HL2.out HR2.out (by rw [HN.out]; omega) HSZ.out ?_; intro v5 w5 hown5 hg5 hv5)
  have hbn : Below w.heap.size w w5 := HB2.out.grown hg5 HSZ.out (fun g hg => (HO2.out.lt g hg).1)
  have HOW := hide hown5
  have HBN := hide hbn
  clear hown5 hg5 hv5 hbn
  go_wp2_with fail
  go_ret
  exact ⟨v5, rfl, by rw [← HS.out]; exact HOW.out, HBN.out⟩

/-- What the reference's Open answers. -/
def RefOpenPost (good : Bool) (A : Option Addr) (cap n : Nat) (w : World) (e : Ending) (w' : World) : Prop :=
  Below w.heap.size w w' ∧ if good then e = .returned (.tuple #[.slice A n cap, .int .i64 0]) else e = .returned (.tuple #[.slice none 0 0, .int .i64 102])

theorem refOpen_short (A : Option Addr) (cap n : Nat) (w : World) (hn : n < 4) :
    Calls Tryd.prog 16 #[.slice A n cap] w fun e w' => e = .returned (.tuple #[.slice none 0 0, .int .i64 101]) ∧ w = w' := by
  go_enter Tryd.func16, Tryd.ntmps16
  go_wp2_with fail
  go_ret2
  exact ⟨rfl, rfl⟩

set_option maxRecDepth 100000 in
set_option maxHeartbeats 1000000 in
theorem refOpen_long (b off cap n : Nat) (l : List UInt8) (w : World) (hn4 : l.length = n + 4) (hl : n + 4 ≤ 1000000) (hc : n + 4 ≤ cap) (hr : Reads w (some ⟨b, off, none⟩) l)
    (x0 x1 x2 x3 : UInt8) (hx : l.drop n = [x0, x1, x2, x3]) (nb : Bool) (hnb : (U (w4 x0 x1 x2 x3) != U (sum (l.take n))) = nb) :
    Calls Tryd.prog 16 #[.slice (some ⟨b, off, none⟩) (n + 4) cap] w (RefOpenPost (!nb) (some ⟨b, off, none⟩) cap n w) := by
  have HR := hide hr
  have HN := hide hn4
  have hr4 : Reads w (some ⟨b, off + n, none⟩) [x0, x1, x2, x3] := by
    have h := hr.sub n 4
    rw [hx] at h
    exact h
  have HR4 := hide hr4
  have HNB := hide hnb
  have h1 : (l.take n).length = n := by simp; omega
  have HLT := hide h1
  clear hr hn4 hx hnb h1 hr4
  have hnc : n ≤ cap := by omega
  go_enter Tryd.func16, Tryd.ntmps16
  go_wp2_with fail
  go_cut [20] (fun v wc => v = .bool nb ∧ Below w.heap.size w wc)
  case first =>
    refine wp_region_all [11, 12, 13, 14, 15, 16, 17, 18, 19, 20] (fun d => match d with
      | 11 => .is (.slice (some ⟨b, off, none⟩) (n + 4) cap) | 12 => .is (.int .i64 n) | 13 => .is (.slice (some ⟨b, off + n, none⟩) 4 (cap - n)) | 14 => .is (.int .u64 (U (w4 x0 x1 x2 x3))) | 15 => .is (.int .u32 (U (w4 x0 x1 x2 x3)))
      | 16 => .is (.slice (some ⟨b, off, none⟩) (n + 4) cap) | 17 => .is (.int .i64 n) | 18 => .is (.slice (some ⟨b, off, none⟩) n cap) | 19 => .is (.int .u32 (U (sum (l.take n)))) | 20 => .is (.bool nb)
      | _ => .any) (by kernel_rfl) (by kernel_rfl) (by kernel_rfl) ?_ ?_
    · have k1 := fun W => run_cut_h W (some ⟨b, off, none⟩) (n + 4) cap n (by omega)
      have k2 : ∀ W, (Instr.sliceAt 22 (.slice (some ⟨b, off, none⟩) (n + 4) cap) (some (.int .i64 (n : Int))) none none).run Tryd.prog W = .ok (.slice (some ⟨b, off + n, none⟩) 4 (cap - n)) W := fun W => by
        rw [run_cut_l W (some ⟨b, off, none⟩) (n + 4) cap n (by omega)]
        unfold cutA
        rw [if_neg (by omega)]
        simp [Addr.add_lit]
      simp only [StepsOk]
      refine ⟨?_, ?_, ?_, ?_, ?_, ?_, ?_, ?_, ?_, ?_, trivial⟩
      all_goals
        intro ev w1 hb hev hd
        have ev0 : ev (.tmp 0) = .slice (some ⟨b, off, none⟩) (n + 4) cap := hev _ (by simp)
        have ev4 : ev (.tmp 4) = .int .i64 n := hev _ (by simp)
        have evf : ∀ f, ev (.func f) = .func (.func f) #[] #[] := fun f => hev _ (by simp)
        have evc : ∀ f, ev (.const f) = f := fun f => hev _ (by simp)
        have HB := hide hb
        clear hev hb
        simp [DepsOk, Known.is, Known.one] at hd
        try simp [OpRuns, execOp, go_sem, Known.is, Known.one, Below.refl, *]
      · refine (fixed_four _ _ x0 x1 x2 x3 w1 (HR4.out.below HB.out (Nat.le_refl _))).mono ?_
        rintro e w3 ⟨rfl, rfl⟩
        exact ⟨rfl, Below.refl _ _⟩
      · refine (refSum_any _ cap n (l.take n) w1 HLT.out (by omega) ((HR.out.below HB.out (Nat.le_refl _)).first n)).mono ?_
        rintro e w3 ⟨rfl, rfl⟩
        exact ⟨rfl, Below.refl _ _⟩
      · exact HNB.out
    · intro f w1 hb hf
      have hbw := hide hb
      have e20 : f 20 = .bool nb := hf 20 (by simp)
      clear hf hb
      simp only [puts]
      go_simp
      refine wpList_nil ?_
      go_wp2_with fail
      go_meet
      exact ⟨rfl, hbw.out⟩
  case rest =>
    obtain ⟨rfl, hbc⟩ := hcut
    have HBC := hide hbc
    clear hbc HNB
    cases nb
    · go_wp2_with fail
      go_ret2
      exact ⟨HBC.out, rfl⟩
    · go_wp2_with fail
      go_ret2
      exact ⟨HBC.out, rfl⟩
end Go.Proofs.YtdiplknlkmealaaDoor
