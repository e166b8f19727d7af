/-
  IndexFinds, walked.
-/
import Derived.Test.YteeadlefbehhfaaDoorIxO
import Derived.Test.YteeadlefbehhfaaDoorIxY
import Derived.Deep.LoopGhost
namespace Go.Proofs.YteeadlefbehhfaaDoor
open Go.RowKit

def zf (zs : List Int) (k : Nat) : Int := zs.getD k 0 % 90 + 1
theorem zf_le (zs : List Int) (k : Nat) : 1 ≤ zf zs k ∧ zf zs k ≤ 90 := by unfold zf; omega

/-- What lies beside: a row of starts. -/
structure FindsR (w : World) (X : Nat) (e : Int) (z : Nat → Int) (k : Nat) (v : Value) (wr : World) : Prop where
  ex : ∃ S, IxO w X (Ix.stF e z k) S wr ∧ ∀ g, v.ownBlock = some g → ¬ S g
  own : OwnI wr w.heap.size v ((List.range k).map (Ix.posF z))

theorem FindsR.below {w : World} {X : Nat} {e : Int} {z : Nat → Int} {k : Nat} {v : Value} {wr w' : World} (h : FindsR w X e z k v wr) (hb : Below wr.heap.size wr w') : FindsR w X e z k v w' := by
  obtain ⟨S, hi, hs⟩ := h.ex
  exact ⟨⟨S, hi.below hb, hs⟩, h.own.same fun g hg => hb.block g (h.own.lt g hg).2⟩
theorem FindsR.bel {w : World} {X : Nat} {e : Int} {z : Nat → Int} {k : Nat} {v : Value} {wr : World} (h : FindsR w X e z k v wr) : Below w.heap.size w wr := by
  obtain ⟨S, hi, hs⟩ := h.ex
  exact hi.bel
/-- What an Add and an append leave. -/
theorem FindsR.next {w : World} {X : Nat} {e : Int} {z : Nat → Int} {k : Nat} {v v' : Value} {wr w6 w7 : World} {S : Nat → Prop} (hi : IxO w X (Ix.stF e z (k + 1)) (Up S wr w6) w6) (hn : ∀ g, v.ownBlock = some g → ¬ S g) (hlt : ∀ g, v.ownBlock = some g → w.heap.size ≤ g ∧ g < wr.heap.size) (o : Obj)
    (hown : OwnI w7 w.heap.size v' ((List.range (k + 1)).map (Ix.posF z))) (hg : (w6.alloc o).grownBy w7 v.ownBlock) (hv : v'.ownBlock = v.ownBlock ∨ v'.ownBlock = some (w6.alloc o).heap.size) : FindsR w X e z (k + 1) v' w7 := by
  have hnu : ∀ g, v.ownBlock = some g → ¬ Up S wr w6 g := fun g hg' hu => by
    rcases hu with hu | hu
    · exact hn g hg' hu
    · have := hlt g hg'; omega
  refine ⟨⟨_, hi.grow (balloc (Below.refl _ _) o) hg fun g e' => ⟨hnu g e', (hlt g e').1⟩, fun g hg' hu => ?_⟩, hown⟩
  rcases hv with h | h
  · exact hnu g (h ▸ hg') hu
  · rw [h] at hg'
    injection hg' with hg'
    have h1 := (hi.lo g hu).2
    have h2 : w6.heap.size < (w6.alloc o).heap.size := by simp
    omega

theorem news1 {w : World} {a : Value} {t : TypeId} : ∀ j u, ([a] : List Value)[j]? = some u → (w.alloc (.cells #[a] t)).cell? ((⟨w.heap.size, 0, none⟩ : Addr).add j) = some u := fun j u h => by
  rw [Addr.add_lit, Nat.zero_add, World.cell?_alloc_mark]
  simpa using h
theorem own_next {w7 : World} {base : Nat} {v : Value} {z : Nat → Int} {k : Nat} {ps : Int} (hp : ps = Ix.posF z k) (h : w7.ownsRow base 3 1 v (((List.range k).map (Ix.posF z)).length + 1) (((List.range k).map (Ix.posF z)).map (.int .i64 ·) ++ [.int .i64 ps])) : OwnI w7 base v ((List.range (k + 1)).map (Ix.posF z)) := by
  subst hp
  unfold OwnI
  have e1 : ((List.range (k + 1)).map (Ix.posF z)).length = ((List.range k).map (Ix.posF z)).length + 1 := by simp
  have e2 : ((List.range (k + 1)).map (Ix.posF z)).map (Value.int .i64 ·) = ((List.range k).map (Ix.posF z)).map (.int .i64 ·) ++ [.int .i64 (Ix.posF z k)] := by simp [List.range_succ]
  rw [e1, e2]
  exact h
theorem starts_get {w : World} {base : Nat} {v : Value} {f : Nat → Int} {m : Nat} (h : OwnI w base v ((List.range (m + 1)).map f)) : ∃ g c, v = .slice (some ⟨g, 0, none⟩) (m + 1) c ∧ m + 1 ≤ c ∧ ∀ k, k < m + 1 → w.cell? ⟨g, k, none⟩ = some (.int .i64 (f k)) := by
  obtain ⟨A, c, e, hk⟩ := h.get
  have hl : ((List.range (m + 1)).map f).length = m + 1 := by simp
  rw [hl] at e
  obtain ⟨g, rfl, hc, -⟩ := hk 0 (by rw [hl]; omega)
  rw [hl] at hc
  refine ⟨g, c, e, hc, fun k hk' => ?_⟩
  obtain ⟨g', eg, -, hcell⟩ := hk k (by rw [hl]; exact hk')
  injection eg with eg
  injection eg with eg
  subst eg
  rw [hcell]
  congr 2
  simp [List.getD, hk']
theorem FindsR.marks {w : World} {X : Nat} {e : Int} {z : Nat → Int} {m L : Nat} {v : Value} {wr : World} (hm : m ≤ 1000) (hL : (Ix.stF e z (m + 1)).marks.length = L + 1) (ht : ∀ (h : L < (Ix.stF e z (m + 1)).marks.length), ((Ix.stF e z (m + 1)).marks[L]).time = (Ix.lm e z m : Nat)) (h : FindsR w X e z (m + 1) v wr) :
    Calls Tryd.prog 14 #[.pointer (some ⟨X, 0, none⟩)] wr fun r w' => ∃ g c, r = .returned (.slice (some ⟨g, 0, none⟩) (L + 1) c) ∧ L + 1 ≤ c ∧ w'.cell? ⟨g, L * 3 + 1, none⟩ = some (.int .i64 (Ix.lm e z m : Nat)) ∧ Below wr.heap.size wr w' := by
  obtain ⟨S, hi, -⟩ := h.ex
  have hle := Ix.mksF_len (e := e) (z := z) (m + 1)
  refine (marks_any X _ S wr (by simp [Ix.stF]; omega) hi.ix).mono ?_
  rintro r w' ⟨v, rfl, hv, hb⟩
  obtain ⟨g, c, rfl, hc, hcell⟩ := last_row hL ht hv
  exact ⟨g, c, rfl, hc, hcell, hb⟩
theorem FindsR.find {w : World} {X : Nat} {e : Int} {z : Nat → Int} {n : Nat} {v : Value} {wr : World} (hm : n ≤ 1000) (h : FindsR w X e z n v wr) (o : Int) :
    Calls Tryd.prog 20 #[.pointer (some ⟨X, 0, none⟩), .int .i64 o] wr fun r w' => r = .returned (.int .i64 ((Ix.stF e z n).find o)) ∧ Below wr.heap.size wr w' := by
  obtain ⟨S, hi, -⟩ := h.ex
  have hle := Ix.mksF_len (e := e) (z := z) n
  exact ixFind_any X _ S o wr (by simp [Ix.stF]; omega) hi.ix (Ix.monoF n o)
theorem FindsR.when {w : World} {X : Nat} {e : Int} {z : Nat → Int} {n : Nat} {v : Value} {wr : World} (hm : n ≤ 1000) (h : FindsR w X e z n v wr) (t : Int) :
    Calls Tryd.prog 21 #[.pointer (some ⟨X, 0, none⟩), .int .i64 t] wr fun r w' => r = .returned (.tuple #[.int .i64 ((Ix.stF e z n).when t).1, .bool ((Ix.stF e z n).when t).2]) ∧ Below wr.heap.size wr w' := by
  obtain ⟨S, hi, -⟩ := h.ex
  have hle := Ix.mksF_len (e := e) (z := z) n
  exact when_any X _ S t wr (by simp [Ix.stF]; omega) hi.ix
/-- Which of the places was found, k of them seen. -/
def seen (j k : Nat) : Int := if j < k then (j : Int) else -1
theorem seen_here (j : Nat) : seen j (j + 1) = j := if_pos (by omega)
theorem seen_other {j k : Nat} (h : k ≠ j) : seen j (k + 1) = seen j k := by unfold seen; split <;> split <;> omega
theorem seen_all {j k : Nat} (h : j < k) : seen j k = j := if_pos h

set_option maxRecDepth 100000 in
set_option maxHeartbeats 4000000 in
theorem finds_any (w : World) (p : Nat → Addr) (hs : Sent4 w p) (A : Option Addr) (cap n : Nat) (zs : List Int) (e0 c0 : Int) (hn : zs.length = n) (hc : n ≤ cap) (hA : Ints w A zs) (hz : ∀ k, k < n → -9223372036854775808 ≤ zs.getD k 0 ∧ zs.getD k 0 ≤ 9223372036854775807) (he : -9223372036854775808 ≤ e0 ∧ e0 ≤ 9223372036854775807) (hc0 : -9223372036854775808 ≤ c0 ∧ c0 ≤ 9223372036854775807) :
    Calls Tryd.prog 4 #[.int .i64 e0, .slice A n cap, .int .i64 c0] w fun e w' => e = .returned (.bool true) ∧ Below w.heap.size w w' := by
  have HF := hide (firstI_any w p hs)
  have HS := hide hs
  have HNE := hide (fun V => number_any e0 200 V (by omega) (by omega) he.1 he.2)
  have hwe : IntKind.i64.wrap (e0 % 200 + 1) = e0 % 200 + 1 := by rw [IntKind.wrap_i64]; omega
  by_cases h60 : 60 < n
  · have d0 : decide ((60 : Int) < n) = true := by simp; omega
    clear hA hz hn hc he hs hc0
    go_enter Tryd.func4, Tryd.ntmps4
    go_wp2_with (first
      | (go_at_call 9; refine HF.out.mono ?_; rintro e w1 ⟨rfl, hb⟩; have HB1 := hide hb; clear hb)
      | (go_at_call 17; refine (HNE.out _).mono ?_; rintro e w3 ⟨rfl, e⟩; subst e)
      | fail)
    go_ret
    exact ⟨rfl, HB1.out⟩
  · have d0 : decide ((60 : Int) < n) = false := by simp; omega
    by_cases hn0 : n = 0
    · subst hn0
      clear hA hz hn hc he hs hc0
      go_enter Tryd.func4, Tryd.ntmps4
      go_wp2_with (first
        | (go_at_call 9; refine HF.out.mono ?_; rintro e w1 ⟨rfl, hb⟩; have HB1 := hide hb; clear hb)
        | (go_at_call 17; refine (HNE.out _).mono ?_; rintro e w3 ⟨rfl, e⟩; subst e)
        | fail)
      go_ret
      exact ⟨rfl, HB1.out⟩
    · obtain ⟨m, rfl⟩ : ∃ m, n = m + 1 := ⟨n - 1, by omega⟩
      have hn60 : m + 1 ≤ 60 := by omega
      have dz : (((m : Int) + 1) == 0) = false := by rw [beq_eq_false_iff_ne]; omega
      obtain ⟨ev, hev⟩ : ∃ ev, ev = e0 % 200 + 1 := ⟨_, rfl⟩
      have heb : 1 ≤ ev ∧ ev ≤ 200 := by omega
      obtain ⟨r0, hr0⟩ : ∃ r0, r0 = e0 % 200 := ⟨_, rfl⟩
      rw [← hr0] at hwe HNE hev
      replace hwe : IntKind.i64.wrap (r0 + 1) = ev := by rw [hwe, hev]
      have HNC := hide (fun V => number_any c0 ((m : Int) + 1) V (by omega) (by omega) hc0.1 hc0.2)
      obtain ⟨i, hi⟩ : ∃ i : Nat, (i : Int) = c0 % ((m : Int) + 1) := ⟨(c0 % ((m : Int) + 1)).toNat, by have := Int.emod_nonneg c0 (show ((m : Int) + 1) ≠ 0 by omega); omega⟩
      have him : i ≤ m := by have := Int.emod_lt_of_pos c0 (show 0 < ((m : Int) + 1) by omega); omega
      rw [← hi] at HNC
      have HZ := hide hz
      have HN := hide hn
      have HA := hide hA
      obtain ⟨z, hzd⟩ : ∃ z, z = zf zs := ⟨_, rfl⟩
      have HZB : Hid (∀ k, 1 ≤ z k ∧ z k ≤ 90) := hide (fun k => by rw [hzd]; exact zf_le zs k)
      have HZE : Hid (∀ k, zs.getD k 0 % 90 + 1 = z k) := hide (fun k => by rw [hzd]; rfl)
      clear hA hz hn he hs hc0 hi hr0 hev hzd h60 hn0
      go_enter Tryd.func4, Tryd.ntmps4
      go_wp2_with (first
        | (go_at_call 9; refine HF.out.mono ?_; rintro e w1 ⟨rfl, hb⟩; have HNW := hide (new_ixO w ev w1 hb (by omega)); clear hb)
        | (go_at_call 18; refine HNW.out.mono ?_; rintro e w2 ⟨rfl, hi, -⟩; have I2 := hide hi; clear hi HNW)
        | (go_at_call 17; refine (HNE.out _).mono ?_; rintro e w3 ⟨rfl, e⟩; subst e)
        | fail)
      obtain ⟨X, hX⟩ : ∃ X, X = w1.heap.size := ⟨_, rfl⟩
      rw [← hX] at I2 ⊢
      clear hX
      go_loopw [10, 11, 12] (fun v ps iv wr => ∃ k : Nat, k ≤ m + 1 ∧ iv = .int .i64 k ∧ ps = .int .i64 (Ix.posF z k) ∧ FindsR w X ev z k v wr) (fun _ _ iv _ => m + 1 - (intOf iv).toNat)
      case atStart => exact ⟨0, Nat.zero_le _, rfl, rfl, ⟨_, I2.out, fun g hg => by cases hg⟩, World.ownsRow_nil _ _ _ _⟩
      case round =>
        obtain ⟨k, hk, rfl, rfl, hr⟩ := hrel
        have I := hide hr
        clear hr
        by_cases hkn : k < m + 1
        · obtain ⟨b, off, rfl, hbl, hcell⟩ : ∃ b off, A = some ⟨b, off, none⟩ ∧ b < w.heap.size ∧ w.cell? ⟨b, off + k, none⟩ = some (.int .i64 (zs.getD k 0)) := by
            rcases HA.out with e | ⟨b, off, e, hb, hc'⟩
            · have := HN.out; rw [e] at this; simp at this
            · exact ⟨b, off, e, hb, hc' k (by rw [HN.out]; exact hkn)⟩
          have cc0 := (I.out.bel.cell (p := ⟨b, off + k, none⟩) hbl).trans hcell
          have hyb := HZ.out k hkn
          have hwz := HZE.out k
          obtain ⟨y, hy⟩ : ∃ y, y = zs.getD k 0 := ⟨_, rfl⟩
          rw [← hy] at cc0 hyb hwz
          have HL := hide (fun V => number_any y 90 V (by omega) (by omega) hyb.1 hyb.2)
          replace hwz : IntKind.i64.wrap (y % 90 + 1) = z k := by rw [← hwz, IntKind.wrap_i64]; omega
          obtain ⟨r, hr⟩ : ∃ r, r = y % 90 := ⟨_, rfl⟩
          rw [← hr] at HL hwz
          clear hr hy hyb hcell
          have hw10 : IntKind.i64.wrap (10 * (k : Int)) = 10 * (k : Int) := by rw [IntKind.wrap_i64]; omega
          have hpb := Ix.posF_le HZB.out k
          have hzb := HZB.out k
          obtain ⟨S, hio, hsg⟩ := I.out.ex
          have had := hio.add p HS.out (10 * (k : Int)) (k : Int) (Ix.posF z k) (z k) (by simp [Ix.stF]; omega) (by have := Ix.mksF_len (e := ev) (z := z) k; simp [Ix.stF]; omega)
          rw [Ix.addF heb.1 HZB.out k (by omega)] at had
          simp only [errR] at had
          have HAD := hide had
          have HSG := hide hsg
          have HP1 : Hid (Ix.posF z (k + 1) = Ix.posF z k + z k) := hide rfl
          have hwp : IntKind.i64.wrap (Ix.posF z k + z k) = Ix.posF z (k + 1) := by rw [HP1.out, IntKind.wrap_i64]; omega
          clear had hio hsg
          obtain ⟨ps, hps⟩ : ∃ ps, ps = Ix.posF z k := ⟨_, rfl⟩
          obtain ⟨zk, hzk⟩ : ∃ zk, zk = z k := ⟨_, rfl⟩
          rw [← hps, ← hzk] at HAD hwp
          rw [← hzk] at hwz
          rw [← hps]
          have HPS := hide hps
          clear hps hzk hpb hzb
          go_upto_region 18 with (first
            | (go_at_call 17; refine (HL.out _).mono ?_; rintro e w3 ⟨rfl, e⟩; subst e)
            | (go_at_call 19; refine HAD.out.mono ?_; rintro e w6 ⟨rfl, h6, hc6⟩; have I6 := hide h6; have C6 := hide hc6; clear h6 hc6)
            | fail)
          have HOW : Hid (OwnI (w6.alloc (.cells #[.int .i64 ps] 3)) w.heap.size u10 ((List.range k).map (Ix.posF z))) := hide (I.out.own.same fun g hg => ((balloc (Below.refl w6.heap.size w6) _).block g (Nat.lt_of_lt_of_le (I.out.own.lt g hg).2 C6.out.size)).trans (C6.out.block g (I.out.own.lt g hg).2 (HSG.out g hg)))
          go_wp2_with (first
            | (have _t := HOW; at_builtin; refine wpList_appG (w := w6.alloc _) rfl 44 3 1 8 _ (by kernel_rfl) int_info rfl (by omega) (.tmp 70) (.tmp 72) rfl w.heap.size _ _ _ rfl HOW.out ⟨w6.heap.size, 0, none⟩ 1 1 [.int .i64 ps] rfl rfl news1 (by intro u hu; simp at hu; subst hu; rfl) (by simp [maxLen]; omega) (by simp; omega) (by have := C6.out.size; have := I.out.bel.size; simp; omega) ?_; intro v7 w7 hown7 hg7 hv7; have NX := hide (FindsR.next I6.out HSG.out I.out.own.lt _ (own_next HPS.out hown7) hg7 hv7); clear hown7 hg7 hv7 HOW)
            | fail)
          go_roundw
          case rel => exact ⟨k + 1, by omega, by go_num, rfl, NX.out⟩
          case measure => simp [intOf]; omega
        · obtain rfl : k = m + 1 := by omega
          clear hkn
          obtain ⟨gs, cs, rfl, hcs, hst⟩ := starts_get I.out.own
          have hfi := I.out.find (by omega) (10 * (i : Int))
          rw [Ix.findF i (m + 1) (by omega)] at hfi
          have hji := Ix.lm_le (e := ev) (z := z) i
          have hnear := Ix.lm_near (e := ev) (z := z) heb.1 i
          have hpi := Ix.posF_le HZB.out i
          have hpj := Ix.posF_le HZB.out (Ix.lm ev z i)
          have HLT := hide (fun (a b : Nat) (h : a < b) => Ix.posF_lt (z := z) (fun x => (HZB.out x).1) h)
          obtain ⟨j, hj⟩ : ∃ j, j = Ix.lm ev z i := ⟨_, rfl⟩
          rw [← hj] at hfi hji hnear hpj
          clear hj
          have HFI := hide hfi
          have HST := hide hst
          obtain ⟨L, hL, hLm, hLt⟩ := Ix.lastT (e := ev) (z := z) m
          obtain ⟨off, hoff, hwhen⟩ := Ix.whenF (e := ev) (z := z) m i
          have HM := hide (fun (V : World) (h : FindsR w X ev z (m + 1) (.slice (some ⟨gs, 0, none⟩) (m + 1) cs) V) => h.marks (by omega) hL hLt)
          have HWN := hide (fun (V : World) (h : FindsR w X ev z (m + 1) (.slice (some ⟨gs, 0, none⟩) (m + 1) cs) V) => h.when (by omega) (i : Int))
          have HF1 := hide (fun (V : World) (h : FindsR w X ev z (m + 1) (.slice (some ⟨gs, 0, none⟩) (m + 1) cs) V) => h.find (by omega) (-1))
          rw [hwhen] at HWN
          rw [Ix.findF_none] at HF1
          obtain ⟨q, hq⟩ : ∃ q, q = Ix.lm ev z m := ⟨_, rfl⟩
          rw [← hq] at HM HWN
          have hw10 : IntKind.i64.wrap (10 * (i : Int)) = 10 * (i : Int) := by rw [IntKind.wrap_i64]; omega
          clear hfi hst hL hLt hwhen hq
          obtain ⟨pn, hpn⟩ : ∃ pn, pn = Ix.posF z (m + 1) := ⟨_, rfl⟩
          rw [← hpn]
          clear hpn
          obtain ⟨pj, hpj'⟩ : ∃ pj, pj = Ix.posF z j := ⟨_, rfl⟩
          have HPJ := hide hpj'
          rw [← hpj'] at HFI hnear hpj
          clear hpj'
          go_wp2_with (first
            | (go_at_call 17; refine (HNC.out _).mono ?_; rintro e w3 ⟨rfl, e⟩; subst e)
            | (go_at_call 20; refine HFI.out.mono ?_; rintro e w8 ⟨rfl, hb⟩; have I8 := hide (I.out.below hb); have HST8 := hide (fun x (hx : x < m + 1) => (hb.cell (p := ⟨gs, x, none⟩) (World.block_lt_of_cell? _ _ (HST.out x hx))).trans (HST.out x hx)); clear hb)
            | fail)
          go_loopw [16, 17] (fun at_ kv wq => ∃ k : Nat, k ≤ m + 1 ∧ kv = .int .i64 k ∧ at_ = .int .i64 (seen j k) ∧ wq = w8) (fun _ kv _ => m + 1 - (intOf kv).toNat)
          case atStart => exact ⟨0, Nat.zero_le _, rfl, rfl, rfl⟩
          case round =>
            obtain ⟨k, hk, rfl, rfl, rfl⟩ := hrel
            by_cases hkm : k < m + 1
            · have ck := HST8.out k hkm
              by_cases hkj : k = j
              · have hx : (Ix.posF z k == pj) = true := by rw [HPJ.out, hkj]; exact beq_self_eq_true _
                have HKJ := hide hkj
                clear hkj
                obtain ⟨x, hxx⟩ : ∃ x, x = Ix.posF z k := ⟨_, rfl⟩
                rw [← hxx] at ck hx
                clear hxx
                go_wp2_with fail
                go_roundw
                case rel => exact ⟨k + 1, by omega, by go_num, by rw [HKJ.out, seen_here], by first | rfl | trivial⟩
                case measure => simp [intOf]; omega
              · have hx : (Ix.posF z k == pj) = false := by
                  rw [beq_eq_false_iff_ne, HPJ.out]
                  intro h
                  rcases Nat.lt_or_ge k j with h' | h'
                  · have := HLT.out k j h'; omega
                  · have := HLT.out j k (by omega); omega
                have HKJ := hide hkj
                clear hkj
                obtain ⟨x, hxx⟩ : ∃ x, x = Ix.posF z k := ⟨_, rfl⟩
                rw [← hxx] at ck hx
                clear hxx
                go_wp2_with fail
                go_roundw
                case rel => exact ⟨k + 1, by omega, by go_num, by rw [seen_other HKJ.out], by first | rfl | trivial⟩
                case measure => simp [intOf]; omega
            · obtain rfl : k = m + 1 := by omega
              rw [seen_all (show j < m + 1 by omega)]
              have ci := HST8.out i (by omega)
              have HJI : Hid (j ≤ i) := hide hji
              have dj : decide ((j : Int) < 0) = false := decide_eq_false (by omega)
              have dji : decide ((i : Int) < (j : Int)) = false := decide_eq_false (by omega)
              have hwd : IntKind.i64.wrap (Ix.posF z i - pj) = Ix.posF z i - pj := by rw [IntKind.wrap_i64]; omega
              have de : decide (ev ≤ Ix.posF z i - pj) = false := decide_eq_false (by omega)
              have dL : decide ((0 : Int) < (L : Int) + 1) = true := decide_eq_true (by omega)
              have hwL : IntKind.i64.wrap (L : Int) = (L : Int) := by rw [IntKind.wrap_i64]; omega
              have doff : decide (0 ≤ off) = true := decide_eq_true hoff
              obtain ⟨x, hxx⟩ : ∃ x, x = Ix.posF z i := ⟨_, rfl⟩
              rw [← hxx] at ci hwd de
              clear hxx hkm hnear hpi hpj
              by_cases hiq : i ≤ q
              · have d1 : decide (i ≤ q) = true := decide_eq_true hiq
                have d2 : decide ((i : Int) ≤ (q : Int)) = true := decide_eq_true (by omega)
                rw [d1] at HWN
                go_wp2_with (first
                  | (go_at_call 21; refine (HWN.out _ I8.out).mono ?_; rintro e w9 ⟨rfl, hb⟩; have I9 := hide (I8.out.below hb); clear hb)
                  | (go_at_call 14; have _t := I11; refine (HM.out _ I11.out).mono ?_; rintro e w12 ⟨g12, c12, rfl, hc12, m12, hb⟩; have m11' := (hb.cell (World.block_lt_of_cell? _ _ m11)).trans m11; have I12 := hide (I11.out.below hb); clear hb I11)
                  | (go_at_call 14; have _t := I10; refine (HM.out _ I10.out).mono ?_; rintro e w11 ⟨g11, c11, rfl, hc11, m11, hb⟩; have I11 := hide (I10.out.below hb); clear hb I10)
                  | (go_at_call 14; have _t := I9; refine (HM.out _ I9.out).mono ?_; rintro e w10 ⟨g10, c10, rfl, hc10, m10, hb⟩; have I10 := hide (I9.out.below hb); clear hb I9)
                  | (go_at_call 20; refine (HF1.out _ I12.out).mono ?_; rintro e w13 ⟨rfl, hb⟩; have I13 := hide (I12.out.below hb); clear hb)
                  | fail)
                go_ret
                exact ⟨rfl, I13.out.bel⟩
              · have d1 : decide (i ≤ q) = false := decide_eq_false hiq
                have d2 : decide ((i : Int) ≤ (q : Int)) = false := decide_eq_false (by omega)
                rw [d1] at HWN
                go_wp2_with (first
                  | (go_at_call 21; refine (HWN.out _ I8.out).mono ?_; rintro e w9 ⟨rfl, hb⟩; have I9 := hide (I8.out.below hb); clear hb)
                  | (go_at_call 14; have _t := I11; refine (HM.out _ I11.out).mono ?_; rintro e w12 ⟨g12, c12, rfl, hc12, m12, hb⟩; have m11' := (hb.cell (World.block_lt_of_cell? _ _ m11)).trans m11; have I12 := hide (I11.out.below hb); clear hb I11)
                  | (go_at_call 14; have _t := I10; refine (HM.out _ I10.out).mono ?_; rintro e w11 ⟨g11, c11, rfl, hc11, m11, hb⟩; have I11 := hide (I10.out.below hb); clear hb I10)
                  | (go_at_call 14; have _t := I9; refine (HM.out _ I9.out).mono ?_; rintro e w10 ⟨g10, c10, rfl, hc10, m10, hb⟩; have I10 := hide (I9.out.below hb); clear hb I9)
                  | (go_at_call 20; refine (HF1.out _ I12.out).mono ?_; rintro e w13 ⟨rfl, hb⟩; have I13 := hide (I12.out.below hb); clear hb)
                  | fail)
                go_ret
                exact ⟨rfl, I13.out.bel⟩
end Go.Proofs.YteeadlefbehhfaaDoor
