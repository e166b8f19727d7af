/-
  The walk through package crc's Open: what was sealed, or why not.
-/
import Derived.Test.YtoaioijgmbhhnaaDoorRows7
import Derived.Test.YtoaioijgmbhhnaaDoorIs
import Derived.Test.YtoaioijgmbhhnaaDoorDetect
import Derived.Test.YtoaioijgmbhhnaaDoorOwnSet
namespace Go.Proofs.YtoaioijgmbhhnaaDoor
open Go.RowKit Crc
attribute [local go_sem] BtoNat x32 n32 x8 and8_15 mod256 wrap8 xs32 Bd16toNat mul2

def w4 (a b c d : UInt8) : BitVec 32 := ((w8 a ||| w8 b <<< 8) ||| w8 c <<< 16) ||| w8 d <<< 24
theorem or32 (a b : BitVec 32) : bits .or .u32 (U a) (U b) = U (a ||| b) := by
  unfold U
  rw [u32_or_nat _ _ a.isLt b.isLt]; simp
theorem shl32 (c : BitVec 32) (k : Nat) : IntKind.u32.wrap (U c * (2 : Int) ^ k) = U (c <<< k) := by
  unfold U
  rw [IntKind.wrap_u32, BitVec.toNat_shiftLeft, Nat.shiftLeft_eq]
  simp
theorem w4_word (l : List UInt8) : w4 (l.getD 0 0) (l.getD 1 0) (l.getD 2 0) (l.getD 3 0) = word l := by
  unfold w4 word w8
  generalize l.getD 0 0 = a
  generalize l.getD 1 0 = b
  generalize l.getD 2 0 = c
  generalize l.getD 3 0 = d
  apply BitVec.eq_of_getLsbD_eq
  intro i hi
  simp only [BitVec.getLsbD_or, BitVec.getLsbD_xor, BitVec.getLsbD_shiftLeft, BitVec.getLsbD_setWidth, hi]
  by_cases h1 : i < 8
  · simp [h1, show i < 16 by omega, show i < 24 by omega]
  · by_cases h2 : i < 16
    · simp [h1, h2, show i < 24 by omega, BitVec.getLsbD_of_ge a.toBitVec i (by omega)]
    · by_cases h3 : i < 24
      · simp [h1, h2, h3, BitVec.getLsbD_of_ge a.toBitVec i (by omega), BitVec.getLsbD_of_ge b.toBitVec (i - 8) (by omega)]
      · simp [h1, h2, h3, BitVec.getLsbD_of_ge a.toBitVec i (by omega), BitVec.getLsbD_of_ge b.toBitVec (i - 8) (by omega), BitVec.getLsbD_of_ge c.toBitVec (i - 16) (by omega)]

/-- What Open answers. -/
def OpenPost (good : Bool) (l : List UInt8) (n : Nat) (p : Nat → Addr) (w : World) (e : Ending) (w' : World) : Prop :=
  Below w.heap.size w w' ∧ if good then ∃ A c, e = .returned (.tuple #[.slice A n c, .nilIface]) ∧ Reads w' A (l.take n) else e = .returned (.tuple #[.slice none 0 0, errV (p 1)])

set_option maxRecDepth 100000 in
set_option maxHeartbeats 1000000 in
theorem open_long (b off cap n : Nat) (l : List UInt8) (w : World) (p : Nat → Addr) (hn4 : l.length = n + 4) (hl : n + 4 ≤ 1000000) (hc : n + 4 ≤ cap) (hc2 : cap ≤ 9223372036854775807) (hr : Reads w (some ⟨b, off, none⟩) l) (ht : Tabs w) (hs : Sents w p)
    (x0 x1 x2 x3 : UInt8) (hx : l.drop n = [x0, x1, x2, x3]) (nb : Bool) (hnb : (U (sum (l.take n)) != U (w4 x0 x1 x2 x3)) = nb) :
    Calls Tryd.prog 44 #[.slice (some ⟨b, off, none⟩) (n + 4) cap] w (OpenPost (!nb) l n p w) := by
  have HR := hide hr
  have HT := hide ht
  have HS := hide hs
  have HN := hide hn4
  have cellAt : ∀ (W : World), Below w.heap.size w W → ∀ k x, (l.drop n)[k]? = some x → W.cell? ⟨b, off + n + k, none⟩ = some (.int .u8 (B x)) := fun W hb k x hk => by
    rw [Nat.add_assoc]
    have hk2 : l[n + k]? = some x := by rw [List.getElem?_drop] at hk; exact hk
    have hlt : n + k < l.length := (List.getElem?_eq_some_iff.1 hk2).1
    rw [reads_cell (HR.out.below hb (Nat.le_refl _)) (n + k) hlt]
    simp [List.getD, hk2]
  rw [hx] at cellAt
  have hcell : ∀ (W : World), Below w.heap.size w W → W.cell? ⟨b, off + n, none⟩ = some (.int .u8 (B x0)) ∧ W.cell? ⟨b, off + n + 1, none⟩ = some (.int .u8 (B x1)) ∧ W.cell? ⟨b, off + n + 2, none⟩ = some (.int .u8 (B x2)) ∧ W.cell? ⟨b, off + n + 3, none⟩ = some (.int .u8 (B x3)) := fun W hb =>
    ⟨cellAt W hb 0 x0 rfl, cellAt W hb 1 x1 rfl, cellAt W hb 2 x2 rfl, cellAt W hb 3 x3 rfl⟩
  have HCELL := hide hcell
  have HNB := hide hnb
  have h1 : (l.take n).length = n := by simp; omega
  have HLT := hide h1
  clear hr ht hs hn4 hcell cellAt hx hnb h1
  have e4 : (((n + 4 : Nat) : Int) - 4) = (n : Int) := by omega
  have hnc : n ≤ cap := by omega
  go_enter Tryd.func44, Tryd.ntmps44
  go_wp2_with fail
  go_cut [43] (fun v wc => v = .bool nb ∧ Below w.heap.size w wc)
  case first =>
    refine wp_region_all [16, 17, 18, 19, 20, 21, 22, 23, 24, 25, 26, 27, 28, 29, 30, 31, 32, 33, 34, 35, 36, 37, 38, 39, 40, 41, 42, 43] (fun d => match d with
      | 16 => .is (.slice (some ⟨b, off, none⟩) (n + 4) cap) | 17 => .is (.int .i64 n) | 18 => .is (.slice (some ⟨b, off, none⟩) n cap) | 19 => .one (.slice (some ⟨b, off, none⟩) n cap) | 20 => .is (.int .u32 (U (sum (l.take n))))
      | 21 => .is (.slice (some ⟨b, off + n, none⟩) 4 (cap - n)) | 22 => .is (.pointer (some ⟨b, off + n, none⟩)) | 23 => .is (.int .u8 (B x0)) | 24 => .is (.int .u32 (U (w8 x0)))
      | 25 => .is (.slice (some ⟨b, off + n, none⟩) 4 (cap - n)) | 26 => .is (.pointer (some ⟨b, off + n + 1, none⟩)) | 27 => .is (.int .u8 (B x1)) | 28 => .is (.int .u32 (U (w8 x1))) | 29 => .is (.int .u32 (U (w8 x1 <<< 8))) | 30 => .is (.int .u32 (U (w8 x0 ||| w8 x1 <<< 8)))
      | 31 => .is (.slice (some ⟨b, off + n, none⟩) 4 (cap - n)) | 32 => .is (.pointer (some ⟨b, off + n + 2, none⟩)) | 33 => .is (.int .u8 (B x2)) | 34 => .is (.int .u32 (U (w8 x2))) | 35 => .is (.int .u32 (U (w8 x2 <<< 16))) | 36 => .is (.int .u32 (U ((w8 x0 ||| w8 x1 <<< 8) ||| w8 x2 <<< 16)))
      | 37 => .is (.slice (some ⟨b, off + n, none⟩) 4 (cap - n)) | 38 => .is (.pointer (some ⟨b, off + n + 3, none⟩)) | 39 => .is (.int .u8 (B x3)) | 40 => .is (.int .u32 (U (w8 x3))) | 41 => .is (.int .u32 (U (w8 x3 <<< 24))) | 42 => .is (.int .u32 (U (w4 x0 x1 x2 x3))) | 43 => .is (.bool nb)
      | _ => .any) (by kernel_rfl) (by kernel_rfl) (by kernel_rfl) ?_ ?_
    · have k1 := fun W => run_cut_h W (some ⟨b, off, none⟩) (n + 4) cap n (by omega)
      simp only [StepsOk]
      refine ⟨?_, ?_, ?_, ?_, ?_, ?_, ?_, ?_, ?_, ?_, ?_, ?_, ?_, ?_, ?_, ?_, ?_, ?_, ?_, ?_, ?_, ?_, ?_, ?_, ?_, ?_, ?_, ?_, trivial⟩
      all_goals
        intro ev w1 hb hev hd
        have ev0 : ev (.tmp 0) = .slice (some ⟨b, off, none⟩) (n + 4) cap := hev _ (by simp)
        have ev4 : ev (.tmp 4) = .int .i64 n := hev _ (by simp)
        have ev5 : ev (.tmp 5) = .slice (some ⟨b, off + n, none⟩) 4 (cap - n) := hev _ (by simp)
        have evf : ∀ f, ev (.func f) = .func (.func f) #[] #[] := fun f => hev _ (by simp)
        have evc : ∀ f, ev (.const f) = f := fun f => hev _ (by simp)
        obtain ⟨c0, c1, c2, c3⟩ := HCELL.out w1 hb
        have HB := hide hb
        clear hev hb
        simp [DepsOk, Known.is, Known.one] at hd
        try simp [OpRuns, execOp, go_sem, Known.is, Known.one, Below.refl, or32, *]
      · exact below_alloc (Below.refl _ _) _
      · obtain ⟨g, g1, g2, g3⟩ := hd
        rw [g1]
        refine (of_one g n cap _ (l.take n) w1 g3 HLT.out (by omega) ((HR.out.below HB.out (Nat.le_refl _)).first n) (HT.out.below HB.out (by have := HT.out.size; omega))).mono ?_
        rintro e w3 ⟨rfl, m, rfl⟩
        exact ⟨rfl, below_drewN (Below.refl _ _) m⟩
      · exact cv8 x0
      · exact cv8 x1
      · exact shl32 _ 8
      · exact cv8 x2
      · exact shl32 _ 16
      · exact cv8 x3
      · exact shl32 _ 24
      · rfl
      · exact HNB.out
    · intro f w1 hb hf
      have hbw := hide hb
      have e43 : f 43 = .bool nb := hf 43 (by simp)
      clear hf hb
      simp only [puts]
      go_simp
      refine wpList_nil ?_
      go_wp2_with fail
      go_meet
      exact ⟨rfl, hbw.out⟩
  case rest =>
    obtain ⟨rfl, hbc⟩ := hcut
    have HBC := hide hbc
    have c1 : wc.cell? ⟨7, 0, none⟩ = some (.iface 201 (.pointer (some (p 1)))) := (HS.out.below hbc).cell 1 (by omega)
    clear hbc HCELL HNB e4
    cases nb
    · clear c1
      go_wp2_with (first
        | (at_make; refine wpList_mk rfl (.tmp 45) (.tmp 45) rfl n n _ _ rfl rfl rfl rfl (Nat.le_refl _) (by omega) ?_; intro w2 hown2 hb2 hs2)
        | (refine wpList_cp (o := ⟨some 49, _, _, _, _, _⟩) rfl (.tmp 47) (.tmp 48) rfl wc.heap.size _ l _ _ _ rfl hown2 (some ⟨b, off, none⟩) (n + 4) cap rfl HN.out (HR.out.below (HBC.out.trans (hb2.mono HBC.out.size)) (Nat.le_refl _)) ?_; intro w3 hown3 hg3 hs3))
      have e1 : l.take (List.replicate n (0 : UInt8)).length ++ (List.replicate n (0 : UInt8)).drop l.length = l.take n := by
        rw [List.length_replicate, List.drop_of_length_le (by rw [List.length_replicate, HN.out]; omega), List.append_nil]
      rw [e1] at hown3
      obtain ⟨A3, c3, hv3, hr3, _⟩ := hown3.reads
      have hb3 : Below w.heap.size w w3 := (HBC.out.trans (hb2.mono HBC.out.size)).grown hg3 (by have := HBC.out.size; omega) (by intro g hg; have e : wc.heap.size = g := Option.some.inj hg; have := HBC.out.size; omega)
      rw [HLT.out] at hv3
      have hA3 : A3 = some ⟨wc.heap.size, 0, none⟩ := by injection hv3 with h _ _; exact h.symm
      subst hA3
      go_ret2
      exact ⟨hb3, _, _, rfl, hr3⟩
    · go_wp2_with fail
      go_quiet (fail)
      go_wp2_with fail
      go_ret2
      exact ⟨below_drewN HBC.out _, rfl⟩

theorem open_short (A : Option Addr) (cap n : Nat) (w : World) (p : Nat → Addr) (hn : n < 4) (hs : Sents w p) :
    Calls Tryd.prog 44 #[.slice A n cap] w fun e w' => e = .returned (.tuple #[.slice none 0 0, errV (p 0)]) ∧ Below w.heap.size w w' := by
  have c0 : w.cell? ⟨6, 0, none⟩ = some (.iface 201 (.pointer (some (p 0)))) := hs.cell 0 (by omega)
  clear hs
  have h1 : (n : Int) - 4 < 0 := by omega
  go_enter Tryd.func44, Tryd.ntmps44
  go_wp2_with fail
  go_quiet (fail)
  go_wp2_with fail
  go_ret2
  exact ⟨rfl, below_drewN (Below.refl _ _) _⟩

/-- Of what is long enough: as its sum says. -/
theorem open_at (A : Option Addr) (cap : Nat) (l : List UInt8) (w : World) (p : Nat → Addr) (good : Bool) (hg : good = true ↔ Crc.opens l) (h4 : 4 ≤ l.length) (hl : l.length ≤ 1000000) (ha : Arg w A cap l) (ht : Tabs w) (hs : Sents w p) :
    Calls Tryd.prog 44 #[.slice A l.length cap] w (OpenPost good l (l.length - 4) p w) := by
  obtain ⟨n, hn⟩ : ∃ n, l.length = n + 4 := ⟨l.length - 4, by omega⟩
  have hd : (l.drop n).length = 4 := by simp; omega
  have four : ∀ d : List UInt8, d.length = 4 → ∃ x0 x1 x2 x3, d = [x0, x1, x2, x3] := by
    intro d h
    match d, h with
    | [a, b, c, d], _ => exact ⟨a, b, c, d, rfl⟩
  obtain ⟨x0, x1, x2, x3, hx⟩ := four _ hd
  have hw : w4 x0 x1 x2 x3 = word (l.drop n) := by
    rw [← w4_word, hx]; rfl
  have hr := ha.reads
  rcases hr with h0 | ⟨b, off, e, hb, hc⟩
  · rw [h0] at hn; simp at hn
  · have hr : Reads w (some ⟨b, off, none⟩) l := .inr ⟨b, off, rfl, hb, hc⟩
    have hle := ha.le
    subst e
    rw [hn] at hl hle ⊢
    have key := open_long b off cap n l w p hn hl hle ha.max hr ht hs x0 x1 x2 x3 hx _ rfl
    have e : (!(U (sum (l.take n)) != U (w4 x0 x1 x2 x3))) = good := by
      have ho : Crc.opens l ↔ sum (l.take n) = word (l.drop n) := by unfold Crc.opens; rw [hn, Nat.add_sub_cancel]
      rw [Bool.eq_iff_iff, hg, ho, hw]
      simp only [Bool.not_eq_true', bne_eq_false_iff_eq]
      exact ⟨U_inj, fun h => by rw [h]⟩
    rw [e] at key
    rw [Nat.add_sub_cancel]
    exact key
end Go.Proofs.YtoaioijgmbhhnaaDoor
