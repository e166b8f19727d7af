/-
  The reference's sums, bit by bit, and what stands on them: the same plain answers.
  The walk through package crc's Open: what was sealed, or why not.
  The reference's Little, Fixed, Seal and Open: the same plain answers.
  The reference's Seal and Open.
  The reference's names that may be: as a disk's.
-/
import Derived.Test.YtfjanenooembkaaDoorQ3
import Derived.Test.YtfjanenooembkaaDoorQ1
import Derived.Test.YtfjanenooembkaaDoorQ4
import Derived.LoopTactic
namespace Go.Proofs.YtfjanenooembkaaDoor
open Go.RowKit Crc

theorem xB32 (a : BitVec 32) (x : UInt8) : bits .xor .u32 (U a) (B x) = U (a ^^^ w8 x) := by
  rw [← x32]
  congr 1
theorem sts_succ (n : Nat) (c : BitVec 32) : sts (n + 1) c = st (sts n c) := by rw [sts_add]; rfl
attribute [local go_sem] BtoNat x32 n32 x8 and8_15 mod256 wrap8 xs32 Bd16toNat mul2 cv8 xB32

set_option maxHeartbeats 1000000 in
theorem refMore_at (A : Option Addr) (cap n : Nat) (l : List UInt8) (S : Int) (s : BitVec 32) (w : World) (hS : S = U s) (hn : l.length = n) (hl : n ≤ 1000000) (hr : Reads w A l) :
    Calls Tryd.prog 89 #[.int .u32 S, .slice A n cap] w fun e w' => e = .returned (.int .u32 (U (more s l))) ∧ w = w' := by
  subst hS hn
  have HR := hide hr
  clear hr
  go_enter Tryd.func89, Tryd.ntmps89
  go_wp2
  go_loop [5, 6] (fun c i => ∃ k : Nat, k ≤ l.length ∧ i = .int .i64 k ∧ c = .int .u32 (U (feed (~~~s) (l.take k)))) (fun _ i => l.length - (intOf i).toNat)
  case atStart => exact ⟨0, Nat.zero_le _, rfl, rfl⟩
  case round =>
    obtain ⟨k, hk, rfl, rfl⟩ := hrel
    by_cases hlt : k < l.length
    · have HS : Hid (feed (~~~s) (l.take (k + 1)) = sts 8 (feed (~~~s) (l.take k) ^^^ w8 (l.getD k 0))) := by
        show _ = _
        rw [take_snoc l k hlt, feed_snoc]
        unfold one w8
        simp [List.getD, hlt]
      rcases HR.out with rfl | ⟨b, off, rfl, hb, hc⟩
      · simp at hlt
      have hcell := hc k hlt
      clear hc
      generalize l.getD k 0 = x at *
      generalize feed (~~~s) (l.take k) = C at *
      go_wp2
      go_loop [5, 7] (fun c j => ∃ i : Nat, i ≤ 8 ∧ j = .int .i64 i ∧ c = .int .u32 (U (sts i (C ^^^ w8 x)))) (fun _ j => 8 - (intOf j).toNat)
      case atStart => exact ⟨0, Nat.zero_le _, rfl, rfl⟩
      case round =>
        obtain ⟨i, hi, rfl, rfl⟩ := hrel
        by_cases hi8 : i < 8
        · have HT := hide (sts_succ i (C ^^^ w8 x))
          generalize sts i (C ^^^ w8 x) = y at *
          rcases Bool.eq_false_or_eq_true (y.getLsbD 0) with hy | hy
          · have t2 := and_low y
            rw [hy, if_pos rfl] at t2
            have t3 := st_one y hy
            clear hy
            go_wp2
            go_round
            case rel => exact ⟨i + 1, by omega, by go_num, by rw [HT.out]⟩
            case measure => simp [intOf]; omega
          · have t2 := and_low y
            rw [hy, if_neg (by decide)] at t2
            have t3 := st_nil' y hy
            have T3 := hide t3
            clear hy t3
            go_wp2
            go_round
            case rel => exact ⟨i + 1, by omega, by go_num, by rw [HT.out, T3.out]⟩
            case measure => simp [intOf]; omega
        · obtain rfl : i = 8 := by omega
          rw [← HS.out]
          go_wp2
          go_round
          case rel => exact ⟨k + 1, by omega, by go_num, rfl⟩
          case measure => simp [intOf]; omega
    · have : k = l.length := by omega
      subst this
      go_wp2
      go_ret
      exact ⟨by first | rfl | (rw [List.take_length]; rfl), rfl⟩

theorem refSum_any (A : Option Addr) (cap n : Nat) (l : List UInt8) (w : World) (hn : l.length = n) (hl : n ≤ 1000000) (hr : Reads w A l) :
    Calls Tryd.prog 58 #[.slice A n cap] w fun e w' => e = .returned (.int .u32 (U (sum l))) ∧ w = w' := by
  have HM := hide (refMore_at A cap n l 0 0#32 w U_zero.symm hn hl hr)
  rw [more_zero] at HM
  clear hr hn
  go_enter Tryd.func58, Tryd.ntmps58
  go_wp2_with fail
  refine HM.out.mono ?_
  rintro e w' ⟨rfl, rfl⟩
  go_wp2_with fail
  go_ret
  exact ⟨rfl, rfl⟩

end Go.Proofs.YtfjanenooembkaaDoor

namespace Go.Proofs.YtfjanenooembkaaDoor
open Go.RowKit Crc
attribute [local go_sem] BtoNat x32 n32 x8 and8_15 mod256 wrap8 xs32 Bd16toNat mul2

def w4 (a b c d : UInt8) : BitVec 32 := ((w8 a ||| w8 b <<< 8) ||| w8 c <<< 16) ||| w8 d <<< 24
theorem or32 (a b : BitVec 32) : bits .or .u32 (U a) (U b) = U (a ||| b) := by
  unfold U
  rw [u32_or_nat _ _ a.isLt b.isLt]; simp
theorem shl32 (c : BitVec 32) (k : Nat) : IntKind.u32.wrap (U c * (2 : Int) ^ k) = U (c <<< k) := by
  unfold U
  rw [IntKind.wrap_u32, BitVec.toNat_shiftLeft, Nat.shiftLeft_eq]
  simp
theorem w4_word (l : List UInt8) : w4 (l.getD 0 0) (l.getD 1 0) (l.getD 2 0) (l.getD 3 0) = word l := by
  unfold w4 word w8
  generalize l.getD 0 0 = a
  generalize l.getD 1 0 = b
  generalize l.getD 2 0 = c
  generalize l.getD 3 0 = d
  apply BitVec.eq_of_getLsbD_eq
  intro i hi
  simp only [BitVec.getLsbD_or, BitVec.getLsbD_xor, BitVec.getLsbD_shiftLeft, BitVec.getLsbD_setWidth, hi]
  by_cases h1 : i < 8
  · simp [h1, show i < 16 by omega, show i < 24 by omega]
  · by_cases h2 : i < 16
    · simp [h1, h2, show i < 24 by omega, BitVec.getLsbD_of_ge a.toBitVec i (by omega)]
    · by_cases h3 : i < 24
      · simp [h1, h2, h3, BitVec.getLsbD_of_ge a.toBitVec i (by omega), BitVec.getLsbD_of_ge b.toBitVec (i - 8) (by omega)]
      · simp [h1, h2, h3, BitVec.getLsbD_of_ge a.toBitVec i (by omega), BitVec.getLsbD_of_ge b.toBitVec (i - 8) (by omega), BitVec.getLsbD_of_ge c.toBitVec (i - 16) (by omega)]

/-- What Open answers. -/
def OpenPost (good : Bool) (l : List UInt8) (n : Nat) (p : Nat → Addr) (w : World) (e : Ending) (w' : World) : Prop :=
  Below w.heap.size w w' ∧ if good then ∃ A c, e = .returned (.tuple #[.slice A n c, .nilIface]) ∧ Reads w' A (l.take n) else e = .returned (.tuple #[.slice none 0 0, errV (p 1)])

set_option maxRecDepth 100000 in
set_option maxHeartbeats 1000000 in
theorem open_long (b off cap n : Nat) (l : List UInt8) (w : World) (p : Nat → Addr) (hn4 : l.length = n + 4) (hl : n + 4 ≤ 1000000) (hc : n + 4 ≤ cap) (_hc2 : cap ≤ 9223372036854775807) (hr : Reads w (some ⟨b, off, none⟩) l) (ht : Tabs w) (hs : Sents w p)
    (x0 x1 x2 x3 : UInt8) (hx : l.drop n = [x0, x1, x2, x3]) (nb : Bool) (hnb : (U (sum (l.take n)) != U (w4 x0 x1 x2 x3)) = nb) :
    Calls Tryd.prog 45 #[.slice (some ⟨b, off, none⟩) (n + 4) cap] w (OpenPost (!nb) l n p w) := by
  have HR := hide hr
  have HT := hide ht
  have HS := hide hs
  have HN := hide hn4
  have cellAt : ∀ (W : World), Below w.heap.size w W → ∀ k x, (l.drop n)[k]? = some x → W.cell? ⟨b, off + n + k, none⟩ = some (.int .u8 (B x)) := fun W hb k x hk => by
    rw [Nat.add_assoc]
    have hk2 : l[n + k]? = some x := by rw [List.getElem?_drop] at hk; exact hk
    have hlt : n + k < l.length := (List.getElem?_eq_some_iff.1 hk2).1
    rw [reads_cell (HR.out.below hb (Nat.le_refl _)) (n + k) hlt]
    simp [List.getD, hk2]
  rw [hx] at cellAt
  have hcell : ∀ (W : World), Below w.heap.size w W → W.cell? ⟨b, off + n, none⟩ = some (.int .u8 (B x0)) ∧ W.cell? ⟨b, off + n + 1, none⟩ = some (.int .u8 (B x1)) ∧ W.cell? ⟨b, off + n + 2, none⟩ = some (.int .u8 (B x2)) ∧ W.cell? ⟨b, off + n + 3, none⟩ = some (.int .u8 (B x3)) := fun W hb =>
    ⟨cellAt W hb 0 x0 rfl, cellAt W hb 1 x1 rfl, cellAt W hb 2 x2 rfl, cellAt W hb 3 x3 rfl⟩
  have HCELL := hide hcell
  have HNB := hide hnb
  have h1 : (l.take n).length = n := by simp; omega
  have HLT := hide h1
  clear hr ht hs hn4 hcell cellAt hx hnb h1
  have e4 : (((n + 4 : Nat) : Int) - 4) = (n : Int) := by omega
  have hnc : n ≤ cap := by omega
  go_enter Tryd.func45, Tryd.ntmps45
  go_wp2_with fail
  go_cut [43] (fun v wc => v = .bool nb ∧ Below w.heap.size w wc)
  case first =>
    refine wp_region_all [16, 17, 18, 19, 20, 21, 22, 23, 24, 25, 26, 27, 28, 29, 30, 31, 32, 33, 34, 35, 36, 37, 38, 39, 40, 41, 42, 43] (fun d => match d with
      | 16 => .is (.slice (some ⟨b, off, none⟩) (n + 4) cap) | 17 => .is (.int .i64 n) | 18 => .is (.slice (some ⟨b, off, none⟩) n cap) | 19 => .one (.slice (some ⟨b, off, none⟩) n cap) | 20 => .is (.int .u32 (U (sum (l.take n))))
      | 21 => .is (.slice (some ⟨b, off + n, none⟩) 4 (cap - n)) | 22 => .is (.pointer (some ⟨b, off + n, none⟩)) | 23 => .is (.int .u8 (B x0)) | 24 => .is (.int .u32 (U (w8 x0)))
      | 25 => .is (.slice (some ⟨b, off + n, none⟩) 4 (cap - n)) | 26 => .is (.pointer (some ⟨b, off + n + 1, none⟩)) | 27 => .is (.int .u8 (B x1)) | 28 => .is (.int .u32 (U (w8 x1))) | 29 => .is (.int .u32 (U (w8 x1 <<< 8))) | 30 => .is (.int .u32 (U (w8 x0 ||| w8 x1 <<< 8)))
      | 31 => .is (.slice (some ⟨b, off + n, none⟩) 4 (cap - n)) | 32 => .is (.pointer (some ⟨b, off + n + 2, none⟩)) | 33 => .is (.int .u8 (B x2)) | 34 => .is (.int .u32 (U (w8 x2))) | 35 => .is (.int .u32 (U (w8 x2 <<< 16))) | 36 => .is (.int .u32 (U ((w8 x0 ||| w8 x1 <<< 8) ||| w8 x2 <<< 16)))
      | 37 => .is (.slice (some ⟨b, off + n, none⟩) 4 (cap - n)) | 38 => .is (.pointer (some ⟨b, off + n + 3, none⟩)) | 39 => .is (.int .u8 (B x3)) | 40 => .is (.int .u32 (U (w8 x3))) | 41 => .is (.int .u32 (U (w8 x3 <<< 24))) | 42 => .is (.int .u32 (U (w4 x0 x1 x2 x3))) | 43 => .is (.bool nb)
      | _ => .any) (by kernel_rfl) (by kernel_rfl) (by kernel_rfl) ?_ ?_
    · have k1 := fun W => run_cut_h W (some ⟨b, off, none⟩) (n + 4) cap n (by omega)
      simp only [StepsOk]
      refine ⟨?_, ?_, ?_, ?_, ?_, ?_, ?_, ?_, ?_, ?_, ?_, ?_, ?_, ?_, ?_, ?_, ?_, ?_, ?_, ?_, ?_, ?_, ?_, ?_, ?_, ?_, ?_, ?_, trivial⟩
      all_goals
        intro ev w1 hb hev hd
        have ev0 : ev (.tmp 0) = .slice (some ⟨b, off, none⟩) (n + 4) cap := hev _ (by simp)
        have ev4 : ev (.tmp 4) = .int .i64 n := hev _ (by simp)
        have ev5 : ev (.tmp 5) = .slice (some ⟨b, off + n, none⟩) 4 (cap - n) := hev _ (by simp)
        have evf : ∀ f, ev (.func f) = .func (.func f) #[] #[] := fun f => hev _ (by simp)
        have evc : ∀ f, ev (.const f) = f := fun f => hev _ (by simp)
        obtain ⟨c0, c1, c2, c3⟩ := HCELL.out w1 hb
        have HB := hide hb
        clear hev hb
        simp [DepsOk, Known.is, Known.one] at hd
        try simp [OpRuns, execOp, go_sem, Known.is, Known.one, Below.refl, or32, *]
      · exact below_alloc (Below.refl _ _) _
      · obtain ⟨g, g1, g2, g3⟩ := hd
        rw [g1]
        refine (of_one g n cap _ (l.take n) w1 g3 HLT.out (by omega) ((HR.out.below HB.out (Nat.le_refl _)).first n) (HT.out.below HB.out (by have := HT.out.size; omega))).mono ?_
        rintro e w3 ⟨rfl, m, rfl⟩
        exact ⟨rfl, below_drewN (Below.refl _ _) m⟩
      · exact cv8 x0
      · exact cv8 x1
      · exact shl32 _ 8
      · exact cv8 x2
      · exact shl32 _ 16
      · exact cv8 x3
      · exact shl32 _ 24
      · rfl
      · exact HNB.out
    · intro f w1 hb hf
      have hbw := hide hb
      have e43 : f 43 = .bool nb := hf 43 (by simp)
      clear hf hb
      simp only [puts]
      go_simp
      refine wpList_nil ?_
      go_wp2_with fail
      go_meet
      exact ⟨rfl, hbw.out⟩
  case rest =>
    obtain ⟨rfl, hbc⟩ := hcut
    have HBC := hide hbc
    have c1 : wc.cell? ⟨6, 0, none⟩ = some (.iface 183 (.pointer (some (p 1)))) := (HS.out.below hbc).cell 1 (by omega)
    clear hbc HCELL HNB e4
    cases nb
    · clear c1
      go_wp2_with (first
        | (at_make; refine wpList_mk rfl (.tmp 45) (.tmp 45) rfl n n _ _ rfl rfl rfl rfl (Nat.le_refl _) (by omega) ?_; intro w2 hown2 hb2 hs2)
        | (refine wpList_cp (o := ⟨some 49, _, _, _, _, _⟩) rfl (.tmp 47) (.tmp 48) rfl wc.heap.size _ l _ _ _ rfl hown2 (some ⟨b, off, none⟩) (n + 4) cap rfl HN.out (HR.out.below (HBC.out.trans (hb2.mono HBC.out.size)) (Nat.le_refl _)) ?_; intro w3 hown3 hg3 hs3))
      have e1 : l.take (List.replicate n (0 : UInt8)).length ++ (List.replicate n (0 : UInt8)).drop l.length = l.take n := by
        rw [List.length_replicate, List.drop_of_length_le (by rw [List.length_replicate, HN.out]; omega), List.append_nil]
      rw [e1] at hown3
      obtain ⟨A3, c3, hv3, hr3, _⟩ := hown3.reads
      have hb3 : Below w.heap.size w w3 := (HBC.out.trans (hb2.mono HBC.out.size)).grown hg3 (by have := HBC.out.size; omega) (by intro g hg; have e : wc.heap.size = g := Option.some.inj hg; have := HBC.out.size; omega)
      rw [HLT.out] at hv3
      have hA3 : A3 = some ⟨wc.heap.size, 0, none⟩ := by injection hv3 with h _ _; exact h.symm
      subst hA3
      go_ret2
      exact ⟨hb3, _, _, rfl, hr3⟩
    · go_wp2_with fail
      go_quiet (fail)
      go_wp2_with fail
      go_ret2
      exact ⟨below_drewN HBC.out _, rfl⟩

theorem open_short (A : Option Addr) (cap n : Nat) (w : World) (p : Nat → Addr) (hn : n < 4) (hs : Sents w p) :
    Calls Tryd.prog 45 #[.slice A n cap] w fun e w' => e = .returned (.tuple #[.slice none 0 0, errV (p 0)]) ∧ Below w.heap.size w w' := by
  have c0 : w.cell? ⟨5, 0, none⟩ = some (.iface 183 (.pointer (some (p 0)))) := hs.cell 0 (by omega)
  clear hs
  have h1 : (n : Int) - 4 < 0 := by omega
  go_enter Tryd.func45, Tryd.ntmps45
  go_wp2_with fail
  go_quiet (fail)
  go_wp2_with fail
  go_ret2
  exact ⟨rfl, below_drewN (Below.refl _ _) _⟩

/-- Of what is long enough: as its sum says. -/
theorem open_at (A : Option Addr) (cap : Nat) (l : List UInt8) (w : World) (p : Nat → Addr) (good : Bool) (hg : good = true ↔ Crc.opens l) (h4 : 4 ≤ l.length) (hl : l.length ≤ 1000000) (ha : Arg w A cap l) (ht : Tabs w) (hs : Sents w p) :
    Calls Tryd.prog 45 #[.slice A l.length cap] w (OpenPost good l (l.length - 4) p w) := by
  obtain ⟨n, hn⟩ : ∃ n, l.length = n + 4 := ⟨l.length - 4, by omega⟩
  have hd : (l.drop n).length = 4 := by simp; omega
  have four : ∀ d : List UInt8, d.length = 4 → ∃ x0 x1 x2 x3, d = [x0, x1, x2, x3] := by
    intro d h
    match d, h with
    | [a, b, c, d], _ => exact ⟨a, b, c, d, rfl⟩
  obtain ⟨x0, x1, x2, x3, hx⟩ := four _ hd
  have hw : w4 x0 x1 x2 x3 = word (l.drop n) := by
    rw [← w4_word, hx]; rfl
  have hr := ha.reads
  rcases hr with h0 | ⟨b, off, e, hb, hc⟩
  · rw [h0] at hn; simp at hn
  · have hr : Reads w (some ⟨b, off, none⟩) l := .inr ⟨b, off, rfl, hb, hc⟩
    have hle := ha.le
    subst e
    rw [hn] at hl hle ⊢
    have key := open_long b off cap n l w p hn hl hle ha.max hr ht hs x0 x1 x2 x3 hx _ rfl
    have e : (!(U (sum (l.take n)) != U (w4 x0 x1 x2 x3))) = good := by
      have ho : Crc.opens l ↔ sum (l.take n) = word (l.drop n) := by unfold Crc.opens; rw [hn, Nat.add_sub_cancel]
      rw [Bool.eq_iff_iff, hg, ho, hw]
      simp only [Bool.not_eq_true', bne_eq_false_iff_eq]
      exact ⟨U_inj, fun h => by rw [h]⟩
    rw [e] at key
    rw [Nat.add_sub_cancel]
    exact key
end Go.Proofs.YtfjanenooembkaaDoor

namespace Go.Proofs.YtfjanenooembkaaDoor
open Go.RowKit Crc

theorem lb0 (c : BitVec 32) : U c % (256 : Int) = B (u8 c) := mod256 c
theorem lb1 (c : BitVec 32) : U c / (256 : Int) % (256 : Int) = B (u8 (c >>> 8)) := by rw [div256, mod256]
theorem lb2 (c : BitVec 32) : U c / (65536 : Int) % (256 : Int) = B (u8 (c >>> 16)) := by rw [div16b, mod256]
theorem lb3 (c : BitVec 32) : U c / (16777216 : Int) % (256 : Int) = B (u8 (c >>> 24)) := by rw [div24b, mod256]
theorem or64p (p : BitVec 32) (x : UInt8) (k : Nat) (hk : k ≤ 24) : bits .or .u64 (U p) (B x * (2 : Int) ^ k) = U (p ||| w8 x <<< k) := by
  have h1 : (B x * (2 : Int) ^ k) = (((w8 x <<< k).toNat : Nat) : Int) := by
    have h2 : (w8 x <<< k).toNat = x.toNat * 2 ^ k := by
      have hx := x.toNat_lt
      have : x.toNat * 2 ^ k < 4294967296 := by
        have h3 : 2 ^ k ≤ 2 ^ 24 := Nat.pow_le_pow_right (by omega) hk
        calc x.toNat * 2 ^ k ≤ 255 * 2 ^ 24 := Nat.mul_le_mul (by omega) h3
          _ < 4294967296 := by omega
      rw [BitVec.toNat_shiftLeft, Nat.shiftLeft_eq]
      have hw : (w8 x).toNat = x.toNat := by unfold w8; simp
      rw [hw, Nat.mod_eq_of_lt this]
    rw [h2]; unfold B; simp
  rw [h1]
  unfold U
  rw [u64_or_nat _ _ (by have := p.isLt; omega) (by have := (w8 x <<< k).isLt; omega)]
  simp
theorem or64_0 (p : BitVec 32) (x : UInt8) : bits .or .u64 (U p) (B x) = U (p ||| w8 x) := by
  have := or64p p x 0 (by omega)
  simpa using this
theorem or64_1 (p : BitVec 32) (x : UInt8) : bits .or .u64 (U p) (B x * (256 : Int)) = U (p ||| w8 x <<< 8) := or64p p x 8 (by omega)
theorem or64_2 (p : BitVec 32) (x : UInt8) : bits .or .u64 (U p) (B x * (65536 : Int)) = U (p ||| w8 x <<< 16) := or64p p x 16 (by omega)
theorem or64_3 (p : BitVec 32) (x : UInt8) : bits .or .u64 (U p) (B x * (16777216 : Int)) = U (p ||| w8 x <<< 24) := or64p p x 24 (by omega)
attribute [local go_sem] lb0 lb1 lb2 lb3 or64_0 or64_1 or64_2 or64_3

set_option maxHeartbeats 1000000 in
theorem little_any (c : BitVec 32) (w : World) :
    Calls Tryd.prog 57 #[.int .u64 (U c), .int .i64 4] w fun e w' => ∃ v, e = .returned v ∧ Own w' w.heap.size v (little c) ∧ Below w.heap.size w w' := by
  go_enter Tryd.func57, Tryd.ntmps57
  go_wp2
  go_loopw [5, 6] (fun v i wr => ∃ k : Nat, k ≤ 4 ∧ i = .int .i64 k ∧ Own wr w.heap.size v ((little c).take k) ∧ Below w.heap.size w wr) (fun _ i _ => 4 - (intOf i).toNat)
  case atStart => exact ⟨0, Nat.zero_le _, rfl, Own.nil _ _, Below.refl _ _⟩
  case round =>
    obtain ⟨k, hk, rfl, ho, hb⟩ := hrel
    have HOK := hide ho
    have HBK := hide hb
    have HBS : Hid (w.heap.size ≤ wr.heap.size) := hb.size
    clear ho hb
    match k, hk with
    | 0, _ =>
      go_wp2_with (at_builtin; refine wpList_app (w := wr.alloc _) rfl (.tmp 12) (.tmp 19) rfl w.heap.size u5 ((little c).take 0) [Crc.u8 c] rfl (HOK.out.alloc _) _ 1 1 rfl rfl (Reads.made _ _ _ _ _ _ (by simp) rfl) (by simp [little]) (by simp; exact Nat.le_succ_of_le HBS.out) ?_; intro v5 w5 hown5 hg5 hv5)
      have hbn : Below w.heap.size w w5 := (balloc HBK.out _).grown hg5 (by simp; exact Nat.le_succ_of_le HBS.out) (fun g hg => (HOK.out.lt g hg).1)
      have HOW := hide hown5
      have HBN := hide hbn
      clear hown5 hg5 hv5 hbn
      go_wp2_with fail
      go_roundw
      case rel => exact ⟨1, by omega, rfl, HOW.out, HBN.out⟩
      case measure => simp [intOf]
    | 1, _ =>
      go_wp2_with (at_builtin; refine wpList_app (w := wr.alloc _) rfl (.tmp 12) (.tmp 19) rfl w.heap.size u5 ((little c).take 1) [Crc.u8 (c >>> 8)] rfl (HOK.out.alloc _) _ 1 1 rfl rfl (Reads.made _ _ _ _ _ _ (by simp) rfl) (by simp [little]) (by simp; exact Nat.le_succ_of_le HBS.out) ?_; intro v5 w5 hown5 hg5 hv5)
      have hbn : Below w.heap.size w w5 := (balloc HBK.out _).grown hg5 (by simp; exact Nat.le_succ_of_le HBS.out) (fun g hg => (HOK.out.lt g hg).1)
      have HOW := hide hown5
      have HBN := hide hbn
      clear hown5 hg5 hv5 hbn
      go_wp2_with fail
      go_roundw
      case rel => exact ⟨2, by omega, rfl, HOW.out, HBN.out⟩
      case measure => simp [intOf]
    | 2, _ =>
      go_wp2_with (at_builtin; refine wpList_app (w := wr.alloc _) rfl (.tmp 12) (.tmp 19) rfl w.heap.size u5 ((little c).take 2) [Crc.u8 (c >>> 16)] rfl (HOK.out.alloc _) _ 1 1 rfl rfl (Reads.made _ _ _ _ _ _ (by simp) rfl) (by simp [little]) (by simp; exact Nat.le_succ_of_le HBS.out) ?_; intro v5 w5 hown5 hg5 hv5)
      have hbn : Below w.heap.size w w5 := (balloc HBK.out _).grown hg5 (by simp; exact Nat.le_succ_of_le HBS.out) (fun g hg => (HOK.out.lt g hg).1)
      have HOW := hide hown5
      have HBN := hide hbn
      clear hown5 hg5 hv5 hbn
      go_wp2_with fail
      go_roundw
      case rel => exact ⟨3, by omega, rfl, HOW.out, HBN.out⟩
      case measure => simp [intOf]
    | 3, _ =>
      go_wp2_with (at_builtin; refine wpList_app (w := wr.alloc _) rfl (.tmp 12) (.tmp 19) rfl w.heap.size u5 ((little c).take 3) [Crc.u8 (c >>> 24)] rfl (HOK.out.alloc _) _ 1 1 rfl rfl (Reads.made _ _ _ _ _ _ (by simp) rfl) (by simp [little]) (by simp; exact Nat.le_succ_of_le HBS.out) ?_; intro v5 w5 hown5 hg5 hv5)
      have hbn : Below w.heap.size w w5 := (balloc HBK.out _).grown hg5 (by simp; exact Nat.le_succ_of_le HBS.out) (fun g hg => (HOK.out.lt g hg).1)
      have HOW := hide hown5
      have HBN := hide hbn
      clear hown5 hg5 hv5 hbn
      go_wp2_with fail
      go_roundw
      case rel => exact ⟨4, by omega, rfl, HOW.out, HBN.out⟩
      case measure => simp [intOf]
    | 4, _ =>
      go_wp2_with fail
      go_ret
      exact ⟨_, rfl, HOK.out, HBK.out⟩
    | k + 5, h => omega

/-- So far read. -/
def pre (a b c d : UInt8) : Nat → BitVec 32
  | 0 => 0#32
  | 1 => w8 a
  | 2 => w8 a ||| w8 b <<< 8
  | 3 => (w8 a ||| w8 b <<< 8) ||| w8 c <<< 16
  | _ => w4 a b c d
theorem zero_or (x : BitVec 32) : 0#32 ||| x = x := by simp

end Go.Proofs.YtfjanenooembkaaDoor

namespace Go.Proofs.YtfjanenooembkaaDoor
open Go.RowKit Crc

theorem wrap64U (c : BitVec 32) : IntKind.u64.wrap (U c) = U c := by
  have h := U_lo c
  have h2 := U_hi c
  rw [IntKind.wrap_u64]; omega
theorem wrap32U (c : BitVec 32) : IntKind.u32.wrap (U c) = U c := by
  have h := U_lo c
  have h2 := U_hi c
  rw [IntKind.wrap_u32]; omega
theorem mod64U (c : BitVec 32) : U c % (18446744073709551616 : Int) = U c := by
  have h := U_lo c
  have h2 := U_hi c
  omega
attribute [local go_sem] wrap64U wrap32U mod64U

set_option maxHeartbeats 400000 in
theorem refSeal_any (A : Option Addr) (cap n : Nat) (l : List UInt8) (w : World) (hn : l.length = n) (hl : n ≤ 1000000) (hr : Reads w A l) :
    Calls Tryd.prog 23 #[.slice A n cap] w fun e w' => ∃ v, e = .returned v ∧ Own w' w.heap.size v (l ++ little (sum l)) ∧ Below w.heap.size w w' := by
  have HR := hide hr
  have HN := hide hn
  clear hr hn
  go_enter Tryd.func23, Tryd.ntmps23
  go_wp2_with fail
  refine (bytes_any A cap n l w HN.out hl HR.out).mono ?_
  rintro e w1 ⟨v1, rfl, ho1, hb1⟩
  have HO1 := hide ho1
  have HB1 := hide hb1
  clear ho1 hb1
  go_wp2_with fail
  refine (refSum_any A cap n l w1 HN.out hl (HR.out.below HB1.out (Nat.le_refl _))).mono ?_
  rintro e w1' ⟨rfl, rfl⟩
  have HL := hide (little_len (sum l))
  obtain ⟨S, hS⟩ : ∃ S, S = sum l := ⟨_, rfl⟩
  rw [← hS]
  have HS := hide hS
  clear hS
  have d1 := U_lo S
  have d2 := U_hi S
  go_wp2_with fail
  refine (little_any S w1).mono ?_
  rintro e w2 ⟨v2, rfl, ho2, hb2⟩
  obtain ⟨A2, c2, hv2, hr2, _⟩ := ho2.reads
  rw [little_len] at hv2
  subst hv2
  have HO2 := hide (HO1.out.below hb2 (Nat.le_refl _))
  have HB2 := hide (HB1.out.trans (hb2.mono HB1.out.size))
  have HR2 := hide hr2
  have HL2 := hide (little_len S)
  have HSZ := hide HB2.out.size
  clear ho2 hb2 hr2
  go_wp2_with (at_builtin; refine wpList_app rfl (.tmp 4) (.tmp 8) rfl w.heap.size v1 l (little S) rfl HO2.out A2 4 c2 rfl HL2.out HR2.out (by rw [HN.out]; omega) HSZ.out ?_; intro v5 w5 hown5 hg5 hv5)
  have hbn : Below w.heap.size w w5 := HB2.out.grown hg5 HSZ.out (fun g hg => (HO2.out.lt g hg).1)
  have HOW := hide hown5
  have HBN := hide hbn
  clear hown5 hg5 hv5 hbn
  go_wp2_with fail
  go_ret
  exact ⟨v5, rfl, by rw [← HS.out]; exact HOW.out, HBN.out⟩

/-- What the reference's Open answers. -/
def RefOpenPost (good : Bool) (A : Option Addr) (cap n : Nat) (w : World) (e : Ending) (w' : World) : Prop :=
  Below w.heap.size w w' ∧ if good then e = .returned (.tuple #[.slice A n cap, .int .i64 0]) else e = .returned (.tuple #[.slice none 0 0, .int .i64 102])

end Go.Proofs.YtfjanenooembkaaDoor

namespace Go.Proofs.YtfjanenooembkaaDoor
open Go.RowKit Go.Maps

theorem take_snocP (s : List UInt8) (k : Nat) (h : k < s.length) : s.take (k + 1) = s.take k ++ [s.getD k 0] := by rw [List.take_succ_eq_append_getElem h]; simp [List.getD, h]
theorem getD_memP (s : List UInt8) (k : Nat) (h : k < s.length) : s.getD k 0 ∈ s := by simp only [List.getD, List.getElem?_eq_getElem h, Option.getD_some]; exact List.getElem_mem h
set_option maxRecDepth 100000 in
set_option maxHeartbeats 1000000 in
theorem ptValid1_any (s : List UInt8) (w : World) :
    Calls Tryd.prog 19 #[encStr s] w fun e w' => e = .returned (.bool (Dk.valid s)) ∧ w' = w := by
  obtain ⟨r, hr⟩ : ∃ r, r = Dk.valid s := ⟨_, rfl⟩
  rw [← hr]
  have HR := hide hr
  clear hr
  obtain ⟨L, hL⟩ : ∃ L, L = s.length := ⟨_, rfl⟩
  have hsz : (⟨s.toArray⟩ : ByteArray).size = L := by rw [hL]; show s.toArray.size = _; simp
  have hsl : s.length = L := hL.symm
  have HL := hide hL
  clear hL
  by_cases h1 : 1 ≤ L
  · have d1 : decide ((L : Int) < 1) = false := by simp; omega
    by_cases h2 : L ≤ 64
    · have d2 : decide ((64 : Int) < (L : Int)) = false := by simp; omega
      have hne : s ≠ [] := fun e => by rw [e] at hsl; simp at hsl; omega
      have HNE := hide hne
      clear hsl hne
      go_enter Tryd.func19, Tryd.ntmps19
      go_wp2_with fail
      go_loop [3] (fun i => ∃ k : Nat, k ≤ L ∧ i = .int .i64 k ∧ (s.take k).all Dk.okByte = true) (fun i => L - (intOf i).toNat)
      case atStart => exact ⟨0, Nat.zero_le _, rfl, by simp⟩
      case round =>
        obtain ⟨k, hk, rfl, hd⟩ := hrel
        by_cases hlt : k < L
        · have hlt' : k < s.length := by rw [← HL.out]; exact hlt
          have hat := str_at s k hlt' w
          have HT := hide (take_snocP s k hlt')
          have HM := hide (getD_memP s k hlt')
          generalize s.getD k 0 = c at *
          have hx0 : 0 ≤ B c ∧ B c ≤ 255 := by have := c.toNat_lt; unfold B; omega
          have HB := hide (okByte_iff c)
          generalize B c = x at *
          have HF : Hid (¬ ((97 ≤ x ∧ x ≤ 122) ∨ (48 ≤ x ∧ x ≤ 57) ∨ x = 46 ∨ x = 45 ∨ x = 95) → r = false) := hide fun h => by
            rw [HR.out]
            unfold Dk.valid
            have h3 : s.all Dk.okByte = false := by
              rw [List.all_eq_false]
              exact ⟨c, HM.out, fun e => h (HB.out.1 e)⟩
            rw [h3]
            simp
          have HS : Hid ((97 ≤ x ∧ x ≤ 122) ∨ (48 ≤ x ∧ x ≤ 57) ∨ x = 46 ∨ x = 45 ∨ x = 95 → (s.take (k + 1)).all Dk.okByte = true) := hide fun h => by
            rw [HT.out, List.all_append, hd]
            simpa using HB.out.2 h
          clear hd HT HM HB
          obtain ⟨hx0, hx1⟩ := hx0
          by_cases b1 : 97 ≤ x ∧ x ≤ 122
          · obtain ⟨a1, a2⟩ := b1
            have E := hide (HS.out (.inl ⟨a1, a2⟩))
            go_wp2_with fail
            exact ⟨⟨k + 1, by omega, by congr 1, E.out⟩, by simp [intOf]; omega⟩
          · by_cases b2 : 48 ≤ x ∧ x ≤ 57
            · obtain ⟨a1, a2⟩ := b2
              have a3 : x < 97 := by omega
              have E := hide (HS.out (.inr (.inl ⟨a1, a2⟩)))
              clear b1
              go_wp2_with fail
              exact ⟨⟨k + 1, by omega, by congr 1, E.out⟩, by simp [intOf]; omega⟩
            · by_cases b3 : x = 46
              · have E := hide (HS.out (.inr (.inr (.inl b3))))
                subst b3
                clear b1 b2
                go_wp2_with fail
                exact ⟨⟨k + 1, by omega, by congr 1, E.out⟩, by simp [intOf]; omega⟩
              · by_cases b4 : x = 45
                · have E := hide (HS.out (.inr (.inr (.inr (.inl b4)))))
                  subst b4
                  clear b1 b2 b3
                  go_wp2_with fail
                  exact ⟨⟨k + 1, by omega, by congr 1, E.out⟩, by simp [intOf]; omega⟩
                · by_cases b5 : x = 95
                  · have E := hide (HS.out (.inr (.inr (.inr (.inr b5)))))
                    subst b5
                    clear b1 b2 b3 b4
                    go_wp2_with fail
                    exact ⟨⟨k + 1, by omega, by congr 1, E.out⟩, by simp [intOf]; omega⟩
                  · have E := hide (HF.out (by omega))
                    have e3 : (x != 46) = true := by simp; omega
                    have e4 : (x != 45) = true := by simp; omega
                    have e5 : (x != 95) = true := by simp; omega
                    by_cases c1 : x < 48
                    · have c2 : x < 97 := by omega
                      clear b1 b2 b3 b4 b5
                      go_wp2_with fail
                      go_ret
                      exact ⟨by rw [E.out]; rfl, rfl⟩
                    · have c1' : 48 ≤ x := by omega
                      have c2 : 57 < x := by omega
                      by_cases c3 : x < 97
                      · clear b1 b2 b3 b4 b5
                        go_wp2_with fail
                        go_ret
                        exact ⟨by rw [E.out]; rfl, rfl⟩
                      · have c4 : 122 < x := by omega
                        clear b1 b2 b3 b4 b5
                        go_wp2_with fail
                        go_ret
                        exact ⟨by rw [E.out]; rfl, rfl⟩
        · obtain rfl : k = L := by omega
          have ht : s.take k = s := List.take_of_length_le (by rw [← HL.out]; exact Nat.le_refl _)
          have HF : Hid (r = true) := hide (by
            rw [HR.out]
            unfold Dk.valid
            rw [ht] at hd
            rw [hd, ← HL.out]
            simp [h1, h2])
          clear hd ht
          go_wp2_with fail
          go_ret
          exact ⟨by rw [HF.out]; rfl, rfl⟩
    · have d2 : decide ((64 : Int) < (L : Int)) = true := by simp; omega
      have HF : r = false := by rw [HR.out]; unfold Dk.valid; rw [hsl]; simp [h2]
      rw [HF]
      clear hsl HF
      go_enter Tryd.func19, Tryd.ntmps19
      go_wp2_with fail
      go_ret
      exact ⟨rfl, rfl⟩
  · have d1 : decide ((L : Int) < 1) = true := by simp; omega
    have hnil : s = [] := List.length_eq_zero_iff.1 (by omega)
    have HF : r = false := by rw [HR.out, hnil]; rfl
    rw [HF]
    clear hsl HF hnil
    go_enter Tryd.func19, Tryd.ntmps19
    go_wp2_with fail
    go_ret
    exact ⟨rfl, rfl⟩
end Go.Proofs.YtfjanenooembkaaDoor
