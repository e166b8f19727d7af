/-
  The reference's Little, Fixed, Seal and Open: the same plain answers.
  The reference's Seal and Open.
-/
import Derived.Test.YtoaioijgmbhhnaaDoorRef
import Derived.Test.YtoaioijgmbhhnaaDoorOpen
namespace Go.Proofs.YtoaioijgmbhhnaaDoor
open Go.RowKit Crc

theorem lb0 (c : BitVec 32) : U c % (256 : Int) = B (u8 c) := mod256 c
theorem lb1 (c : BitVec 32) : U c / (256 : Int) % (256 : Int) = B (u8 (c >>> 8)) := by rw [div256, mod256]
theorem lb2 (c : BitVec 32) : U c / (65536 : Int) % (256 : Int) = B (u8 (c >>> 16)) := by rw [div16b, mod256]
theorem lb3 (c : BitVec 32) : U c / (16777216 : Int) % (256 : Int) = B (u8 (c >>> 24)) := by rw [div24b, mod256]
theorem or64p (p : BitVec 32) (x : UInt8) (k : Nat) (hk : k ≤ 24) : bits .or .u64 (U p) (B x * (2 : Int) ^ k) = U (p ||| w8 x <<< k) := by
  have h1 : (B x * (2 : Int) ^ k) = (((w8 x <<< k).toNat : Nat) : Int) := by
    have h2 : (w8 x <<< k).toNat = x.toNat * 2 ^ k := by
      have hx := x.toNat_lt
      have : x.toNat * 2 ^ k < 4294967296 := by
        have h3 : 2 ^ k ≤ 2 ^ 24 := Nat.pow_le_pow_right (by omega) hk
        calc x.toNat * 2 ^ k ≤ 255 * 2 ^ 24 := Nat.mul_le_mul (by omega) h3
          _ < 4294967296 := by omega
      rw [BitVec.toNat_shiftLeft, Nat.shiftLeft_eq]
      have hw : (w8 x).toNat = x.toNat := by unfold w8; simp
      rw [hw, Nat.mod_eq_of_lt this]
    rw [h2]; unfold B; simp
  rw [h1]
  unfold U
  rw [u64_or_nat _ _ (by have := p.isLt; omega) (by have := (w8 x <<< k).isLt; omega)]
  simp
theorem or64_0 (p : BitVec 32) (x : UInt8) : bits .or .u64 (U p) (B x) = U (p ||| w8 x) := by
  have := or64p p x 0 (by omega)
  simpa using this
theorem or64_1 (p : BitVec 32) (x : UInt8) : bits .or .u64 (U p) (B x * (256 : Int)) = U (p ||| w8 x <<< 8) := or64p p x 8 (by omega)
theorem or64_2 (p : BitVec 32) (x : UInt8) : bits .or .u64 (U p) (B x * (65536 : Int)) = U (p ||| w8 x <<< 16) := or64p p x 16 (by omega)
theorem or64_3 (p : BitVec 32) (x : UInt8) : bits .or .u64 (U p) (B x * (16777216 : Int)) = U (p ||| w8 x <<< 24) := or64p p x 24 (by omega)
attribute [local go_sem] lb0 lb1 lb2 lb3 or64_0 or64_1 or64_2 or64_3

/-- So far read. -/
def pre (a b c d : UInt8) : Nat → BitVec 32
  | 0 => 0#32
  | 1 => w8 a
  | 2 => w8 a ||| w8 b <<< 8
  | 3 => (w8 a ||| w8 b <<< 8) ||| w8 c <<< 16
  | _ => w4 a b c d
theorem zero_or (x : BitVec 32) : 0#32 ||| x = x := by simp

set_option maxHeartbeats 1000000 in
theorem fixed_four (A : Option Addr) (cap : Nat) (a b c d : UInt8) (w : World) (hr : Reads w A [a, b, c, d]) :
    Calls Tryd.prog 91 #[.slice A 4 cap] w fun e w' => e = .returned (.int .u64 (U (w4 a b c d))) ∧ w = w' := by
  rcases hr with h | ⟨g, off, rfl, hb, hc⟩
  · cases h
  have c0 : w.cell? ⟨g, off, none⟩ = some (.int .u8 (B a)) := hc 0 (by simp)
  have c1 : w.cell? ⟨g, off + 1, none⟩ = some (.int .u8 (B b)) := hc 1 (by simp)
  have c2 : w.cell? ⟨g, off + 2, none⟩ = some (.int .u8 (B c)) := hc 2 (by simp)
  have c3 : w.cell? ⟨g, off + 3, none⟩ = some (.int .u8 (B d)) := hc 3 (by simp)
  have l0 := B_lo a
  have l1 := B_lo b
  have l2 := B_lo c
  have l3 := B_lo d
  have h0 := B_hi a
  have h1 := B_hi b
  have h2 := B_hi c
  have h3 := B_hi d
  clear hc hb
  go_enter Tryd.func91, Tryd.ntmps91
  go_wp2
  go_loop [3, 4] (fun n i => ∃ k : Nat, k ≤ 4 ∧ i = .int .i64 k ∧ n = .int .u64 (U (pre a b c d k))) (fun _ i => 4 - (intOf i).toNat)
  case atStart => exact ⟨0, Nat.zero_le _, rfl, by rw [← U_zero]; rfl⟩
  case round =>
    obtain ⟨k, hk, rfl, rfl⟩ := hrel
    match k, hk with
    | 0, _ =>
      go_wp2
      go_round
      case rel => exact ⟨1, by omega, rfl, by first | rfl | simp [pre, w4]⟩
      case measure => simp [intOf]
    | 1, _ =>
      go_wp2
      go_round
      case rel => exact ⟨2, by omega, rfl, by first | rfl | simp [pre, w4]⟩
      case measure => simp [intOf]
    | 2, _ =>
      go_wp2
      go_round
      case rel => exact ⟨3, by omega, rfl, by first | rfl | simp [pre, w4]⟩
      case measure => simp [intOf]
    | 3, _ =>
      go_wp2
      go_round
      case rel => exact ⟨4, by omega, rfl, by first | rfl | simp [pre, w4]⟩
      case measure => simp [intOf]
    | 4, _ =>
      go_wp2
      go_ret
      exact ⟨rfl, rfl⟩
    | k + 5, h => omega
end Go.Proofs.YtoaioijgmbhhnaaDoor

namespace Go.Proofs.YtoaioijgmbhhnaaDoor
open Go.RowKit Crc

theorem wrap64U (c : BitVec 32) : IntKind.u64.wrap (U c) = U c := by
  have h := U_lo c
  have h2 := U_hi c
  rw [IntKind.wrap_u64]; omega
theorem wrap32U (c : BitVec 32) : IntKind.u32.wrap (U c) = U c := by
  have h := U_lo c
  have h2 := U_hi c
  rw [IntKind.wrap_u32]; omega
theorem mod64U (c : BitVec 32) : U c % (18446744073709551616 : Int) = U c := by
  have h := U_lo c
  have h2 := U_hi c
  omega
attribute [local go_sem] wrap64U wrap32U mod64U

/-- What the reference's Open answers. -/
def RefOpenPost (good : Bool) (A : Option Addr) (cap n : Nat) (w : World) (e : Ending) (w' : World) : Prop :=
  Below w.heap.size w w' ∧ if good then e = .returned (.tuple #[.slice A n cap, .int .i64 0]) else e = .returned (.tuple #[.slice none 0 0, .int .i64 102])

theorem refOpen_short (A : Option Addr) (cap n : Nat) (w : World) (hn : n < 4) :
    Calls Tryd.prog 54 #[.slice A n cap] w fun e w' => e = .returned (.tuple #[.slice none 0 0, .int .i64 101]) ∧ w = w' := by
  go_enter Tryd.func54, Tryd.ntmps54
  go_wp2_with fail
  go_ret2
  exact ⟨rfl, rfl⟩

set_option maxRecDepth 100000 in
set_option maxHeartbeats 1000000 in
theorem refOpen_long (b off cap n : Nat) (l : List UInt8) (w : World) (hn4 : l.length = n + 4) (hl : n + 4 ≤ 1000000) (hc : n + 4 ≤ cap) (hr : Reads w (some ⟨b, off, none⟩) l)
    (x0 x1 x2 x3 : UInt8) (hx : l.drop n = [x0, x1, x2, x3]) (nb : Bool) (hnb : (U (w4 x0 x1 x2 x3) != U (sum (l.take n))) = nb) :
    Calls Tryd.prog 54 #[.slice (some ⟨b, off, none⟩) (n + 4) cap] w (RefOpenPost (!nb) (some ⟨b, off, none⟩) cap n w) := by
  have HR := hide hr
  have HN := hide hn4
  have hr4 : Reads w (some ⟨b, off + n, none⟩) [x0, x1, x2, x3] := by
    have h := hr.sub n 4
    rw [hx] at h
    exact h
  have HR4 := hide hr4
  have HNB := hide hnb
  have h1 : (l.take n).length = n := by simp; omega
  have HLT := hide h1
  clear hr hn4 hx hnb h1 hr4
  have hnc : n ≤ cap := by omega
  go_enter Tryd.func54, Tryd.ntmps54
  go_wp2_with fail
  go_cut [20] (fun v wc => v = .bool nb ∧ Below w.heap.size w wc)
  case first =>
    refine wp_region_all [11, 12, 13, 14, 15, 16, 17, 18, 19, 20] (fun d => match d with
      | 11 => .is (.slice (some ⟨b, off, none⟩) (n + 4) cap) | 12 => .is (.int .i64 n) | 13 => .is (.slice (some ⟨b, off + n, none⟩) 4 (cap - n)) | 14 => .is (.int .u64 (U (w4 x0 x1 x2 x3))) | 15 => .is (.int .u32 (U (w4 x0 x1 x2 x3)))
      | 16 => .is (.slice (some ⟨b, off, none⟩) (n + 4) cap) | 17 => .is (.int .i64 n) | 18 => .is (.slice (some ⟨b, off, none⟩) n cap) | 19 => .is (.int .u32 (U (sum (l.take n)))) | 20 => .is (.bool nb)
      | _ => .any) (by kernel_rfl) (by kernel_rfl) (by kernel_rfl) ?_ ?_
    · have k1 := fun W => run_cut_h W (some ⟨b, off, none⟩) (n + 4) cap n (by omega)
      have k2 : ∀ W, (Instr.sliceAt 30 (.slice (some ⟨b, off, none⟩) (n + 4) cap) (some (.int .i64 (n : Int))) none none).run Tryd.prog W = .ok (.slice (some ⟨b, off + n, none⟩) 4 (cap - n)) W := fun W => by
        rw [run_cut_l W (some ⟨b, off, none⟩) (n + 4) cap n (by omega)]
        unfold cutA
        rw [if_neg (by omega)]
        simp [Addr.add_lit]
      simp only [StepsOk]
      refine ⟨?_, ?_, ?_, ?_, ?_, ?_, ?_, ?_, ?_, ?_, trivial⟩
      all_goals
        intro ev w1 hb hev hd
        have ev0 : ev (.tmp 0) = .slice (some ⟨b, off, none⟩) (n + 4) cap := hev _ (by simp)
        have ev4 : ev (.tmp 4) = .int .i64 n := hev _ (by simp)
        have evf : ∀ f, ev (.func f) = .func (.func f) #[] #[] := fun f => hev _ (by simp)
        have evc : ∀ f, ev (.const f) = f := fun f => hev _ (by simp)
        have HB := hide hb
        clear hev hb
        simp [DepsOk, Known.is, Known.one] at hd
        try simp [OpRuns, execOp, go_sem, Known.is, Known.one, Below.refl, *]
      · refine (fixed_four _ _ x0 x1 x2 x3 w1 (HR4.out.below HB.out (Nat.le_refl _))).mono ?_
        rintro e w3 ⟨rfl, rfl⟩
        exact ⟨rfl, Below.refl _ _⟩
      · refine (refSum_any _ cap n (l.take n) w1 HLT.out (by omega) ((HR.out.below HB.out (Nat.le_refl _)).first n)).mono ?_
        rintro e w3 ⟨rfl, rfl⟩
        exact ⟨rfl, Below.refl _ _⟩
      · exact HNB.out
    · intro f w1 hb hf
      have hbw := hide hb
      have e20 : f 20 = .bool nb := hf 20 (by simp)
      clear hf hb
      simp only [puts]
      go_simp
      refine wpList_nil ?_
      go_wp2_with fail
      go_meet
      exact ⟨rfl, hbw.out⟩
  case rest =>
    obtain ⟨rfl, hbc⟩ := hcut
    have HBC := hide hbc
    clear hbc HNB
    cases nb
    · go_wp2_with fail
      go_ret2
      exact ⟨HBC.out, rfl⟩
    · go_wp2_with fail
      go_ret2
      exact ⟨HBC.out, rfl⟩
end Go.Proofs.YtoaioijgmbhhnaaDoor
