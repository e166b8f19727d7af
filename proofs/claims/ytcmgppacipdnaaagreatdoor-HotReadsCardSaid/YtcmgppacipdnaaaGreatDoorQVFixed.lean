/-
  The walk through a reader's Fixed.
  Batches as bytes, plainly: which may be, their bytes, what is read. Nothing of any program is named here.
  A batch's bytes read, plainly.
  The walks through package vint's Size, Put and PutInt, and through the statements' own small helpers.
  The walk through package vint's PutInt.
  The walk through the chapter's example: Put of 300.
-/
import Derived.Test.YtcmgppacipdnaaaGreatDoorQVMeth
import Derived.Test.YtcmgppacipdnaaaGreatDoorQVRdr
import Derived.Test.YtcmgppacipdnaaaGreatDoorQTable
import Derived.Test.YtcmgppacipdnaaaGreatDoorQVi
import Derived.WalkKit
import Derived.ProofKit
import Derived.Below
import Derived.BigQuiet
import Derived.Deep.QuietTactic
import Derived.Outline
import Derived.LoopTactic
import Derived.IntWalk
namespace Go.Proofs.YtcmgppacipdnaaaGreatDoor
open Go.RowKit

theorem or64g (n x e : Nat) (hn : n < 2 ^ e) (hn2 : n < 18446744073709551616) (h : x * 2 ^ e < 18446744073709551616) : bits .or .u64 (n : Int) (IntKind.u64.wrap ((x : Int) * 2 ^ e)) = ((n + x * 2 ^ e : Nat) : Int) := by
  have e1 : IntKind.u64.wrap ((x : Int) * 2 ^ e) = ((x * 2 ^ e : Nat) : Int) := by
    have : ((x : Int) * 2 ^ e) = ((x * 2 ^ e : Nat) : Int) := by simp
    rw [IntKind.wrap_u64, this]; omega
  rw [e1, u64_or_nat _ _ hn2 h, Nat.or_comm, nat_join e _ _ (Nat.mul_mod_left _ _) hn, Nat.add_comm]
theorem little_snoc (l : List UInt8) (c : UInt8) : Vi.little (l ++ [c]) = Vi.little l + c.toNat * 2 ^ (8 * l.length) := by
  induction l with
  | nil => simp [Vi.little]
  | cons a l ih =>
    simp only [List.cons_append, Vi.little, ih, List.length_cons]
    rw [show 8 * (l.length + 1) = 8 * l.length + 8 by omega, Nat.pow_add, Nat.mul_add, show (2 : Nat) ^ 8 = 256 from rfl]
    have : c.toNat * (2 ^ (8 * l.length) * 256) = 256 * (c.toNat * 2 ^ (8 * l.length)) := by
      rw [← Nat.mul_assoc, Nat.mul_comm]
    omega
theorem little_lt (l : List UInt8) : Vi.little l < 2 ^ (8 * l.length) := by
  induction l with
  | nil => simp [Vi.little]
  | cons a l ih =>
    simp only [Vi.little, List.length_cons]
    rw [show 8 * (l.length + 1) = 8 * l.length + 8 by omega, Nat.pow_add, show (2 : Nat) ^ 8 = 256 from rfl]
    have := a.toNat_lt
    omega
theorem pow_le64 (k : Nat) (h : k ≤ 7) : 2 ^ (8 * k) ≤ 72057594037927936 := Nat.le_trans (Nat.pow_le_pow_right (by omega) (show 8 * k ≤ 56 by omega)) (by decide)
theorem little_or (l : List UInt8) (c : UInt8) (h : l.length ≤ 7) : bits .or .u64 (Vi.little l : Int) (IntKind.u64.wrap (B c * 2 ^ (8 * l.length))) = (Vi.little (l ++ [c]) : Int) := by
  rw [little_snoc]
  have h1 := little_lt l
  have h2 := pow_le64 l.length h
  have hc := c.toNat_lt
  refine or64g (Vi.little l) c.toNat (8 * l.length) h1 (by omega) ?_
  have : c.toNat * 2 ^ (8 * l.length) ≤ 255 * 72057594037927936 := Nat.mul_le_mul (by omega) h2
  omega

set_option maxRecDepth 100000 in
set_option maxHeartbeats 1000000 in
theorem fixed_any (w : World) (p : Nat → Addr) (g : Nat) (l : List UInt8) (s : Vi.Rs) (n : Int) (h1 : -9223372036854775808 ≤ n) (h2 : n ≤ 9223372036854775807) (h : Rdr w p g l s) (hs : SentsV w p) (hl : l.length ≤ 1000000) :
    Calls Tryz.prog 189 #[.pointer (some ⟨g, 0, none⟩), .int .i64 n] w fun e w' => e = .returned (.int .u64 (Vi.fixed l s n).1) ∧ Rdr w' p g l (Vi.fixed l s n).2 ∧ But g w w' := by
  have HR := hide h
  have HE : Hid (Vi.fixed l s n = if s.code ≠ 0 ∨ n < 0 ∨ 8 < n then (0, s) else if l.length < s.at_ + n.toNat then (0, s.fail 101) else (Vi.little ((l.drop s.at_).take n.toNat), s.on n.toNat)) := hide rfl
  generalize Vi.fixed l s n = T at *
  obtain ⟨A, cap, E, c0, c1, c2, ha, hne, he⟩ := h.ex
  have hlt := h.lt
  have hfr := h.free 1
  have hat := h.ok.le
  by_cases hc : s.code ≠ 0
  · obtain ⟨u, x, rfl⟩ := he.bad hc
    have k1 := neq_nil u x
    have HT : Hid (T = (0, s)) := by show _ = _; rw [HE.out, if_pos (.inl hc)]
    clear h ha hne he hc c0 c1 hs
    go_enter Tryz.func189, Tryz.ntmps189
    go_wp2_with fail
    go_ret
    rw [HT.out]
    exact ⟨rfl, HR.out, But.refl _ _⟩
  · obtain rfl := he.good (by omega)
    by_cases hn : n < 0 ∨ 8 < n
    · have HT : Hid (T = (0, s)) := by show _ = _; rw [HE.out, if_pos (.inr hn)]
      clear h ha hne he hc c0 c1 hs HE
      rcases hn with hn | hn
      · have hd : decide (n < 0) = true := by simp [hn]
        go_enter Tryz.func189, Tryz.ntmps189
        go_wp2_with fail
        go_ret
        rw [HT.out]
        exact ⟨rfl, HR.out, But.refl _ _⟩
      · have hd : decide (n < 0) = false := by simp; omega
        have hd2 : decide (8 < n) = true := by simp [hn]
        go_enter Tryz.func189, Tryz.ntmps189
        go_wp2_with fail
        go_ret
        rw [HT.out]
        exact ⟨rfl, HR.out, But.refl _ _⟩
    · obtain ⟨m, rfl⟩ := Int.eq_ofNat_of_zero_le (show 0 ≤ n by omega)
      have hm8 : m ≤ 8 := by omega
      have hno : ¬ (s.code ≠ 0 ∨ (m : Int) < 0 ∨ 8 < (m : Int)) := by omega
      rw [if_neg hno, Int.toNat_natCast] at HE
      have HLEFT := hide (rleft_any w p g l s h hl)
      by_cases hlen : l.length < s.at_ + m
      · have HT : Hid (T = (0, s.fail 101)) := by show _ = _; rw [HE.out, if_pos hlen]
        have hn' : ((l.length - s.at_ : Nat) : Int) < (m : Int) := by omega
        have HRQ := hide (fun q => HR.out.below (below_drewN (Below.refl w.heap.size w) q))
        have c4 : w.cell? ⟨8, 0, none⟩ = some (.iface 297 (.pointer (some (p 0)))) := hs.cell 0 (by omega)
        have HF := hide (fun q => fail_end (w.drewN q) p g l s (HRQ.out q) (hs.below (below_drewN (Below.refl w.heap.size w) q)))
        unfold errV at HF
        clear h ha hne he hc hno hn hlen HE hs c0 c1 h1 h2
        go_enter Tryz.func189, Tryz.ntmps189
        go_wp2_with fail
        refine HLEFT.out.mono ?_
        rintro e w2 ⟨rfl, q, rfl⟩
        go_wp2_with fail
        refine (HF.out q).mono ?_
        rintro e w3 ⟨rfl, hr3, hb3⟩
        go_wp2_with fail
        go_ret
        rw [HT.out]
        exact ⟨rfl, hr3, (But.drewN g w q).trans hb3⟩
      · have HT : Hid (T = (Vi.little ((l.drop s.at_).take m), s.on m)) := by show _ = _; rw [HE.out, if_neg hlen]
        have hn' : ¬ ((l.length - s.at_ : Nat) : Int) < (m : Int) := by omega
        have hk1 : ∀ W, (Instr.sliceAt 67 (.slice A l.length cap) (some (.int .i64 (s.at_ : Int))) (some (.int .i64 ((s.at_ : Int) + (m : Int)))) none).run Tryz.prog W = .ok (.slice (cutA A cap s.at_) m (cap - s.at_)) W := fun W => by
          have h := run_cut_lh W A l.length cap s.at_ (s.at_ + m) (by omega) (by have := ha.le; omega)
          rw [show s.at_ + m - s.at_ = m by omega, Int.natCast_add] at h
          exact h
        have hml : ((l.drop s.at_).take m).length = m := by rw [List.length_take, List.length_drop]; omega
        have HML := hide hml
        have HRD := hide (((ha.cut s.at_ hat).first m).reads)
        have HCC := hide (fun q => (HR.out.below (below_drewN (Below.refl w.heap.size w) q)).at_add m (by omega) (fun h => absurd h hc))
        clear h ha hne he hc hno hn HE hs h1 h2 hml
        generalize (l.drop s.at_).take m = u at *
        generalize cutA A cap s.at_ = A' at *
        go_enter Tryz.func189, Tryz.ntmps189
        go_wp2_with fail
        refine HLEFT.out.mono ?_
        rintro e w2 ⟨rfl, q, rfl⟩
        go_wp2_with fail
        go_quiet (fail)
        have HC1 := hide (fun q => (HCC.out q))
        go_wp2_with fail
        go_loop [5, 44] (fun v i => ∃ k : Nat, k ≤ m ∧ i = .int .i64 k ∧ v = .int .u64 (Vi.little (u.take k))) (fun _ i => m - (intOf i).toNat)
        case atStart => exact ⟨0, Nat.zero_le _, rfl, rfl⟩
        case round =>
          obtain ⟨k, hk, rfl, rfl⟩ := hrel
          by_cases hkm : k < m
          · have hku : k < u.length := by rw [HML.out]; exact hkm
            rcases HRD.out with rfl | ⟨b, off, rfl, hb, hcl⟩
            · simp at hku
            have hcell := hcl k hku
            have hlk : (u.take k).length = k := by rw [List.length_take]; omega
            have hsn : u.take (k + 1) = u.take k ++ [u.getD k 0] := by
              rw [List.take_succ_eq_append_getElem hku]; simp [List.getD, hku]
            have hor := little_or (u.take k) (u.getD k 0) (by omega)
            rw [hlk, ← hsn] at hor
            have HSN := hide hsn
            have hb1 := B_lo (u.getD k 0)
            have hb2 := B_hi (u.getD k 0)
            clear hcl hsn hlk hku
            generalize u.getD k 0 = c at *
            generalize Vi.little (u.take k) = v0 at *
            generalize hv1 : Vi.little (u.take (k + 1)) = v1 at *
            have HV1 := hide hv1
            clear hv1
            go_wp2_with fail
            exact ⟨⟨_, _, _, _, ⟨k + 1, by omega, rfl, by rw [HV1.out]⟩, rfl, rfl, rfl, rfl⟩, by simp [intOf]; omega⟩
          · obtain rfl : k = m := by omega
            have HU : Hid (u.take k = u) := by show _ = _; rw [← HML.out, List.take_length]
            go_wp2_with fail
            go_ret
            rw [HT.out]
            exact ⟨by rw [HU.out]; rfl, HC1.out _, (But.drewN g w _).trans (But.setCell g 1 _ _)⟩
end Go.Proofs.YtcmgppacipdnaaaGreatDoor

namespace Go.Proofs.YtcmgppacipdnaaaGreatDoor

namespace Rc
/-- A record; a batch. -/
structure Rec where
  t : Int
  k : List UInt8
  v : List UInt8
instance : Inhabited Rec := ⟨⟨0, [], []⟩⟩
structure Bat where
  base : Int
  epoch : Int
  recs : List Rec

def recOk (r : Rec) : Bool := decide (-1099511627776 ≤ r.t ∧ r.t ≤ 1099511627776 ∧ r.k.length ≤ 64 ∧ r.v.length ≤ 512)
/-- Why a batch may not be: the error's number; 0: it may. -/
def bad (b : Bat) : Nat :=
  if b.recs.length = 0 ∨ 64 < b.recs.length then 104
  else if b.base < 0 ∨ 1099511627776 < b.base + b.recs.length ∨ b.epoch < 0 ∨ 1073741824 < b.epoch ∨ b.recs.all recOk = false then 105
  else 0
structure Good (b : Bat) : Prop where
  n0 : 0 < b.recs.length
  n1 : b.recs.length ≤ 64
  base0 : 0 ≤ b.base
  base1 : b.base + b.recs.length ≤ 1099511627776
  ep0 : 0 ≤ b.epoch
  ep1 : b.epoch ≤ 1073741824
  recs : ∀ r ∈ b.recs, -1099511627776 ≤ r.t ∧ r.t ≤ 1099511627776 ∧ r.k.length ≤ 64 ∧ r.v.length ≤ 512
theorem bad_good (b : Bat) : bad b = 0 ↔ Good b := by
  unfold bad
  constructor
  · intro h
    split at h
    · omega
    · rename_i h1
      split at h
      · omega
      · rename_i h2
        have h3 : b.recs.all recOk = true := by
          cases h4 : b.recs.all recOk
          · exact absurd (.inr (.inr (.inr (.inr h4)))) h2
          · rfl
        refine ⟨by omega, by omega, by omega, by omega, by omega, by omega, fun r hr => ?_⟩
        have := List.all_eq_true.1 h3 r hr
        simpa [recOk] using this
  · intro g
    have h3 : b.recs.all recOk = true := List.all_eq_true.2 fun r hr => by simpa [recOk] using g.recs r hr
    have := g.n0
    have := g.n1
    have := g.base0
    have := g.base1
    have := g.ep0
    have := g.ep1
    rw [if_neg (by omega), if_neg (by rw [h3]; simp; omega)]
/-- So many bytes of a number, the lowest first. -/
def le : Nat → Nat → List UInt8
  | 0, _ => []
  | k + 1, n => UInt8.ofNat n :: le k (n / 256)
theorem le_len (k n : Nat) : (le k n).length = k := by
  induction k generalizing n with
  | zero => rfl
  | succ k ih => simp [le, ih]
theorem little_le (k n : Nat) (h : n < 256 ^ k) : Vi.little (le k n) = n := by
  induction k generalizing n with
  | zero => simp at h; subst h; rfl
  | succ k ih =>
    have h2 : n / 256 < 256 ^ k := by
      rw [Nat.pow_succ] at h
      exact Nat.div_lt_of_lt_mul (by omega)
    simp only [le, Vi.little, ih _ h2, UInt8.toNat_ofNat']
    omega
theorem le_snoc (k n : Nat) : le (k + 1) n = le k n ++ [UInt8.ofNat (n / 256 ^ k)] := by
  induction k generalizing n with
  | zero => simp [le]
  | succ k ih =>
    have e : n / 256 ^ (k + 1) = n / 256 / 256 ^ k := by rw [Nat.pow_succ, Nat.mul_comm, Nat.div_div_eq_div_mul]
    rw [show le (k + 1 + 1) n = UInt8.ofNat n :: le (k + 1) (n / 256) from rfl, ih, e]
    rfl

/-- A text behind its length. -/
def eT (l : List UInt8) : List UInt8 := Vi.put l.length ++ l
def recB (last : Int) (r : Rec) : List UInt8 := (Vi.put (Vi.zz (r.t - last)) ++ eT r.k) ++ eT r.v
def lastT (t : Int) : List Rec → Int
  | [] => t
  | r :: rs => lastT r.t rs
def recsB (t : Int) : List Rec → List UInt8
  | [] => []
  | r :: rs => recB t r ++ recsB r.t rs
theorem lastT_snoc (t : Int) (rs : List Rec) (r : Rec) : lastT t (rs ++ [r]) = r.t := by
  induction rs generalizing t with
  | nil => rfl
  | cons a rs ih => exact ih a.t
theorem recsB_snoc (t : Int) (rs : List Rec) (r : Rec) : recsB t (rs ++ [r]) = recsB t rs ++ recB (lastT t rs) r := by
  induction rs generalizing t with
  | nil => simp [recsB, lastT]
  | cons a rs ih => simp only [List.cons_append, recsB, lastT, ih, List.append_assoc]
def t0 (b : Bat) : Int := (b.recs.getD 0 default).t
def hd (b : Bat) : List UInt8 := (le 8 b.base.toNat ++ le 4 b.epoch.toNat) ++ le 2 b.recs.length
def body (b : Bat) : List UInt8 := (hd b ++ Vi.put (Vi.zz (t0 b))) ++ recsB (t0 b) b.recs

theorem eT_len (l : List UInt8) (h : l.length ≤ 512) : (eT l).length ≤ l.length + 10 := by
  unfold eT
  rw [List.length_append]
  have : (Vi.put l.length).length ≤ 10 := Vi.size_le10 (by omega)
  omega
theorem recB_len (last : Int) (r : Rec) (h : -1099511627776 ≤ r.t ∧ r.t ≤ 1099511627776 ∧ r.k.length ≤ 64 ∧ r.v.length ≤ 512) (h2 : -1099511627776 ≤ last ∧ last ≤ 1099511627776) : (recB last r).length ≤ 606 := by
  unfold recB
  rw [List.length_append, List.length_append]
  have h1 : (Vi.put (Vi.zz (r.t - last))).length ≤ 10 := Vi.size_le10 (Vi.zz_lt _ (by omega) (by omega))
  have := eT_len r.k (by omega)
  have := eT_len r.v (by omega)
  omega
theorem recsB_len (last : Int) (rs : List Rec) (h : ∀ r ∈ rs, -1099511627776 ≤ r.t ∧ r.t ≤ 1099511627776 ∧ r.k.length ≤ 64 ∧ r.v.length ≤ 512) (h2 : -1099511627776 ≤ last ∧ last ≤ 1099511627776) : (recsB last rs).length ≤ 606 * rs.length := by
  induction rs generalizing last with
  | nil => simp [recsB]
  | cons a rs ih =>
    have ha := h a List.mem_cons_self
    have := recB_len last a ha h2
    have := ih a.t (fun r hr => h r (List.mem_cons_of_mem _ hr)) ⟨ha.1, ha.2.1⟩
    simp only [recsB, List.length_append, List.length_cons]
    omega
theorem lastT_ok (t : Int) (rs : List Rec) (h : ∀ r ∈ rs, -1099511627776 ≤ r.t ∧ r.t ≤ 1099511627776 ∧ r.k.length ≤ 64 ∧ r.v.length ≤ 512) (h2 : -1099511627776 ≤ t ∧ t ≤ 1099511627776) : -1099511627776 ≤ lastT t rs ∧ lastT t rs ≤ 1099511627776 := by
  induction rs generalizing t with
  | nil => exact h2
  | cons a rs ih =>
    have ha := h a List.mem_cons_self
    exact ih a.t (fun r hr => h r (List.mem_cons_of_mem _ hr)) ⟨ha.1, ha.2.1⟩
theorem Good.t0 {b : Bat} (g : Good b) : -1099511627776 ≤ t0 b ∧ t0 b ≤ 1099511627776 := by
  have h := g.n0
  have e : b.recs.getD 0 default = b.recs[0] := by simp [List.getD, h]
  unfold Rc.t0
  rw [e]
  have := g.recs _ (List.getElem_mem h)
  exact ⟨this.1, this.2.1⟩
theorem hd_len (b : Bat) : (hd b).length = 14 := by simp [hd, le_len]
theorem body_len (b : Bat) (g : Good b) : 14 ≤ (body b).length ∧ (body b).length ≤ 24 + 606 * b.recs.length := by
  have h1 := recsB_len (Rc.t0 b) b.recs g.recs g.t0
  have h2 := g.t0
  have h3 : (Vi.put (Vi.zz (Rc.t0 b))).length ≤ 10 := Vi.size_le10 (Vi.zz_lt _ (by omega) (by omega))
  unfold body
  rw [List.length_append, List.length_append, hd_len]
  omega
end Rc
end Go.Proofs.YtcmgppacipdnaaaGreatDoor

namespace Go.Proofs.YtcmgppacipdnaaaGreatDoor
namespace Rc

def toI (n : Nat) : Int := if n < 9223372036854775808 then (n : Int) else (n : Int) - 18446744073709551616
theorem toI_bd (n : Nat) (h : n < 18446744073709551616) : -9223372036854775808 ≤ toI n ∧ toI n ≤ 9223372036854775807 := by
  unfold toI; split <;> omega
theorem toI_wrap (n : Nat) (h : n < 18446744073709551616) : IntKind.i64.wrap (n : Int) = toI n := by
  rw [IntKind.wrap_i64]; unfold toI; split <;> omega
/-- One record read. -/
def step1 (l : List UInt8) (s : Vi.Rs) (t st : Int) : Rec × Vi.Rs :=
  let i := Vi.int l s (-st) st
  let k := Vi.text l i.2 64
  let v := Vi.text l k.2 512
  (⟨t + i.1, k.1, v.1⟩, v.2)
def loop (l : List UInt8) (many : Nat) : Nat → Vi.Rs → Int → Int → List Rec → List Rec × Vi.Rs
  | 0, s, _, _, acc => (acc, s)
  | f + 1, s, t, st, acc =>
    if acc.length < many ∧ s.code = 0 then loop l many f (step1 l s t st).2 (step1 l s t st).1.t 2199023255552 (acc ++ [(step1 l s t st).1]) else (acc, s)
theorem loop_on (l : List UInt8) (many : Nat) (s : Vi.Rs) (t st : Int) (acc : List Rec) (h : acc.length < many) (hc : s.code = 0) :
    loop l many (many - acc.length) s t st acc = loop l many (many - (acc ++ [(step1 l s t st).1]).length) (step1 l s t st).2 (step1 l s t st).1.t 2199023255552 (acc ++ [(step1 l s t st).1]) := by
  rw [show many - acc.length = (many - acc.length - 1) + 1 by omega, loop, if_pos ⟨h, hc⟩]
  congr 1
  rw [List.length_append]; simp; omega
theorem loop_end (l : List UInt8) (many : Nat) (s : Vi.Rs) (t st : Int) (acc : List Rec) (h : ¬ (acc.length < many ∧ s.code = 0)) : loop l many (many - acc.length) s t st acc = (acc, s) := by
  cases hk : many - acc.length with
  | zero => rfl
  | succ k => rw [loop, if_neg h]
def head1 (l : List UInt8) : Nat × Vi.Rs := Vi.fixed l start 8
def head2 (l : List UInt8) : Nat × Vi.Rs := Vi.fixed l (head1 l).2 4
def head3 (l : List UInt8) : Nat × Vi.Rs := Vi.fixed l (head2 l).2 2
def head4 (l : List UInt8) : Int × Vi.Rs := Vi.int l (head3 l).2 (-1099511627776) 1099511627776
def tail (l : List UInt8) : List Rec × Vi.Rs := loop l (head3 l).1 (head3 l).1 (head4 l).2 (head4 l).1 0 []
def parse (l : List UInt8) : Bat := ⟨toI (head1 l).1, (head2 l).1, (tail l).1⟩
def okay (l : List UInt8) : Bool := decide ((tail l).2.code = 0 ∧ l.length ≤ (tail l).2.at_ ∧ bad (parse l) = 0)

theorem int_bd (l : List UInt8) (s : Vi.Rs) (st : Int) (h : 0 ≤ st) : -st ≤ (Vi.int l s (-st) st).1 ∧ (Vi.int l s (-st) st).1 ≤ st := by
  unfold Vi.int Vi.peekI
  split
  · exact ⟨by show -st ≤ 0; omega, h⟩
  · simp only
    split
    · exact ⟨by show -st ≤ 0; omega, h⟩
    · split
      · exact ⟨by show -st ≤ 0; omega, h⟩
      · rename_i h3
        exact ⟨by omega, by omega⟩
theorem fixed_lt (l : List UInt8) (s : Vi.Rs) (n : Nat) : (Vi.fixed l s n).1 < 2 ^ (8 * n) := by
  unfold Vi.fixed
  split
  · exact Nat.two_pow_pos _
  · split
    · exact Nat.two_pow_pos _
    · rename_i h
      have h1 := little_lt ((l.drop s.at_).take (n : Int).toNat)
      refine Nat.lt_of_lt_of_le h1 (Nat.pow_le_pow_right (by omega) ?_)
      rw [List.length_take]
      omega
end Rc
end Go.Proofs.YtcmgppacipdnaaaGreatDoor

namespace Go.Proofs.YtcmgppacipdnaaaGreatDoor
open Go.RowKit

set_option maxRecDepth 100000 in
set_option maxHeartbeats 400000 in
theorem size_any (n : Nat) (w : World) (hn : n < 18446744073709551616) :
    Calls Tryz.prog 171 #[.int .u64 n] w fun e w' => e = .returned (.int .i64 (Vi.size n)) ∧ w = w' := by
  have HS := hide (Vi.size_le10 hn)
  clear hn
  go_enter Tryz.func171, Tryz.ntmps171
  go_wp2
  go_loop [0, 3] (fun a s => ∃ m k : Nat, a = .int .u64 m ∧ s = .int .i64 k ∧ k ≤ 10 ∧ k + Vi.size m = Vi.size n + 1) (fun a _ => (intOf a).toNat)
  case atStart => exact ⟨n, 1, rfl, rfl, by omega, by omega⟩
  case round =>
    obtain ⟨m, k, rfl, rfl, hk, hs⟩ := hrel
    have HR := hide hs
    clear hs
    by_cases h : 128 ≤ m
    · have HG := hide (Vi.size_ge h)
      go_wp2
      go_round
      case rel => exact ⟨m / 128, k + 1, by go_num, by go_num, by have := HR.out; have := HG.out; have := HS.out; have := Vi.size_pos (m / 128); omega, by have := HR.out; have := HG.out; omega⟩
      case measure => simp [intOf]; omega
    · have HL := hide (Vi.size_lt (show m < 128 by omega))
      go_wp2
      go_ret
      exact ⟨by have h1 := HR.out; have h2 := HL.out; rw [show Vi.size n = k by omega]; rfl, rfl⟩

theorem or128 (n : Nat) : bits .or .u8 ((n : Int) % (256 : Int)) 128 = B (UInt8.ofNat (n % 128 + 128)) := by
  unfold B
  rw [UInt8.toNat_ofNat', show (n : Int) % 256 = ((n % 256 : Nat) : Int) from by omega, show (128 : Int) = ((128 : Nat) : Int) from rfl, u8_or_nat _ _ (by omega) (by omega)]
  have h : ∀ x, x < 256 → x ||| 128 = x % 128 + 128 := by decide +kernel
  rw [h _ (by omega)]
  congr 1; omega
theorem mod256n (n : Nat) : (n : Int) % (256 : Int) = B (UInt8.ofNat n) := by
  unfold B
  rw [UInt8.toNat_ofNat']; omega

set_option maxRecDepth 100000 in
set_option maxHeartbeats 400000 in
theorem put_any (A : Option Addr) (cap : Nat) (l : List UInt8) (n : Nat) (w : World) (hn : n < 18446744073709551616) (hl : l.length ≤ 1000000) (hr : Reads w A l) :
    Calls Tryz.prog 133 #[.slice A l.length cap, .int .u64 n] w fun e w' => ∃ v, e = .returned v ∧ Own w' w.heap.size v (l ++ Vi.put n) ∧ Below w.heap.size w w' := by
  have HR := hide hr
  have HS := hide (Vi.size_le10 hn)
  have HSZ := hide (fun W => size_any n W hn)
  have hsz := Vi.size_le10 hn
  have hsp := Vi.size_pos n
  clear hr hn
  go_enter Tryz.func133, Tryz.ntmps133
  go_wp2_with (first
    | (go_at_call 171; refine (HSZ.out _).mono ?_; rintro e w' ⟨rfl, rfl⟩)
    | (at_make; refine wpList_mk rfl (.tmp 7) (.tmp 12) rfl l.length (l.length + Vi.size n) _ _ rfl rfl rfl (by omega) (by omega) (by omega) ?_; intro w1 hown1 hb1 hs1)
    | (refine wpList_cp (o := ⟨some 16, _, _, _, _, _⟩) rfl (.tmp 14) (.tmp 15) rfl w.heap.size _ l _ _ _ rfl hown1 A l.length cap rfl rfl (HR.out.below hb1 (Nat.le_refl _)) ?_; intro w2 hown2 hg2 hs2))
  have hb2 : Below w.heap.size w w2 := hb1.grown hg2 (by omega) (by intro k hk; simp [Value.ownBlock] at hk; omega)
  have hown2' : Own w2 w.heap.size (.slice (some ⟨w.heap.size, 0, none⟩) l.length (l.length + Vi.size n)) l := by
    have e1 : l.take (List.replicate l.length (0 : UInt8)).length = l := by rw [List.length_replicate, List.take_length]
    have e2 : (List.replicate l.length (0 : UInt8)).drop l.length = [] := by simp
    have := hown2
    rwa [e1, e2, List.append_nil] at this
  have HB2 := hide hb2
  have HO2 := hide hown2'
  clear hown1 hown2 hown2' hs1 hs2 hg2 hb2 hb1
  simp only [Act.put, List.setIfInBounds_toArray, List.set_cons_succ, List.set_cons_zero, goInt, List.length_replicate, show Nat.min l.length l.length = l.length from Nat.min_self _]
  go_loopw [1, 5] (fun a v wr => ∃ (m : Nat) (pre : List UInt8), a = .int .u64 m ∧ Own wr w.heap.size v (l ++ pre) ∧ pre ++ Vi.put m = Vi.put n ∧ Below w.heap.size w wr) (fun a _ _ => (intOf a).toNat)
  case atStart => exact ⟨n, [], rfl, by rw [List.append_nil]; exact HO2.out, rfl, HB2.out⟩
  case round =>
    obtain ⟨m, pre, rfl, hown, hpre, hb⟩ := hrel
    have hpl : pre.length < 10 := by
      have h1 := congrArg List.length hpre
      rw [List.length_append] at h1
      have h2 := Vi.size_pos m
      unfold Vi.size at h2 hsz
      omega
    have HO := hide hown
    have HP := hide hpre
    have HB := hide hb
    have HZ : Hid (w.heap.size ≤ wr.heap.size) := hb.size
    clear hown hpre hb
    by_cases h : 128 ≤ m
    · have ho := or128 m
      have HPG := hide (Vi.put_ge h)
      generalize UInt8.ofNat (m % 128 + 128) = c at *
      go_wp2_with (at_builtin; refine wpList_app (w := wr.alloc _) rfl (.tmp 21) (.tmp 25) rfl w.heap.size _ (l ++ pre) [c] rfl (HO.out.alloc _) _ 1 1 rfl rfl (Reads.made _ _ _ _ _ _ rfl rfl) (by simp; omega) (by have := HZ.out; simp; omega) ?_; intro v w3 hown3 hg3 hv3)
      go_roundw
      case rel =>
        refine ⟨m / 128, pre ++ [c], by go_num, ?_, ?_, ?_⟩
        · rw [← List.append_assoc]; exact hown3
        · rw [List.append_assoc, List.singleton_append, ← HPG.out]; exact HP.out
        · exact (HB.out.alloc HZ.out _).grown hg3 (by have := HZ.out; simp; omega) (fun g hg => (HO.out.lt g hg).1)
      case measure => simp [intOf]; omega
    · have HC : Hid ((cells [UInt8.ofNat m]).toArray = #[.int .u8 m]) := by
        show (cells [UInt8.ofNat m]).toArray = #[.int .u8 m]
        simp only [cells, List.map_cons, List.map_nil, byteV, ← mod256n]
        rw [show (m : Int) % 256 = m by omega]
      have HPL := hide (Vi.put_lt (show m < 128 by omega))
      generalize UInt8.ofNat m = c at *
      go_wp2_with (at_builtin; refine wpList_app (w := wr.alloc _) rfl (.tmp 27) (.tmp 30) rfl w.heap.size _ (l ++ pre) [c] rfl (HO.out.alloc _) _ 1 1 rfl rfl (Reads.made _ _ _ _ _ _ rfl HC.out) (by simp; omega) (by have := HZ.out; simp; omega) ?_; intro v w3 hown3 hg3 hv3)
      go_ret
      refine ⟨v, rfl, ?_, ?_⟩
      · rw [← HP.out, HPL.out, ← List.append_assoc]; exact hown3
      · exact (HB.out.alloc HZ.out _).grown hg3 (by have := HZ.out; simp; omega) (fun g hg => (HO.out.lt g hg).1)
end Go.Proofs.YtcmgppacipdnaaaGreatDoor

namespace Go.Proofs.YtcmgppacipdnaaaGreatDoor
open Go.RowKit

theorem zig_pos (n : Int) (h0 : 0 ≤ n) (h2 : n ≤ 9223372036854775807) : bits .xor .u64 (n * 2) (n / 9223372036854775808) = (Vi.zz n : Nat) := by
  rw [show n / 9223372036854775808 = 0 by omega, show n * 2 = ((2 * n.toNat : Nat) : Int) by omega, xor_nil _ (by omega)]
  unfold Vi.zz; rw [if_pos h0]; omega
theorem zig_neg (n : Int) (h1 : -9223372036854775808 ≤ n) (h0 : ¬ 0 ≤ n) : bits .xor .u64 (IntKind.u64.wrap (IntKind.u64.wrap n * 2)) (IntKind.u64.wrap (n / 9223372036854775808)) = (Vi.zz n : Nat) := by
  rw [IntKind.wrap_u64, IntKind.wrap_u64, IntKind.wrap_u64, show n / 9223372036854775808 % 18446744073709551616 = 18446744073709551615 by omega,
    show n % 18446744073709551616 * 2 % 18446744073709551616 = ((18446744073709551616 - 2 * (-n).toNat : Nat) : Int) by omega, ofInt_all _ (by omega)]
  unfold Vi.zz; rw [if_neg h0]; omega

set_option maxRecDepth 100000 in
set_option maxHeartbeats 400000 in
theorem putInt_any (A : Option Addr) (cap : Nat) (l : List UInt8) (n : Int) (w : World) (h1 : -9223372036854775808 ≤ n) (h2 : n ≤ 9223372036854775807) (hl : l.length ≤ 1000000) (hr : Reads w A l) :
    Calls Tryz.prog 134 #[.slice A l.length cap, .int .i64 n] w fun e w' => ∃ v, e = .returned v ∧ Own w' w.heap.size v (l ++ Vi.put (Vi.zz n)) ∧ Below w.heap.size w w' := by
  have HP := hide (put_any A cap l (Vi.zz n) w (Vi.zz_lt n h1 h2) hl hr)
  clear hr
  by_cases h0 : 0 ≤ n
  · have HZ := hide (zig_pos n h0 h2)
    go_enter Tryz.func134, Tryz.ntmps134
    go_wp2_with fail
    rw [HZ.out]
    refine HP.out.mono ?_
    rintro e w1 ⟨v, rfl, ho, hb⟩
    go_wp2_with fail
    go_ret
    exact ⟨v, rfl, ho, hb⟩
  · have HZ := hide (zig_neg n h1 h0)
    go_enter Tryz.func134, Tryz.ntmps134
    go_wp2_with fail
    rw [HZ.out]
    refine HP.out.mono ?_
    rintro e w1 ⟨v, rfl, ho, hb⟩
    go_wp2_with fail
    go_ret
    exact ⟨v, rfl, ho, hb⟩
end Go.Proofs.YtcmgppacipdnaaaGreatDoor

namespace Go.Proofs.YtcmgppacipdnaaaGreatDoor
open Go.RowKit

theorem put_at (A : Option Addr) (cap k : Nat) (l : List UInt8) (n : Nat) (w : World) (hk : l.length = k) (hn : n < 18446744073709551616) (hl : k ≤ 1000000) (hr : Reads w A l) :
    Calls Tryz.prog 133 #[.slice A k cap, .int .u64 n] w fun e w' => ∃ v, e = .returned v ∧ Own w' w.heap.size v (l ++ Vi.put n) ∧ Below w.heap.size w w' := by
  subst hk; exact put_any A cap l n w hn hl hr
theorem putInt_at (A : Option Addr) (cap k : Nat) (l : List UInt8) (n : Int) (w : World) (hk : l.length = k) (h1 : -9223372036854775808 ≤ n) (h2 : n ≤ 9223372036854775807) (hl : k ≤ 1000000) (hr : Reads w A l) :
    Calls Tryz.prog 134 #[.slice A k cap, .int .i64 n] w fun e w' => ∃ v, e = .returned v ∧ Own w' w.heap.size v (l ++ Vi.put (Vi.zz n)) ∧ Below w.heap.size w w' := by
  subst hk; exact putInt_any A cap l n w h1 h2 hl hr
/-- Put of nothing ahead. -/
theorem put_nil (n : Nat) (w : World) (hn : n < 18446744073709551616) :
    Calls Tryz.prog 133 #[.slice none 0 0, .int .u64 n] w fun e w' => ∃ A c, e = .returned (.slice A (Vi.size n) c) ∧ Own w' w.heap.size (.slice A (Vi.size n) c) (Vi.put n) ∧ Arg w' A c (Vi.put n) ∧ Below w.heap.size w w' :=
  (put_at none 0 0 [] n w rfl hn (by omega) (.inl rfl)).mono fun e w' ⟨v, he, ho, hb⟩ => by
    obtain ⟨A, c, hv, hr⟩ := ho.arg
    subst hv
    exact ⟨A, c, he, ho, hr, hb⟩
theorem putInt_nil (n : Int) (w : World) (h1 : -9223372036854775808 ≤ n) (h2 : n ≤ 9223372036854775807) :
    Calls Tryz.prog 134 #[.slice none 0 0, .int .i64 n] w fun e w' => ∃ A c, e = .returned (.slice A (Vi.size (Vi.zz n)) c) ∧ Own w' w.heap.size (.slice A (Vi.size (Vi.zz n)) c) (Vi.put (Vi.zz n)) ∧ Arg w' A c (Vi.put (Vi.zz n)) ∧ Below w.heap.size w w' :=
  (putInt_at none 0 0 [] n w rfl h1 h2 (by omega) (.inl rfl)).mono fun e w' ⟨v, he, ho, hb⟩ => by
    obtain ⟨A, c, hv, hr⟩ := ho.arg
    subst hv
    exact ⟨A, c, he, ho, hr, hb⟩

end Go.Proofs.YtcmgppacipdnaaaGreatDoor
