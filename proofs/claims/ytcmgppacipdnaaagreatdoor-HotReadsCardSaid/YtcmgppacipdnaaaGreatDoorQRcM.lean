/-
  A batch's records in memory; the walks through rec's small helpers: within, Next, fixed, text.
  The walk through rec's Valid.
-/
import Derived.Test.YtcmgppacipdnaaaGreatDoorQVFixed
import Derived.Test.YtcmgppacipdnaaaGreatDoorQTable
import Derived.Deep.RegionHeld3
import Derived.Deep.DeepCutAuto
namespace Go.Proofs.YtcmgppacipdnaaaGreatDoor
open Go.RowKit

/-- Where a record lies. -/
structure RecAt (w : World) (b off : Nat) (r : Rc.Rec) : Prop where
  ex : ∃ Ak ck Av cv, w.cell? ⟨b, off, none⟩ = some (.int .i64 r.t) ∧ w.cell? ⟨b, off + 1, none⟩ = some (.slice Ak r.k.length ck) ∧ w.cell? ⟨b, off + 2, none⟩ = some (.slice Av r.v.length cv) ∧ Arg w Ak ck r.k ∧ Arg w Av cv r.v
/-- A slice that reads as these records. -/
def Recs (w : World) (A : Option Addr) (rs : List Rc.Rec) : Prop :=
  rs = [] ∨ ∃ b off, A = some ⟨b, off, none⟩ ∧ b < w.heap.size ∧ ∀ k, k < rs.length → RecAt w b (off + k * 3) (rs.getD k default)
theorem RecAt.below {w w' : World} {C b off : Nat} {r : Rc.Rec} (h : RecAt w b off r) (hb : Below C w w') (hC : w.heap.size ≤ C) (hl : b < w.heap.size) : RecAt w' b off r := by
  obtain ⟨Ak, ck, Av, cv, h0, h1, h2, ha, hv⟩ := h.ex
  exact ⟨Ak, ck, Av, cv, (hb.cell (p := ⟨b, off, none⟩) (by show b < C; omega)).trans h0, (hb.cell (p := ⟨b, off + 1, none⟩) (by show b < C; omega)).trans h1, (hb.cell (p := ⟨b, off + 2, none⟩) (by show b < C; omega)).trans h2, ha.below hb hC, hv.below hb hC⟩
theorem Recs.below {w w' : World} {C : Nat} {A : Option Addr} {rs : List Rc.Rec} (h : Recs w A rs) (hb : Below C w w') (hC : w.heap.size ≤ C) : Recs w' A rs := by
  rcases h with h | ⟨b, off, e, hl, hc⟩
  · exact .inl h
  · exact .inr ⟨b, off, e, Nat.lt_of_lt_of_le hl hb.size, fun k hk => (hc k hk).below hb hC hl⟩
abbrev batV (base epoch : Int) (A : Option Addr) (n cap : Nat) : Value := .agg #[.int .i64 base, .int .i64 epoch, .slice A n cap]
/-- A batch as a value, and what it is. -/
structure IsBat (w : World) (A : Option Addr) (cap : Nat) (b : Rc.Bat) : Prop where
  le : b.recs.length ≤ cap
  max : cap ≤ 9223372036854775807
  recs : Recs w A b.recs
  base : -9223372036854775808 ≤ b.base ∧ b.base ≤ 9223372036854775807
  epoch : -9223372036854775808 ≤ b.epoch ∧ b.epoch ≤ 9223372036854775807
theorem IsBat.below {w w' : World} {C : Nat} {A : Option Addr} {cap : Nat} {b : Rc.Bat} (h : IsBat w A cap b) (hb : Below C w w') (hC : w.heap.size ≤ C) : IsBat w' A cap b := ⟨h.le, h.max, h.recs.below hb hC, h.base, h.epoch⟩

theorem within_any (n a b : Int) (w : World) :
    Calls Tryz.prog 104 #[.int .i64 n, .int .i64 a, .int .i64 b] w fun e w' => e = .returned (.bool (decide (a ≤ n ∧ n ≤ b))) ∧ w = w' := by
  by_cases h1 : a ≤ n
  · have hd : decide (a ≤ n) = true := by simp [h1]
    have he : decide (a ≤ n ∧ n ≤ b) = decide (n ≤ b) := by simp [h1]
    rw [he]
    clear he h1
    go_enter Tryz.func104, Tryz.ntmps104
    go_wp2_with fail
    go_ret
    exact ⟨rfl, rfl⟩
  · have hd : decide (a ≤ n) = false := by simp [h1]
    have he : decide (a ≤ n ∧ n ≤ b) = false := by simp [h1]
    rw [he]
    clear he h1
    go_enter Tryz.func104, Tryz.ntmps104
    go_wp2_with fail
    go_ret
    exact ⟨rfl, rfl⟩

theorem next_bat (base epoch : Int) (A : Option Addr) (n cap : Nat) (w : World) (h1 : -9223372036854775808 ≤ base + n) (h2 : base + n ≤ 9223372036854775807) :
    Calls Tryz.prog 105 #[batV base epoch A n cap] w fun e w' => e = .returned (.int .i64 (base + n)) ∧ Below w.heap.size w w' := by
  go_enter Tryz.func105, Tryz.ntmps105
  go_wp2_with fail
  go_ret
  exact ⟨rfl, balloc (Below.refl _ _) _⟩

/-- From w to w' nothing old has turned but the row that v lies in; v' lies there too, or in a new one. -/
structure Grown (w w' : World) (v v' : Value) : Prop where
  g : w.grownBy w' v.ownBlock
  o : v'.ownBlock = v.ownBlock ∨ ∃ k, v'.ownBlock = some k ∧ w.heap.size ≤ k
theorem Grown.refl (w : World) (v : Value) : Grown w w v v := ⟨World.grownBy.refl w _, .inl rfl⟩
theorem Grown.size {w w' : World} {v v' : Value} (h : Grown w w' v v') : w.heap.size ≤ w'.heap.size := h.g.size
theorem Grown.of_below {w w' : World} (h : Below w.heap.size w w') (v : Value) : Grown w w' v v := ⟨⟨h.os, h.tape, h.output, h.size, fun k hk _ => h.block k hk⟩, .inl rfl⟩
theorem Grown.trans {a b c : World} {u v x : Value} (h : Grown a b u v) (k : Grown b c v x) : Grown a c u x := by
  refine ⟨⟨k.g.os.trans h.g.os, k.g.tape.trans h.g.tape, k.g.output.trans h.g.output, Nat.le_trans h.g.size k.g.size, fun i hi hne => (k.g.block i (Nat.lt_of_lt_of_le hi h.g.size) ?_).trans (h.g.block i hi hne)⟩, ?_⟩
  · rcases h.o with e | ⟨j, e, hj⟩
    · rw [e]; exact hne
    · rw [e]; intro e'; injection e' with e'; omega
  · rcases k.o with e | ⟨j, e, hj⟩
    · rcases h.o with e' | ⟨j, e', hj⟩
      · exact .inl (e.trans e')
      · exact .inr ⟨j, e.trans e', hj⟩
    · exact .inr ⟨j, e, Nat.le_trans h.g.size hj⟩
theorem Grown.app {w w' : World} {v v' : Value} (g : w.grownBy w' v.ownBlock) (o : v'.ownBlock = v.ownBlock ∨ v'.ownBlock = some w.heap.size) : Grown w w' v v' :=
  ⟨g, o.imp id fun e => ⟨_, e, Nat.le_refl _⟩⟩
theorem Grown.below {w w' : World} {v v' : Value} {base C : Nat} {l : List UInt8} (h : Grown w w' v v') (ho : Own w base v l) (hC : C ≤ base) (hb : C ≤ w.heap.size) : Below C w w' :=
  (Below.refl C w).grown h.g hb fun k hk => Nat.le_trans hC (ho.lt k hk).1
theorem Grown.cell {w w' : World} {v v' : Value} (h : Grown w w' v v') {b o : Nat} (hb : b < w.heap.size) (hne : v.ownBlock ≠ some b) : w'.cell? ⟨b, o, none⟩ = w.cell? ⟨b, o, none⟩ := by
  have := h.g.block b hb (fun e => hne e.symm)
  simp [World.cell?, this]
theorem Grown.keep {w w' : World} {v v' : Value} (h : Grown w w' v v') {b : Nat} (hb : b < w.heap.size) (hne : v.ownBlock ≠ some b) : v'.ownBlock ≠ some b := by
  rcases h.o with e | ⟨j, e, hj⟩
  · rw [e]; exact hne
  · rw [e]; intro e'; injection e' with e'; omega

set_option maxRecDepth 100000 in
/-- fixed, from nothing or what is the call's own on. -/
theorem fix_any (base : Nat) (v : Value) (l : List UInt8) (n k : Nat) (w : World) (hn : n < 18446744073709551616) (hk : k ≤ 8) (hl : l.length ≤ 1000000) (ho : Own w base v l) (hbase : base ≤ w.heap.size) :
    Calls Tryz.prog 143 #[v, .int .u64 n, .int .i64 k] w fun e w' => ∃ v', e = .returned v' ∧ Own w' base v' (l ++ Rc.le k n) ∧ Grown w w' v v' := by
  have HO := hide ho
  clear ho
  go_enter Tryz.func143, Tryz.ntmps143
  go_wp2_with fail
  go_loopw [0, 1, 8] (fun u m i wr => ∃ j : Nat, j ≤ k ∧ i = .int .i64 j ∧ m = .int .u64 ((n / 256 ^ j : Nat) : Int) ∧ Own wr base u (l ++ Rc.le j n) ∧ Grown w wr v u) (fun _ _ i _ => k - (intOf i).toNat)
  case atStart => exact ⟨0, Nat.zero_le _, rfl, by simp, by simpa [Rc.le] using HO.out, Grown.refl _ _⟩
  case round =>
    obtain ⟨j, hj, rfl, rfl, ho, hb⟩ := hrel
    by_cases hlt : j < k
    · have hm : n / 256 ^ j < 18446744073709551616 := Nat.lt_of_le_of_lt (Nat.div_le_self _ _) hn
      have HS : Hid (l ++ Rc.le (j + 1) n = (l ++ Rc.le j n) ++ [UInt8.ofNat (n / 256 ^ j)]) := by
        show _ = _
        rw [Rc.le_snoc, List.append_assoc]
      have HD : Hid (n / 256 ^ (j + 1) = n / 256 ^ j / 256) := by
        show _ = _
        rw [Nat.pow_succ, Nat.div_div_eq_div_mul]
      have hll : (l ++ Rc.le j n).length ≤ 1000008 := by rw [List.length_append, Rc.le_len]; omega
      have HOJ := hide ho
      have HBJ := hide hb
      have HZ : Hid (w.heap.size ≤ wr.heap.size) := hide hb.size
      clear ho hb
      have hmod := mod256n (n / 256 ^ j)
      generalize n / 256 ^ j = m at *
      generalize l ++ Rc.le j n = pre at *
      generalize UInt8.ofNat m = c at *
      go_wp2_with (at_builtin; refine wpList_app (w := wr.alloc _) rfl (.tmp 10) (.tmp 13) rfl base _ pre [c] rfl (HOJ.out.alloc _) _ 1 1 rfl rfl (Reads.made _ _ _ _ _ _ rfl rfl) (by simp; omega) (by have := HZ.out; simp; omega) ?_; intro v3 w3 hown3 hg3 hv3)
      go_roundw
      case rel =>
        refine ⟨j + 1, by omega, by go_num, ?_, ?_, ?_⟩
        · rw [HD.out]; go_num
        · rw [HS.out]; exact hown3
        · exact HBJ.out.trans ((Grown.of_below (balloc (Below.refl _ _) _) _).trans (Grown.app hg3 hv3))
      case measure => simp [intOf]; omega
    · obtain rfl : j = k := by omega
      go_wp2_with fail
      go_ret
      exact ⟨_, rfl, ho, hb⟩
end Go.Proofs.YtcmgppacipdnaaaGreatDoor

namespace Go.Proofs.YtcmgppacipdnaaaGreatDoor
open Go.RowKit

theorem SentsOn.alloc {S : Nat → Prop} {w : World} {p : Nat → Addr} (h : SentsOn S w p) (o : Obj) : SentsOn S (w.alloc o) p := h.below (balloc (Below.refl _ _) o)
theorem err_cell {w : World} {p : Nat → Addr} (h : Sents2 w p) : w.cell? ⟨3, 0, none⟩ = some (.iface 297 (.pointer (some (p 4)))) := h.cell 4 (by omega)

set_option maxRecDepth 100000 in
set_option maxHeartbeats 1000000 in
theorem valid_many (base epoch : Int) (n : Nat) (A : Option Addr) (cap : Nat) (w : World) (p : Nat → Addr) (hs : Sents2 w p) (hm : n ≤ 9223372036854775807) (hn : n = 0 ∨ 64 < n) :
    Calls Tryz.prog 59 #[batV base epoch A n cap] w fun e w' => e = .returned (errV (p 3)) ∧ Below w.heap.size w w' := by
  have e0 := (hs.alloc (.cells #[.int .i64 base, .int .i64 epoch, .slice A n cap] 36)).cell 3 (by omega)
  change (w.alloc _).cell? ⟨5, 0, none⟩ = _ at e0
  clear hs
  unfold errV at *
  rcases hn with rfl | hn
  · go_enter Tryz.func59, Tryz.ntmps59
    go_wp2_with fail
    go_ret
    exact ⟨rfl, balloc (Below.refl _ _) _⟩
  · go_enter Tryz.func59, Tryz.ntmps59
    go_wp2_with fail
    go_ret
    exact ⟨rfl, balloc (Below.refl _ _) _⟩

set_option maxRecDepth 100000 in
set_option maxHeartbeats 1000000 in
theorem valid_range (ba ep : Int) (n : Nat) (A : Option Addr) (cap : Nat) (w : World) (p : Nat → Addr) (hb1 : -9223372036854775808 ≤ ba ∧ ba ≤ 9223372036854775807) (hs : Sents2 w p) (hn0 : n ≠ 0) (hn1 : n ≤ 64) (hr : ba < 0 ∨ 1099511627776 < ba + n ∨ ep < 0 ∨ 1073741824 < ep) :
    Calls Tryz.prog 59 #[batV ba ep A n cap] w fun e w' => e = .returned (errV (p 4)) ∧ Below w.heap.size w w' := by
  have hs0 := hs.alloc (.cells #[.int .i64 ba, .int .i64 ep, .slice A n cap] 36)
  have e0 := err_cell hs0
  have HS0 := hide hs0
  have hbb : Below w.heap.size w (w.alloc (.cells #[.int .i64 ba, .int .i64 ep, .slice A n cap] 36)) := balloc (Below.refl _ _) _
  have HB0 := hide hbb
  have q1 : ((n : Int) == 0) = false := by simp; omega
  have q2 : decide ((64 : Int) < (n : Int)) = false := by simp; omega
  clear hs hs0 hn0 hbb
  unfold errV at *
  by_cases hw1 : 0 ≤ ba ∧ ba ≤ 1099511627776
  · have HN := hide (fun W => next_bat ba ep A n cap W (by omega) (by omega))
    have hd1 : decide (0 ≤ ba ∧ ba ≤ 1099511627776) = true := by simp [hw1]
    by_cases hw2 : 1099511627776 < ba + n
    · have hd2 : decide (1099511627776 < ba + n) = true := by simp [hw2]
      clear hr hw1 hw2 hb1
      go_enter Tryz.func59, Tryz.ntmps59
      go_wp2_with (go_at_call 104; refine (within_any _ _ _ _).mono ?_; rintro e w1 ⟨rfl, rfl⟩; rw [hd1])
      refine (HN.out _).mono ?_
      rintro e w1 ⟨rfl, hb2⟩
      have e1 := err_cell (HS0.out.below hb2)
      have HB2 := hide (HB0.out.trans (hb2.mono HB0.out.size))
      clear hb2
      go_wp2_with fail
      go_ret
      exact ⟨rfl, HB2.out⟩
    · have hd2 : decide (1099511627776 < ba + n) = false := by simp; omega
      have hd3 : decide (0 ≤ ep ∧ ep ≤ 1073741824) = false := by simp; omega
      clear hr hw1 hw2 hb1
      go_enter Tryz.func59, Tryz.ntmps59
      go_wp2_with (go_at_call 104; refine (within_any _ _ _ _).mono ?_; rintro e w1 ⟨rfl, rfl⟩; rw [hd1])
      refine (HN.out _).mono ?_
      rintro e w1 ⟨rfl, hb2⟩
      have hc : ∀ k, w1.cell? ⟨w.heap.size, k, none⟩ = (w.alloc (.cells #[.int .i64 ba, .int .i64 ep, .slice A n cap] 36)).cell? ⟨w.heap.size, k, none⟩ := fun k => hb2.cell (p := ⟨w.heap.size, k, none⟩) (by simp)
      have hc1 : w1.cell? ⟨w.heap.size, 1, none⟩ = some (.int .i64 ep) := by rw [hc, World.cell?_alloc_mark]; rfl
      have e1 := err_cell (HS0.out.below hb2)
      have HB2 := hide (HB0.out.trans (hb2.mono HB0.out.size))
      clear hb2 hc
      go_wp2_with (go_at_call 104; refine (within_any _ _ _ _).mono ?_; rintro e w1 ⟨rfl, rfl⟩; rw [hd3])
      go_ret
      exact ⟨rfl, HB2.out⟩
  · have hd1 : decide (0 ≤ ba ∧ ba ≤ 1099511627776) = false := by simp; omega
    clear hr hw1 hb1
    go_enter Tryz.func59, Tryz.ntmps59
    go_wp2_with (go_at_call 104; refine (within_any _ _ _ _).mono ?_; rintro e w1 ⟨rfl, rfl⟩; rw [hd1])
    go_ret
    exact ⟨rfl, HB0.out⟩

theorem all_take_succ (rs : List Rc.Rec) (k : Nat) (h : k < rs.length) : (rs.take (k + 1)).all Rc.recOk = ((rs.take k).all Rc.recOk && Rc.recOk (rs.getD k default)) := by
  rw [List.take_succ_eq_append_getElem h, List.all_append]
  simp [List.getD, h]

set_option maxRecDepth 100000 in
set_option maxHeartbeats 1000000 in
theorem valid_recs (ba ep : Int) (rs : List Rc.Rec) (A : Option Addr) (cap : Nat) (w : World) (p : Nat → Addr) (hrec : Recs w A rs) (hs : Sents2 w p) (hn0 : rs.length ≠ 0) (hn1 : rs.length ≤ 64) (hw : 0 ≤ ba) (hw2 : ba + rs.length ≤ 1099511627776) (he : 0 ≤ ep ∧ ep ≤ 1073741824) :
    Calls Tryz.prog 59 #[batV ba ep A rs.length cap] w fun e w' => e = .returned (errOf p (if rs.all Rc.recOk = false then 105 else 0)) ∧ Below w.heap.size w w' := by
  generalize hV : errOf p (if rs.all Rc.recOk = false then 105 else 0) = V
  have HV := hide hV.symm
  clear hV
  have hs0 := hs.alloc (.cells #[.int .i64 ba, .int .i64 ep, .slice A rs.length cap] 36)
  have HS0 := hide hs0
  have hbb : Below w.heap.size w (w.alloc (.cells #[.int .i64 ba, .int .i64 ep, .slice A rs.length cap] 36)) := balloc (Below.refl _ _) _
  have HB0 := hide hbb
  have HR := hide hrec
  have HS := hide hs
  have q1 : ((rs.length : Int) == 0) = false := by rw [beq_eq_false_iff_ne]; omega
  have q2 : decide ((64 : Int) < (rs.length : Int)) = false := by simp; omega
  have HN := hide (fun W => next_bat ba ep A rs.length cap W (by omega) (by omega))
  have hd1 : decide (0 ≤ ba ∧ ba ≤ 1099511627776) = true := decide_eq_true (by omega)
  have hd2 : decide (1099511627776 < ba + rs.length) = false := by simp; omega
  have hd3 : decide (0 ≤ ep ∧ ep ≤ 1073741824) = true := by simp [he]
  clear hs hs0 hn0 hbb hrec hw hw2 he
  go_enter Tryz.func59, Tryz.ntmps59
  go_wp2_with (go_at_call 104; refine (within_any _ _ _ _).mono ?_; rintro e w1 ⟨rfl, rfl⟩; rw [hd1])
  refine (HN.out _).mono ?_
  rintro e w1 ⟨rfl, hb2⟩
  have hc : ∀ k, w1.cell? ⟨w.heap.size, k, none⟩ = (w.alloc (.cells #[.int .i64 ba, .int .i64 ep, .slice A rs.length cap] 36)).cell? ⟨w.heap.size, k, none⟩ := fun k => hb2.cell (p := ⟨w.heap.size, k, none⟩) (by simp)
  have hc1 : w1.cell? ⟨w.heap.size, 1, none⟩ = some (.int .i64 ep) := by rw [hc, World.cell?_alloc_mark]; rfl
  have hc2 : w1.cell? ⟨w.heap.size, 2, none⟩ = some (.slice A rs.length cap) := by rw [hc, World.cell?_alloc_mark]; rfl
  have HB2 := hide (HB0.out.trans (hb2.mono HB0.out.size))
  clear hb2 hc
  go_wp2_with (go_at_call 104; refine (within_any _ _ _ _).mono ?_; rintro e w1 ⟨rfl, rfl⟩; rw [hd3])
  go_loopw [35] (fun i wr => ∃ k : Nat, k ≤ rs.length ∧ i = .int .i64 k ∧ (rs.take k).all Rc.recOk = true ∧ Below w.heap.size w wr) (fun i _ => rs.length - (intOf i).toNat)
  case atStart => exact ⟨0, Nat.zero_le _, rfl, by simp, HB2.out⟩
  case round =>
    obtain ⟨k, hk, rfl, hok, hb⟩ := hrel
    have HBK := hide hb
    have HOK := hide hok
    clear hb hok
    by_cases hlt : k < rs.length
    · rcases HR.out with h0 | ⟨b, off, rfl, hb0, hcl⟩
      · rw [h0] at hlt; simp at hlt
      obtain ⟨Ak, ck, Av, cv, c0, c1, c2, ha, hv⟩ := (hcl k hlt).ex
      have d0 := (HBK.out.cell (p := ⟨b, off + k * 3, none⟩) hb0).trans c0
      have d1 := (HBK.out.cell (p := ⟨b, off + k * 3 + 1, none⟩) hb0).trans c1
      have d2 := (HBK.out.cell (p := ⟨b, off + k * 3 + 2, none⟩) hb0).trans c2
      have HAS := hide (all_take_succ rs k hlt)
      have HMEM : Hid (rs.getD k default ∈ rs) := by
        show _ ∈ _
        rw [show rs.getD k default = rs[k] from by simp [List.getD, hlt]]; exact List.getElem_mem hlt
      have hmk := Nat.le_trans ha.le ha.max
      have hmv := Nat.le_trans hv.le hv.max
      clear hcl c0 c1 c2 ha hv
      generalize rs.getD k default = x at *
      obtain ⟨t, ky, vl⟩ := x
      simp only at d0 d1 d2 hmk hmv
      have e1 := err_cell ((HS.out.below HBK.out).alloc (.cells #[.int .i64 t, .slice Ak ky.length ck, .slice Av vl.length cv] 80))
      have HBN := hide (balloc HBK.out (.cells #[.int .i64 t, .slice Ak ky.length ck, .slice Av vl.length cv] 80))
      by_cases hbad : Rc.recOk ⟨t, ky, vl⟩ = true
      · have HN1 : Hid ((rs.take (k + 1)).all Rc.recOk = true) := by
          show _ = _
          rw [HAS.out, HOK.out, hbad]; rfl
        simp only [Rc.recOk, decide_eq_true_eq] at hbad
        have hd4 : decide (-1099511627776 ≤ t ∧ t ≤ 1099511627776) = true := by simp; omega
        have hd5 : decide ((64 : Int) < (ky.length : Int)) = false := by simp; omega
        have hd6 : decide ((512 : Int) < (vl.length : Int)) = false := by simp; omega
        clear hbad HAS HMEM
        go_wp2_with (go_at_call 104; refine (within_any _ _ _ _).mono ?_; rintro e w1 ⟨rfl, rfl⟩; rw [hd4])
        go_roundw
        case rel => exact ⟨k + 1, by omega, by go_num, HN1.out, HBN.out⟩
        case measure => simp [intOf]; omega
      · have HE : Hid (V = .iface 297 (.pointer (some (p 4)))) := by
          show _ = _
          have : rs.all Rc.recOk = false := by
            rw [List.all_eq_false]
            exact ⟨_, HMEM.out, hbad⟩
          rw [HV.out, if_pos this]; rfl
        simp only [Rc.recOk, decide_eq_true_eq] at hbad
        clear HAS HMEM
        by_cases ht : -1099511627776 ≤ t ∧ t ≤ 1099511627776
        · have hd4 : decide (-1099511627776 ≤ t ∧ t ≤ 1099511627776) = true := by simp [ht]
          by_cases hkl : 64 < ky.length
          · have hd5 : decide ((64 : Int) < (ky.length : Int)) = true := by simp; omega
            clear hbad ht
            go_wp2_with (go_at_call 104; refine (within_any _ _ _ _).mono ?_; rintro e w1 ⟨rfl, rfl⟩; rw [hd4])
            go_ret
            exact ⟨HE.out.symm ▸ rfl, HBN.out⟩
          · have hd5 : decide ((64 : Int) < (ky.length : Int)) = false := by simp; omega
            have hd6 : decide ((512 : Int) < (vl.length : Int)) = true := by simp; omega
            clear hbad ht
            go_wp2_with (go_at_call 104; refine (within_any _ _ _ _).mono ?_; rintro e w1 ⟨rfl, rfl⟩; rw [hd4])
            go_ret
            exact ⟨HE.out.symm ▸ rfl, HBN.out⟩
        · have hd4 : decide (-1099511627776 ≤ t ∧ t ≤ 1099511627776) = false := by simp; omega
          clear hbad ht
          go_wp2_with (go_at_call 104; refine (within_any _ _ _ _).mono ?_; rintro e w1 ⟨rfl, rfl⟩; rw [hd4])
          go_ret
          exact ⟨HE.out.symm ▸ rfl, HBN.out⟩
    · obtain rfl : k = rs.length := by omega
      have HE : Hid (V = .nilIface) := by
        show _ = _
        have := HOK.out
        rw [List.take_length] at this
        rw [HV.out, this]; rfl
      go_wp2_with fail
      go_ret
      exact ⟨HE.out.symm ▸ rfl, HBK.out⟩

theorem valid_any (b : Rc.Bat) (A : Option Addr) (cap n : Nat) (w : World) (p : Nat → Addr) (h : IsBat w A cap b) (hs : Sents2 w p) (hn : b.recs.length = n) :
    Calls Tryz.prog 59 #[batV b.base b.epoch A n cap] w fun e w' => e = .returned (errOf p (Rc.bad b)) ∧ Below w.heap.size w w' := by
  subst hn
  have hm := Nat.le_trans h.le h.max
  unfold Rc.bad
  by_cases h1 : b.recs.length = 0 ∨ 64 < b.recs.length
  · rw [if_pos h1]
    exact valid_many b.base b.epoch b.recs.length A cap w p hs hm h1
  · rw [if_neg h1]
    by_cases h2 : b.base < 0 ∨ 1099511627776 < b.base + b.recs.length ∨ b.epoch < 0 ∨ 1073741824 < b.epoch
    · rw [if_pos (by
        rcases h2 with hh | hh | hh | hh
        · exact .inl hh
        · exact .inr (.inl hh)
        · exact .inr (.inr (.inl hh))
        · exact .inr (.inr (.inr (.inl hh))))]
      exact valid_range b.base b.epoch b.recs.length A cap w p h.base hs (by omega) (by omega) h2
    · refine (valid_recs b.base b.epoch b.recs A cap w p h.recs hs (by omega) (by omega) (by omega) (by omega) (by omega)).mono fun e w' ⟨he, hb⟩ => ⟨?_, hb⟩
      rw [he]
      by_cases h3 : b.recs.all Rc.recOk = false
      · rw [if_pos h3, if_pos (.inr (.inr (.inr (.inr h3))))]
      · rw [if_neg h3, if_neg (fun hh => by
          rcases hh with hh | hh | hh | hh | hh
          · exact h2 (.inl hh)
          · exact h2 (.inr (.inl hh))
          · exact h2 (.inr (.inr (.inl hh)))
          · exact h2 (.inr (.inr (.inr hh)))
          · exact h3 hh)]
end Go.Proofs.YtcmgppacipdnaaaGreatDoor
