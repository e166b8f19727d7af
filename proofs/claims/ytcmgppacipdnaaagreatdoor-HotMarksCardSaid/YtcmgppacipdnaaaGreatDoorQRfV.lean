/-
  The walks through the reference's Right, RightEpoch, RightTime and Valid.
  The reference's Next and Size.
  What a read of batches is to tell: the statements' own want.
  A Read's limit, plainly: what it is told is as many batches as go within the limit, but the first; with a greater limit more.
  What a Read of a segment gives is what the statements' own want says, plainly.
  Plain facts: what a turned bit, a turned byte and a burst do to a sum. Nothing of any program is named here.
  An index as bytes, plainly: laid, and read back.
  An index's bytes are read as it, and what is read is of just those bytes: plainly.
  What holds of every index: its numbers, its marks rise.
  The walk through package crc's Seal.
-/
import Derived.Test.YtcmgppacipdnaaaGreatDoorQRcV
import Derived.Test.YtcmgppacipdnaaaGreatDoorQRfB
import Derived.Test.YtcmgppacipdnaaaGreatDoorQSgN
import Derived.Test.YtcmgppacipdnaaaGreatDoorQHtS
import Derived.Test.YtcmgppacipdnaaaGreatDoorQRMake
import Derived.Test.YtcmgppacipdnaaaGreatDoorQTable
import Derived.Test.YtcmgppacipdnaaaGreatDoorQIxP
import Derived.Test.YtcmgppacipdnaaaGreatDoorQVi
import Derived.Outline
namespace Go.Proofs.YtcmgppacipdnaaaGreatDoor
open Go.RowKit

end Go.Proofs.YtcmgppacipdnaaaGreatDoor

namespace Go.Proofs.YtcmgppacipdnaaaGreatDoor
open Go.RowKit

end Go.Proofs.YtcmgppacipdnaaaGreatDoor

namespace Go.Proofs.YtcmgppacipdnaaaGreatDoor
open Go.RowKit Go.Maps

/-- The cells of a row that is not empty. -/
theorem BRow.at_ {w : World} {lo : Nat} {A : Option Addr} {n c : Nat} {qs : List PBat} (h : BRow w lo (.slice A n c) qs) (hne : 0 < qs.length) :
    ∃ g, A = some ⟨g, 0, none⟩ ∧ n = qs.length ∧ g < w.heap.size ∧ ∀ k (hk : k < qs.length), w.cell? ⟨g, k * 3, none⟩ = some (.int .i64 qs[k].b.base) ∧ w.cell? ⟨g, k * 3 + 1, none⟩ = some (.int .i64 qs[k].b.epoch) ∧ w.cell? ⟨g, k * 3 + 2, none⟩ = some (.slice qs[k].A qs[k].b.recs.length qs[k].c) := by
  rcases h.own.2 with ⟨e, h0⟩ | ⟨g, cap, cur, e, hg, hh, hn, hm, hs, ht⟩
  · omega
  · injection e with e1 e2 e3
    refine ⟨g, e1, e2, ?_, fun k hk => ?_⟩
    · rcases Nat.lt_or_ge g w.heap.size with h | h
      · exact h
      · rw [Array.getElem?_eq_none h] at hh; cases hh
    · have hcells : ∀ j u, j < 3 → (qs[k].cells)[j]? = some u → w.cell? ⟨g, k * 3 + j, none⟩ = some u := by
        intro j u hj hu
        have h1 : (qs.flatMap PBat.cells)[k * 3 + j]? = some u := by
          have e1 : qs.flatMap PBat.cells = (qs.take k).flatMap PBat.cells ++ (qs[k].cells ++ (qs.drop (k + 1)).flatMap PBat.cells) := by
            conv => lhs; rw [← List.take_append_drop k qs, List.drop_eq_getElem_cons hk]
            rw [List.flatMap_append, List.flatMap_cons]
          have e2 : ((qs.take k).flatMap PBat.cells).length = k * 3 := by rw [bcells_len, List.length_take]; congr 1; omega
          rw [e1, List.getElem?_append_right (by rw [e2]; omega), e2, Nat.add_sub_cancel_left, List.getElem?_append_left (by rw [PBat.cells_len]; exact hj)]
          exact hu
        have h2 := h.own.cells (g := g) (by rw [e1]; rfl) _ _ h1
        rw [show (⟨g, 0, none⟩ : Addr).add (k * 3 + j) = ⟨g, k * 3 + j, none⟩ from by rw [Addr.add_lit]; congr 1; omega] at h2
        exact h2
      exact ⟨hcells 0 _ (by omega) rfl, hcells 1 _ (by omega) rfl, hcells 2 _ (by omega) rfl⟩

end Go.Proofs.YtcmgppacipdnaaaGreatDoor

namespace Go.Proofs.YtcmgppacipdnaaaGreatDoor
namespace Sg
theorem exists_cut (P : Nat → Bool) : ∀ n, (∀ i j, i ≤ j → j < n → P i = true → P j = true) → ∃ k, k ≤ n ∧ (∀ i, i < k → P i = false) ∧ ∀ i, k ≤ i → i < n → P i = true := by
  intro n
  induction n with
  | zero => intro _; exact ⟨0, Nat.le_refl _, fun i hi => by omega, fun i _ hi => by omega⟩
  | succ n ih =>
    intro hm
    obtain ⟨k, hk, h1, h2⟩ := ih fun i j hij hj => hm i j hij (by omega)
    by_cases hkn : k < n
    · refine ⟨k, by omega, h1, fun i hi hin => ?_⟩
      by_cases e : i = n
      · subst e; exact hm k i hi (by omega) (h2 k (Nat.le_refl _) hkn)
      · exact h2 i hi (by omega)
    · obtain rfl : k = n := by omega
      cases hP : P k with
      | true => exact ⟨k, by omega, h1, fun i hi hin => by obtain rfl : i = k := (by omega); exact hP⟩
      | false => exact ⟨k + 1, Nat.le_refl _, fun i hi => by
          by_cases e : i = k
          · subst e; exact hP
          · exact h1 i (by omega), fun i hi hin => by omega⟩
/-- Of a test that holds from some edge on: of the edges that are counted it does not hold. -/
theorem cnt_lt (l : List Edge) (P : Edge → Bool) (hm : ∀ i j, i ≤ j → j < l.length → P (ed l i) = true → P (ed l j) = true) (i : Nat) (hi : i < cnt l P) : P (ed l i) = false := by
  obtain ⟨k, hk, h1, h2⟩ := exists_cut (fun i => P (ed l i)) l.length hm
  have e := cnt_eq l P k hk h1 h2
  exact h1 i (by omega)
end Sg
/-- The bytes of what lies between two edges. -/
theorem flat_mid (bs : List Rc.Bat) (i j : Nat) (hij : i ≤ j) : (((bs.drop i).take (j - i)).flatMap Rc.bytes).length + ((bs.take i).flatMap Rc.bytes).length = ((bs.take j).flatMap Rc.bytes).length := by
  have e1 : bs.take j = bs.take i ++ (bs.drop i).take (j - i) := by
    conv => lhs; rw [show j = i + (j - i) by omega, List.take_add]
  rw [e1, List.flatMap_append, List.length_append]
  omega
section
variable {d : Dk.St} {s s0 : Sg.St} {room used : Int} {names : Dk.Dir} {x : Nat} {bs : List Rc.Bat}
/-- Beside the first no more than the limit. -/
theorem Md.within (h : Md d s room used names s0 x bs) (most : Int) (k n fin : Nat) (hk : k < bs.length) (hfin : (fin : Int) = max ((k : Int) + 1) (((Sg.cnt s.edges (fun e => decide (most < e.pos - ((Sg.ed s.edges (k + 1)).pos - n)))) : Int) - 1)) (hfl : fin ≤ bs.length) :
    fin = k + 1 ∨ (n : Int) + ((((bs.drop (k + 1)).take (fin - (k + 1))).flatMap Rc.bytes).length : Nat) ≤ most := by
  by_cases h1 : fin = k + 1
  · exact .inl h1
  · refine .inr ?_
    have hlt := Sg.cnt_lt s.edges (fun e => decide (most < e.pos - ((Sg.ed s.edges (k + 1)).pos - n))) (fun i j hij hj hp => by
      have hm : (Sg.ed s.edges i).pos ≤ (Sg.ed s.edges j).pos := by
        have e := h.seg
        subst e
        exact Sg.pos_mono s0 h.one h.zero bs i j hij hj
      have hp' := of_decide_eq_true hp
      exact decide_eq_true (by omega)) fin (by omega)
    have hle := of_decide_eq_false hlt
    have e := h.seg
    subst e
    rw [Sg.ed_pos s0 h.one h.zero bs fin hfl, Sg.ed_pos s0 h.one h.zero bs (k + 1) (by omega)] at hle
    have hf := flat_mid bs (k + 1) fin (by omega)
    omega
end
end Go.Proofs.YtcmgppacipdnaaaGreatDoor

namespace Go.Proofs.YtcmgppacipdnaaaGreatDoor
open Go.RowKit

namespace Rw
theorem goB_ok (zs : List Int) : ∀ (at_ : Int) (i ev : Nat), 0 ≤ at_ → at_ + 5 * zs.length ≤ 1099511627776 → i + zs.length ≤ 100 → ∀ b ∈ go at_ i ev zs, Rc.Good b ∧ b.recs.length ≤ 5 ∧ ∀ r ∈ b.recs, r.k.length ≤ 64 ∧ r.v.length ≤ 512 := by
  induction zs with
  | nil => intro at_ i ev _ _ _ b hb; simp [go] at hb
  | cons z zs ih =>
    intro at_ i ev h0 h1 h2 b hb
    have hm := many_bd z
    rw [List.length_cons] at h1 h2
    rcases List.mem_cons.1 hb with rfl | hb
    · have hl : (bt at_ i ev z).recs.length = many z := by simp [bt]
      have hr : ∀ r ∈ (bt at_ i ev z).recs, -1099511627776 ≤ r.t ∧ r.t ≤ 1099511627776 ∧ r.k.length ≤ 64 ∧ r.v.length ≤ 512 := by
        intro r hr
        obtain ⟨k, hk, rfl⟩ := List.mem_map.1 hr
        have hk' := List.mem_range.1 hk
        have := kv_lt z k
        refine ⟨?_, ?_, by simp [rc], by simp [rc]; omega⟩
        · show -1099511627776 ≤ 100 * (i : Int) + (k : Int); omega
        · show 100 * (i : Int) + (k : Int) ≤ 1099511627776; omega
      have hd : i / ev ≤ i := Nat.div_le_self _ _
      refine ⟨⟨by omega, by omega, h0, ?_, ?_, ?_, hr⟩, by omega, fun r h => ⟨(hr r h).2.2.1, (hr r h).2.2.2⟩⟩
      · rw [hl]; show at_ + (many z : Int) ≤ _; omega
      · show (0 : Int) ≤ 1 + ((i / ev : Nat) : Int)
        generalize i / ev = q at *
        omega
      · show 1 + ((i / ev : Nat) : Int) ≤ _
        generalize i / ev = q at *
        omega
    · exact ih (at_ + many z) (i + 1) ev (by omega) (by omega) (by omega) b hb
end Rw

end Go.Proofs.YtcmgppacipdnaaaGreatDoor

namespace Go.Proofs.YtcmgppacipdnaaaGreatDoor.Crc

/-- Four bytes, little, as a word. -/
def word (l : List UInt8) : BitVec 32 := (l.getD 0 0).toBitVec.setWidth 32 ^^^ ((l.getD 1 0).toBitVec.setWidth 32) <<< 8 ^^^ ((l.getD 2 0).toBitVec.setWidth 32) <<< 16 ^^^ ((l.getD 3 0).toBitVec.setWidth 32) <<< 24
def rest : BitVec 32 := sts 32 (~~~0#32)
end Go.Proofs.YtcmgppacipdnaaaGreatDoor.Crc

namespace Go.Proofs.YtcmgppacipdnaaaGreatDoor.Ix
open Go.RowKit Vi

def z0 : Mark := ⟨0, 0, 0⟩
def lastFrom : Mark → List Mark → Mark
  | a, [] => a
  | _, m :: l => lastFrom m l
def stepB (a m : Mark) : List UInt8 := Vi.put (m.off - a.off).toNat ++ (Vi.put (Vi.zz (m.time - a.time)) ++ Vi.put (m.pos - a.pos).toNat)
def marksB : Mark → List Mark → List UInt8
  | _, [] => []
  | a, m :: l => stepB a m ++ marksB m l
theorem lastFrom_snoc (l : List Mark) : ∀ (a m : Mark), lastFrom a (l ++ [m]) = m := by
  induction l with
  | nil => intro a m; rfl
  | cons x l ih => intro a m; exact ih x m
theorem marksB_snoc (l : List Mark) : ∀ (a m : Mark), marksB a (l ++ [m]) = marksB a l ++ stepB (lastFrom a l) m := by
  induction l with
  | nil => intro a m; simp [marksB, lastFrom]
  | cons x l ih => intro a m; simp [marksB, lastFrom, ih]
def body (s : St) : List UInt8 := Vi.put s.every.toNat ++ (Vi.put s.marks.length ++ marksB z0 s.marks)
def bytes (s : St) : List UInt8 := body s ++ Crc.little (Crc.sum (body s))
theorem bytes_len (s : St) : (bytes s).length = (body s).length + 4 := by simp [bytes, Crc.little]

/-- Offsets and poses rise. -/
def rise (l : List Mark) : Prop := ∀ i, i + 1 < l.length → (l.getD i z0).off < (l.getD (i + 1) z0).off ∧ (l.getD i z0).pos < (l.getD (i + 1) z0).pos
def riseB (l : List Mark) : Bool := (List.range (l.length - 1)).all fun i => decide ((l.getD i z0).off < (l.getD (i + 1) z0).off) && decide ((l.getD i z0).pos < (l.getD (i + 1) z0).pos)
def okM (m : Mark) : Prop := okO m.off ∧ okT m.time ∧ okP m.pos
instance (m : Mark) : Decidable (okM m) := inferInstanceAs (Decidable (_ ∧ _))
def rightB (l : List Mark) : Bool := l.all fun m => decide (okM m)
theorem rise_tail {m : Mark} {l : List Mark} (h : rise (m :: l)) : rise l := fun i hi => by
  have := h (i + 1) (by simp; omega)
  simpa using this
theorem rise_head {m x : Mark} {l : List Mark} (h : rise (m :: x :: l)) : m.off < x.off ∧ m.pos < x.pos := by
  have := h 0 (by simp)
  simpa using this
theorem rise_snoc {l : List Mark} {m : Mark} (h : rise l) (hm : ∀ a, l.getLast? = some a → a.off < m.off ∧ a.pos < m.pos) : rise (l ++ [m]) := by
  intro i hi
  rw [List.length_append, List.length_singleton] at hi
  by_cases e : i + 1 = l.length
  · have hl : l.getLast? = some (l.getD i z0) := by
      rw [List.getLast?_eq_getElem?, show l.length - 1 = i by omega, List.getElem?_eq_getElem (by omega)]
      simp [List.getD, show i < l.length by omega]
    have := hm _ hl
    simp only [List.getD] at this ⊢
    rw [List.getElem?_append_left (by omega), List.getElem?_append_right (by omega), e, Nat.sub_self]
    simpa using this
  · have := h i (by omega)
    simp only [List.getD] at this ⊢
    rw [List.getElem?_append_left (by omega), List.getElem?_append_left (by omega)]
    exact this
/-- One mark read behind another. -/
def rstep (l : List UInt8) (s : Vi.Rs) (m : Mark) : Mark × Vi.Rs :=
  let a := Vi.num l s 1099511627776
  let b := Vi.int l a.2 (-4398046511104) 4398046511104
  let c := Vi.num l b.2 1073741824
  (⟨m.off + a.1, m.time + b.1, m.pos + c.1⟩, c.2)
def rloop (l : List UInt8) (many : Nat) : Nat → Vi.Rs → List Mark → List Mark × Vi.Rs
  | 0, s, acc => (acc, s)
  | f + 1, s, acc => if acc.length < many ∧ s.code = 0 then rloop l many f (rstep l s (lastFrom z0 acc)).2 (acc ++ [(rstep l s (lastFrom z0 acc)).1]) else (acc, s)
def head1 (l : List UInt8) : Nat × Vi.Rs := Vi.num l (fine 0) 1048576
def head2 (l : List UInt8) : Nat × Vi.Rs := Vi.num l (head1 l).2 4096
def tail (l : List UInt8) : List Mark × Vi.Rs := rloop l (head2 l).1 (head2 l).1 (head2 l).2 []
/-- What is amiss with these bytes: the error's number (0: none), and its place. -/
def fault (l : List UInt8) : Nat × Option Nat :=
  if (tail l).2.code ≠ 0 then ((tail l).2.code, (tail l).2.pos)
  else if (tail l).2.at_ < l.length then (103, some (tail l).2.at_)
  else if (riseB (tail l).1 && rightB (tail l).1) = false then (103, none)
  else if (head1 l).1 < 1 then (105, none)
  else (0, none)
def ofMarks (e : Int) (l : List Mark) : St := ⟨e, l, l.map (fun m => ⟨m.off, m.pos⟩), l.foldl (fun t m => max t m.time) (-1099511627776)⟩
def read (l : List UInt8) : St := ofMarks (head1 l).1 (tail l).1
end Go.Proofs.YtcmgppacipdnaaaGreatDoor.Ix

namespace Go.Proofs.YtcmgppacipdnaaaGreatDoor.Ix
open Go.RowKit Vi

/-- Such a mark may follow in the bytes. -/
def okStep (a m : Mark) : Prop := (0 ≤ m.off - a.off ∧ m.off - a.off ≤ 1099511627776) ∧ (-4398046511104 ≤ m.time - a.time ∧ m.time - a.time ≤ 4398046511104) ∧ (0 ≤ m.pos - a.pos ∧ m.pos - a.pos ≤ 1073741824)
def steps : Mark → List Mark → Prop
  | _, [] => True
  | a, m :: l => okStep a m ∧ steps m l
theorem steps_of : ∀ (l : List Mark) (a : Mark), okM a → (∀ m ∈ l, okM m) → (∀ m, l.head? = some m → a.off ≤ m.off ∧ a.pos ≤ m.pos) → rise l → steps a l
  | [], _, _, _, _, _ => trivial
  | m :: l, a, ha, hl, hh, hr => by
    have hm := hl m List.mem_cons_self
    have h1 := hh m rfl
    refine ⟨?_, steps_of l m hm (fun x hx => hl x (List.mem_cons_of_mem _ hx)) (fun x hx => ?_) (rise_tail hr)⟩
    · unfold okM okO okT okP at ha hm
      unfold okStep
      omega
    · cases l with
      | nil => cases hx
      | cons y l =>
        cases hx
        have := rise_head hr
        omega
theorem okM_z0 : okM z0 := ⟨⟨by show (0 : Int) ≤ 0; omega, by show (0 : Int) ≤ 1099511627776; omega⟩, ⟨by show (-1099511627776 : Int) ≤ 0; omega, by show (0 : Int) ≤ 1099511627776; omega⟩, ⟨by show (0 : Int) ≤ 0; omega, by show (0 : Int) ≤ 1073741824; omega⟩⟩
theorem steps_z0 {l : List Mark} (h : ∀ m ∈ l, okM m) (hr : rise l) : steps z0 l :=
  steps_of l z0 okM_z0 h (fun m hm => by
    have := h m (List.mem_of_mem_head? hm)
    exact ⟨this.1.1, this.2.2.1⟩) hr

end Go.Proofs.YtcmgppacipdnaaaGreatDoor.Ix

namespace Go.Proofs.YtcmgppacipdnaaaGreatDoor.Ix

structure Inv0 (s : St) : Prop where
  ok : Ok s
  rise : rise s.marks
  last : ∀ m, s.marks.getLast? = some m → ∃ a, s.adds.getLast? = some a ∧ m.off ≤ a.off ∧ m.pos ≤ a.pos
theorem Inv0.new (e : Int) (h : 1 ≤ e ∧ e ≤ 1048576) : Inv0 (new e) :=
  ⟨Ok.new e h, fun i hi => absurd hi (by show ¬ i + 1 < 0; omega), fun m hm => (by cases hm)⟩
theorem Inv0.put {s : St} (h : Inv0 s) {o t p z : Int} (hg : good s o t p z) : Inv0 (put s o t p) := by
  obtain ⟨h1, h2, h3, h4, h5⟩ := hg
  have hlast : ∀ m, s.marks.getLast? = some m → m.off < o ∧ m.pos < p := fun m hm => by
    obtain ⟨a, ha, h6, h7⟩ := h.last m hm
    have := h5 a ha
    omega
  refine ⟨h.ok.put o t p h1 h2 h4, ?_, fun m hm => ?_⟩
  · unfold Ix.put
    simp only
    split
    · exact rise_snoc h.rise hlast
    · exact h.rise
  · refine ⟨⟨o, p⟩, by simp [Ix.put], ?_⟩
    unfold Ix.put at hm
    simp only at hm
    split at hm
    · rw [List.getLast?_append] at hm
      simp at hm
      subst hm
      exact ⟨Int.le_refl _, Int.le_refl _⟩
    · have := hlast m hm
      exact ⟨by show m.off ≤ o; omega, by show m.pos ≤ p; omega⟩
theorem Inv0.add {s : St} (h : Inv0 s) (o t p z : Int) : Inv0 (add s o t p z).2 := by
  unfold Ix.add
  split
  · rename_i hg; exact h.put hg
  · exact h
theorem Inv0.steps {s : St} (h : Inv0 s) : steps z0 s.marks := steps_z0 h.ok.marks h.rise
end Go.Proofs.YtcmgppacipdnaaaGreatDoor.Ix

namespace Go.Proofs.YtcmgppacipdnaaaGreatDoor
open Go.RowKit Crc
attribute [local go_sem] BtoNat x32 n32 x8 and8_15 mod256 wrap8 xs32 Bd16toNat mul2

theorem div16b (c : BitVec 32) : U c / (65536 : Int) = U (c >>> 16) := by
  unfold U; rw [BitVec.toNat_ushiftRight, Nat.shiftRight_eq_div_pow]; simp
theorem div24b (c : BitVec 32) : U c / (16777216 : Int) = U (c >>> 24) := by
  unfold U; rw [BitVec.toNat_ushiftRight, Nat.shiftRight_eq_div_pow]; simp
theorem little_cells (c : BitVec 32) : (cells (little c)).toArray = #[.int .u8 (B (u8 c)), .int .u8 (U c / 256 % 256), .int .u8 (U c / 65536 % 256), .int .u8 (U c / 16777216)] := by
  have h := U_hi c
  have h0 := U_lo c
  have e : U c / 16777216 = U c / 16777216 % 256 := by omega
  rw [e, div256, div16b, div24b, mod256, mod256, mod256]; rfl

set_option maxRecDepth 100000 in
set_option maxHeartbeats 400000 in
theorem seal_any (A : Option Addr) (cap n : Nat) (l : List UInt8) (w : World) (hn : l.length = n) (hl : n ≤ 1000000) (hr : Reads w A l) (ht : Tabs w) (hw : 4 ≤ w.heap.size) :
    Calls Tryz.prog 135 #[.slice A n cap] w fun e w' => ∃ v, e = .returned v ∧ Own w' w.heap.size v (l ++ little (sum l)) ∧ Below w.heap.size w w' := by
  have HR := hide hr
  have HT := hide ht
  have HN := hide hn
  clear hr ht hn
  go_enter Tryz.func135, Tryz.ntmps135
  go_wp2_with (first
    | (at_make; refine wpList_mk rfl (.tmp 6) (.tmp 9) rfl n (n + 4) _ _ rfl rfl rfl (by omega) (by omega) (by omega) ?_; intro w1 hown1 hb1 hs1)
    | (refine wpList_cp (o := ⟨some 13, _, _, _, _, _⟩) rfl (.tmp 11) (.tmp 12) rfl w.heap.size _ l _ _ _ rfl hown1 A n cap rfl HN.out (HR.out.below hb1 (Nat.le_refl _)) ?_; intro w2 hown2 hg2 hs2))
  have hb2 : Below w.heap.size w w2 := hb1.grown hg2 (by omega) (by intro k hk; simp [Value.ownBlock] at hk; omega)
  have hz : w.heap.size < w2.heap.size := by omega
  have HB2 := hide hb2
  have HH : Hid (w1.heap.size = w.heap.size + 1 ∧ w2.heap.size = w1.heap.size) := ⟨hs1, hs2⟩
  have hown2' : Own w2 w.heap.size (.slice (some ⟨w.heap.size, 0, none⟩) n (n + 4)) l := by
    have e1 : l.take (List.replicate n (0 : UInt8)).length = l := by rw [List.length_replicate, ← HN.out, List.take_length]
    have e2 : (List.replicate n (0 : UInt8)).drop l.length = [] := by rw [HN.out]; simp
    have := hown2
    rwa [e1, e2, List.append_nil] at this
  have HO2 := hide hown2'
  clear hown1 hown2 hown2' hs1 hs2 hg2 hb2
  refine (of_at _ _ _ [⟨A, cap, l⟩] _ rfl (Nat.le_of_ble_eq_true rfl) ?_ ?_).mono ?_
  · exact readsAll_slice _ _ _ _ _ _ _ HN.out (by have := HH.out; omega) (HR.out.below HB2.out (Nat.le_refl _)) (by omega)
  · exact (HT.out.below HB2.out (Nat.le_refl _)).alloc (by omega) _
  rintro e w' ⟨rfl, k, rfl⟩
  rw [show flat [⟨A, cap, l⟩] = l from by simp [flat]]
  obtain ⟨S, hS⟩ : ∃ S, S = sum l := ⟨_, rfl⟩
  rw [← hS]
  have HS := hide hS
  clear hS
  have HC := hide (little_cells S)
  have HO := hide (little_len S)
  have d1 := U_lo S
  have d2 := U_hi S
  go_wp2_with (at_builtin; refine wpList_app (w := ((w2.alloc _).drewN k).alloc _) rfl (.tmp 17) (.tmp 29) rfl w.heap.size _ l (little S) rfl (((HO2.out.alloc _).drewN k).alloc _) _ 4 4 rfl HO.out (Reads.made _ _ _ _ _ _ (by simp) HC.out) (by rw [HN.out]; omega) (by simp; omega) ?_; intro v w3 hown3 hg3 hv3)
  go_ret
  refine ⟨v, rfl, by rw [← HS.out]; exact hown3, ?_⟩
  refine ((below_drewN (HB2.out.alloc (by omega) _) k).alloc (by simp; omega) _).grown hg3 (by simp; omega) ?_
  intro g hg
  have e : w.heap.size = g := Option.some.inj hg
  omega
end Go.Proofs.YtcmgppacipdnaaaGreatDoor
