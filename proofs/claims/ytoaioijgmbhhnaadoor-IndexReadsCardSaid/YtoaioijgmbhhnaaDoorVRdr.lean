/-
  A reader in memory: its three cells, its bytes, its error. The walk through its fail.
  What a plain reader reads of a number or a text laid there; its error at the end.
  Numbers and texts laid one behind the other, plainly; what a plain reader reads there.
  What a reader reads of bytes is what is written as just these bytes: numbers, plainly. Nothing of any program is named here.
-/
import Derived.Test.YtoaioijgmbhhnaaDoorVi
import Derived.Test.YtoaioijgmbhhnaaDoorVGet
import Derived.Test.YtoaioijgmbhhnaaDoorOwnArg
namespace Go.Proofs.YtoaioijgmbhhnaaDoor
open Go.RowKit

/-- An error with its place. -/
def atV (h : Nat) : Value := .iface 99 (.pointer (some ⟨h, 0, none⟩))
/-- What a reader's error is, by the plain reader's word. -/
def ErrIs (w : World) (p : Nat → Addr) (g : Nat) (E : Value) (s : Vi.Rs) : Prop :=
  (s.code = 0 ∧ s.pos = none ∧ E = .nilIface) ∨ (s.code = 101 ∧ s.pos = none ∧ E = errV (p 0)) ∨
  ∃ h q, (s.code = 103 ∨ s.code = 105) ∧ s.pos = some q ∧ E = atV h ∧ h ≠ g ∧ h < w.heap.size ∧ w.cell? ⟨h, 0, none⟩ = some (.int .i64 q) ∧ w.cell? ⟨h, 1, none⟩ = some (errV (p (s.code - 101)))

/-- The reader of l at block g, in the state s. -/
structure Rdr (w : World) (p : Nat → Addr) (g : Nat) (l : List UInt8) (s : Vi.Rs) : Prop where
  lt : g < w.heap.size
  free : ∀ k, w.frozen? ⟨g, k, none⟩ = false
  ok : Vi.Ok l s
  ex : ∃ A cap E, w.cell? ⟨g, 0, none⟩ = some (.slice A l.length cap) ∧ w.cell? ⟨g, 1, none⟩ = some (.int .i64 s.at_) ∧ w.cell? ⟨g, 2, none⟩ = some E ∧ Arg w A cap l ∧ (∀ b off, A = some ⟨b, off, none⟩ → b ≠ g) ∧ ErrIs w p g E s

/-- Only block g has been turned, beside new ones; not its first cell. -/
structure But (g : Nat) (w w' : World) : Prop where
  grown : w.grownBy w' (some g)
  first : g < w.heap.size → w'.cell? ⟨g, 0, none⟩ = w.cell? ⟨g, 0, none⟩
theorem But.size {g : Nat} {w w' : World} (h : But g w w') : w.heap.size ≤ w'.heap.size := h.grown.size
theorem But.block {g : Nat} {w w' : World} (h : But g w w') : ∀ k, k < w.heap.size → some k ≠ some g → w'.heap[k]? = w.heap[k]? := h.grown.block
theorem But.refl (g : Nat) (w : World) : But g w w := ⟨World.grownBy.refl w _, fun _ => rfl⟩
theorem But.trans {g : Nat} {a b c : World} (h : But g a b) (k : But g b c) : But g a c := ⟨World.grownBy.trans h.grown k.grown, fun hg => (k.first (Nat.lt_of_lt_of_le hg h.size)).trans (h.first hg)⟩
theorem But.of_below {g : Nat} {w w' : World} (h : Below w.heap.size w w') : But g w w' := ⟨⟨h.os, h.tape, h.output, h.size, fun k hk _ => h.block k hk⟩, fun hg => h.cell (p := ⟨g, 0, none⟩) hg⟩
theorem But.drewN (g : Nat) (w : World) (n : Nat) : But g w (w.drewN n) := But.of_below (below_drewN (Below.refl _ _) n)
theorem But.setCell (g k : Nat) (w : World) (v : Value) (hk : k ≠ 0 := by omega) : But g w (w.setCell ⟨g, k, none⟩ v) :=
  ⟨⟨rfl, rfl, rfl, by simp [World.setCell], fun i hi hne => Below.heap_setCell _ _ _ _ (by intro e; exact hne (by rw [e]))⟩, fun _ => World.cell?_setCell_other _ _ _ _ (by simp [hk])⟩
theorem But.cell {g : Nat} {w w' : World} (h : But g w w') {b o : Nat} (hb : b < w.heap.size) (hne : b ≠ g) : w'.cell? ⟨b, o, none⟩ = w.cell? ⟨b, o, none⟩ := by
  have := h.block b hb (by simp [hne])
  simp [World.cell?, this]
theorem But.frozen {g : Nat} {w w' : World} (h : But g w w') {b o : Nat} (hb : b < w.heap.size) (hne : b ≠ g) : w'.frozen? ⟨b, o, none⟩ = w.frozen? ⟨b, o, none⟩ := by
  have := h.block b hb (by simp [hne])
  simp [World.frozen?, this]
theorem Reads.but {g : Nat} {w w' : World} {A : Option Addr} {l : List UInt8} (h : Reads w A l) (hb : But g w w') (hne : ∀ b off, A = some ⟨b, off, none⟩ → b ≠ g) : Reads w' A l := by
  rcases h with h | ⟨b, off, e, hlt, hc⟩
  · exact .inl h
  · exact .inr ⟨b, off, e, Nat.lt_of_lt_of_le hlt hb.size, fun k hk => (hb.cell hlt (hne b off e)).trans (hc k hk)⟩
theorem Arg.but {g : Nat} {w w' : World} {A : Option Addr} {cap : Nat} {l : List UInt8} (h : Arg w A cap l) (hb : But g w w') (hne : ∀ b off, A = some ⟨b, off, none⟩ → b ≠ g) : Arg w' A cap l := ⟨h.le, h.max, h.nil, h.reads.but hb hne⟩
theorem SentsOn.but {S : Nat → Prop} {g : Nat} {w w' : World} {p : Nat → Addr} (h : SentsOn S w p) (hb : But g w w') (hg : ∀ j, S j → gs.getD j 0 ≠ g) (hp : ∀ j, S j → (p j).block ≠ g) : SentsOn S w' p :=
  ⟨fun j hj => (hb.cell (h.size j hj) (hg j hj)).trans (h.cell j hj), fun j hj => by
    obtain ⟨h1, c, t, h2⟩ := h.blk j hj
    exact ⟨Nat.lt_of_lt_of_le h1 hb.size, c, t, (hb.block _ h1 (by simp; exact hp j hj)).trans h2⟩, h.ne⟩
theorem ErrIs.but {g : Nat} {w w' : World} {p : Nat → Addr} {E : Value} {s : Vi.Rs} (h : ErrIs w p g E s) (hb : But g w w') : ErrIs w' p g E s := by
  rcases h with h | h | ⟨a, q, h1, h2, h3, h4, h5, h6, h7⟩
  · exact .inl h
  · exact .inr (.inl h)
  · exact .inr (.inr ⟨a, q, h1, h2, h3, h4, Nat.lt_of_lt_of_le h5 hb.size, (hb.cell h5 h4).trans h6, (hb.cell h5 h4).trans h7⟩)
/-- A reader stays where its own block stays. -/
theorem Rdr.below {w w' : World} {p : Nat → Addr} {g : Nat} {l : List UInt8} {s : Vi.Rs} (h : Rdr w p g l s) (hb : Below w.heap.size w w') : Rdr w' p g l s := by
  obtain ⟨A, cap, E, h0, h1, h2, ha, hne, he⟩ := h.ex
  refine ⟨Nat.lt_of_lt_of_le h.lt hb.size, fun k => (hb.frozen (p := ⟨g, k, none⟩) h.lt).trans (h.free k), h.ok, A, cap, E, (hb.cell (p := ⟨g, 0, none⟩) h.lt).trans h0, (hb.cell (p := ⟨g, 1, none⟩) h.lt).trans h1, (hb.cell (p := ⟨g, 2, none⟩) h.lt).trans h2, ha.below hb (Nat.le_refl _), hne, ?_⟩
  exact he.but (But.of_below hb)
theorem Rdr.at_set {w : World} {p : Nat → Addr} {g : Nat} {l : List UInt8} {s : Vi.Rs} (h : Rdr w p g l s) (k : Nat) (hk : s.at_ + k ≤ l.length) (hz : s.code ≠ 0 → k = 0) : Rdr (w.setCell ⟨g, 1, none⟩ (.int .i64 ((s.at_ + k : Nat) : Int))) p g l (s.on k) := by
  obtain ⟨A, cap, E, h0, h1, h2, ha, hne, he⟩ := h.ex
  have hb : But g w (w.setCell ⟨g, 1, none⟩ (.int .i64 ((s.at_ + k : Nat) : Int))) := But.setCell _ _ _ _
  refine ⟨Nat.lt_of_lt_of_le h.lt hb.size, fun j => (World.frozen?_setCell _ _ _ _).trans (h.free j), ⟨hk, ?_⟩, A, cap, E, ?_, World.cell?_setCell_same _ _ _ h1, ?_, ha.but hb hne, hne, ?_⟩
  · rcases h.ok.code with h | h | ⟨h, h'⟩
    · exact .inl h
    · exact .inr (.inl h)
    · refine .inr (.inr ⟨h, ?_⟩)
      have : k = 0 := hz (by omega)
      subst this; exact h'
  · rw [World.cell?_setCell_other _ _ _ _ (by simp)]; exact h0
  · rw [World.cell?_setCell_other _ _ _ _ (by simp)]; exact h2
  · exact he.but hb
theorem Rdr.err_set {w : World} {p : Nat → Addr} {g : Nat} {l : List UInt8} {s s' : Vi.Rs} {E : Value} (h : Rdr w p g l s) (hok : Vi.Ok l s') (hat : s'.at_ = s.at_) (he : ErrIs w p g E s') : Rdr (w.setCell ⟨g, 2, none⟩ E) p g l s' := by
  obtain ⟨A, cap, E', h0, h1, h2, ha, hne, _⟩ := h.ex
  have hb : But g w (w.setCell ⟨g, 2, none⟩ E) := But.setCell _ _ _ _
  refine ⟨Nat.lt_of_lt_of_le h.lt hb.size, fun j => (World.frozen?_setCell _ _ _ _).trans (h.free j), hok, A, cap, E, ?_, ?_, World.cell?_setCell_same _ _ _ h2, ha.but hb hne, hne, he.but hb⟩
  · rw [World.cell?_setCell_other _ _ _ _ (by simp)]; exact h0
  · rw [World.cell?_setCell_other _ _ _ _ (by simp), hat]; exact h1

theorem neq_same (a : Addr) (w : World) : (binOp .neq 26 (errV a) (errV a)).run Tryd.prog w = .ok (.bool false) w := by
  obtain ⟨ms, i, j, h1, h2, h3, h4, h5⟩ := es_facts
  unfold errV
  simp only [binOp]
  simp [Op.equal, Op.maxDepth, run_equalIn_iface_ptr_same w 9998 a h1 es_pointee h2 h3 h4]
theorem neq_other (a b : Addr) (w : World) (hne : a ≠ b) (ha : ∃ c t, w.heap[a.block]? = some (.cells c t (0, 0))) (hb : ∃ c t, w.heap[b.block]? = some (.cells c t (0, 0))) : (binOp .neq 26 (errV a) (errV b)).run Tryd.prog w = .ok (.bool true) w := by
  obtain ⟨ms, i, j, h1, h2, h3, h4, h5⟩ := es_facts
  obtain ⟨c, t, hc⟩ := ha
  obtain ⟨c', t', hc'⟩ := hb
  unfold errV
  simp only [binOp]
  simp [Op.equal, Op.maxDepth, run_equalIn_iface_ptr_other w 9998 h1 es_pointee h2 h3 h4 h5 hne hc hc']
theorem iface_nil (u : TypeId) (x : Value) (w : World) (d : Nat) : (Op.equalIn (d + 1) 26 (.iface u x) .nilIface).run Tryd.prog w = .ok false w := by
  obtain ⟨ms, i, j, h1, h2, h3, h4, h5⟩ := es_facts
  simp [Op.equalIn, run_underlying h1]
theorem neq_nil (u : TypeId) (x : Value) (w : World) : (binOp .neq 26 (.iface u x) .nilIface).run Tryd.prog w = .ok (.bool true) w := by
  simp only [binOp]
  simp [Op.equal, Op.maxDepth, iface_nil u x w 9999]
theorem eqn_nil (u : TypeId) (x : Value) (w : World) : (binOp .eql 26 (.iface u x) .nilIface).run Tryd.prog w = .ok (.bool false) w := by
  simp only [binOp]
  simp [Op.equal, Op.maxDepth, iface_nil u x w 9999]

set_option maxRecDepth 100000 in
/-- fail by the end of the bytes. -/
theorem fail_end (w : World) (p : Nat → Addr) (g : Nat) (l : List UInt8) (s : Vi.Rs) (h : Rdr w p g l s) (hs : SentsV w p) :
    Calls Tryd.prog 107 #[.pointer (some ⟨g, 0, none⟩), errV (p 0)] w fun e w' => e = .returned (.tuple #[]) ∧ Rdr w' p g l (s.fail 101) ∧ But g w w' := by
  have hset := h.err_set (h.ok.fail (c := 101) (.inl rfl)) rfl (E := errV (p 0)) (.inr (.inl ⟨rfl, rfl, rfl⟩))
  have HSET := hide hset
  obtain ⟨A, cap, E, h0, h1, h2, _⟩ := h.ex
  have hfr := h.free 2
  have hlt := h.lt
  have c0 := hs.cell 0 (by omega)
  have k1 := neq_same (p 0)
  clear h hs hset
  change w.cell? ⟨6, 0, none⟩ = some (errV (p 0)) at c0
  unfold errV at *
  go_enter Tryd.func107, Tryd.ntmps107
  go_wp2_with fail
  go_end0
  exact ⟨rfl, HSET.out, But.setCell _ _ _ _⟩

set_option maxRecDepth 100000 in
/-- fail by another error: with its place. -/
theorem fail_at (w : World) (p : Nat → Addr) (g : Nat) (l : List UInt8) (s : Vi.Rs) (k : Nat) (hk : k = 2 ∨ k = 4) (h : Rdr w p g l s) (hs : SentsV w p) :
    Calls Tryd.prog 107 #[.pointer (some ⟨g, 0, none⟩), errV (p k)] w fun e w' => e = .returned (.tuple #[]) ∧ Rdr w' p g l (s.fail (101 + k)) ∧ But g w w' := by
  have hk19 : k = 0 ∨ k = 2 ∨ k = 4 := by omega
  have hb0 : Below w.heap.size w (w.alloc (.cells #[.int .i64 s.at_, errV (p k)] 101)) := balloc (Below.refl _ _) _
  have hset := (h.below hb0).err_set (s' := s.fail (101 + k)) (h.ok.fail (c := 101 + k) (by omega)) (by unfold Vi.Rs.fail; split <;> rfl) (E := atV w.heap.size) (.inr (.inr ⟨w.heap.size, s.at_, by unfold Vi.Rs.fail; rw [if_neg (by omega)]; show 101 + k = 103 ∨ 101 + k = 105; omega, by unfold Vi.Rs.fail; rw [if_neg (by omega)], rfl, by have := h.lt; omega, by simp, by simp, by
    unfold Vi.Rs.fail; rw [if_neg (by omega)]
    simp [Nat.add_sub_cancel_left]⟩))
  have hbut := (But.of_below (g := g) hb0).trans (But.setCell g 2 _ (atV w.heap.size))
  have HSET := hide hset
  have HBUT := hide hbut
  obtain ⟨A, cap, E, h0, h1, h2, _⟩ := h.ex
  have hfr := h.free 2
  have hlt := h.lt
  have c0 := hs.cell 0 (by omega)
  have k1 := neq_other (p k) (p 0) w (hs.ne k 0 hk19 (by omega) (by omega)) (hs.blk k hk19).2 (hs.blk 0 (by omega)).2
  clear h hs hset hbut hb0
  change w.cell? ⟨6, 0, none⟩ = some (errV (p 0)) at c0
  unfold errV at *
  unfold atV at *
  go_enter Tryd.func107, Tryd.ntmps107
  go_wp2_with fail
  go_end0
  have e := World.setCell_alloc_past (w := w) (.cells #[.int .i64 s.at_, .iface 201 (.pointer (some (p k)))] 101) g 2 (.iface 99 (.pointer (some ⟨w.heap.size, 0, none⟩))) hlt
  rw [← e]
  exact ⟨rfl, HSET.out, HBUT.out⟩
end Go.Proofs.YtoaioijgmbhhnaaDoor

namespace Go.Proofs.YtoaioijgmbhhnaaDoor
open Go.RowKit

/-- A reader that has met nothing amiss. -/
def fine (k : Nat) : Vi.Rs := ⟨k, 0, none⟩
def bad (k c : Nat) : Vi.Rs := ⟨k, c, some k⟩
theorem drop_pad (a b : List UInt8) (n : Nat) (h : a.length = n) : (a ++ b).drop n = b := by subst h; simp
theorem peek_at (l r : List UInt8) (k u most : Nat) (hu : u < 18446744073709551616) (h : l.drop k = Vi.put u ++ r) : Vi.peek l (fine k) most = if most < u then (0, 0, bad k 105) else (u, Vi.size u, fine k) := by
  unfold Vi.peek
  rw [if_neg (by simp [fine])]
  simp only [fine, h, get_of_put u r hu]
  rw [if_neg (by simp)]
  rfl
theorem num_at_hi (l r : List UInt8) (k u most : Nat) (hu : u < 18446744073709551616) (h : l.drop k = Vi.put u ++ r) (hm : most < u) : Vi.num l (fine k) most = (0, bad k 105) := by
  unfold Vi.num; rw [peek_at l r k u most hu h, if_pos hm]; rfl
theorem num_at_lo (l r : List UInt8) (k u most : Nat) (hu : u < 18446744073709551616) (h : l.drop k = Vi.put u ++ r) (hm : u ≤ most) : Vi.num l (fine k) most = (u, fine (k + Vi.size u)) := by
  unfold Vi.num; rw [peek_at l r k u most hu h, if_neg (by omega)]; rfl
theorem int_at (l r : List UInt8) (k : Nat) (n lo hi : Int) (h1 : -9223372036854775808 ≤ n) (h2 : n ≤ 9223372036854775807) (h : l.drop k = Vi.put (Vi.zz n) ++ r) : Vi.int l (fine k) lo hi = if n < lo ∨ hi < n then (0, bad k 105) else (n, fine (k + Vi.size (Vi.zz n))) := by
  unfold Vi.int Vi.peekI
  rw [if_neg (by simp [fine])]
  simp only [fine, h, get_of_put (Vi.zz n) r (Vi.zz_lt n h1 h2), Vi.unzz_zz]
  rw [if_neg (by simp)]
  by_cases hc : n < lo ∨ hi < n
  · rw [if_pos hc, if_pos hc]; rfl
  · rw [if_neg hc, if_neg hc]; rfl
theorem int_bad (l : List UInt8) (k c : Nat) (hc : c ≠ 0) (lo hi : Int) : Vi.int l (bad k c) lo hi = (0, bad k c) := by
  unfold Vi.int Vi.peekI
  rw [if_pos (by simpa [bad] using hc)]; rfl
theorem fixed_one (l : List UInt8) (k : Nat) (h : k < l.length) : (Vi.fixed l (fine k) 1).2 = fine (k + 1) := by
  unfold Vi.fixed
  rw [if_neg (by simp [fine]), if_neg (by simp only [fine]; omega)]; rfl
theorem text_hi (l r : List UInt8) (u most : Nat) (hu : u < 18446744073709551616) (h : l = Vi.put u ++ r) (hm : most < u) : Vi.text l (fine 0) most = ([], bad 0 105) := by
  unfold Vi.text
  simp only [peek_at l r 0 u most hu (by simpa using h), if_pos hm]
  rw [if_pos (by simp [bad])]
theorem text_lo (l b r : List UInt8) (most : Nat) (hu : b.length < 18446744073709551616) (h : l = Vi.put b.length ++ (b ++ r)) (hm : b.length ≤ most) : Vi.text l (fine 0) most = (b, fine (Vi.size b.length + b.length)) := by
  unfold Vi.text
  simp only [peek_at l (b ++ r) 0 b.length most hu (by simpa using h), if_neg (show ¬ most < b.length by omega)]
  have hl : l.length = Vi.size b.length + (b.length + r.length) := by rw [h, List.length_append, List.length_append]; rfl
  rw [if_neg (by simp [fine]), if_neg (by simp only [fine]; omega)]
  have hd : l.drop (0 + Vi.size b.length) = b ++ r := by rw [h, Nat.zero_add]; exact drop_pad _ _ _ rfl
  simp only [fine] at hd ⊢
  rw [hd]
  simp [Vi.Rs.on]
theorem text_cut (l b : List UInt8) (k most : Nat) (hu : b.length < 18446744073709551616) (hl : l = (Vi.put b.length ++ b).take k) (hk : k < Vi.size b.length + b.length) (hm : b.length ≤ most) : Vi.text l (fine 0) most = ([], ⟨0, 101, none⟩) := by
  have hpl : (Vi.put b.length).length = Vi.size b.length := rfl
  by_cases h : Vi.size b.length ≤ k
  · have hl2 : l = Vi.put b.length ++ b.take (k - Vi.size b.length) := by
      rw [hl, List.take_append, hpl, List.take_of_length_le (by rw [hpl]; exact h)]
    unfold Vi.text
    simp only [peek_at l (b.take (k - Vi.size b.length)) 0 b.length most hu (by simpa using hl2), if_neg (show ¬ most < b.length by omega)]
    have hll : l.length = k := by rw [hl, List.length_take, List.length_append, hpl]; omega
    rw [if_neg (by simp [fine]), if_pos (by simp only [fine]; omega)]
    rfl
  · have hl2 : l = (Vi.put b.length).take k := by rw [hl, List.take_append_of_le_length (by rw [hpl]; omega)]
    have hg : ∀ (j m i a : Nat), j < Vi.size m → i + Vi.size m ≤ 10 → Vi.get i a ((Vi.put m).take j) = (0, 0, 101) := by
      intro j
      induction j with
      | zero => intro m i a h1 h2; rw [List.take_zero, Vi.get, if_pos (by omega)]
      | succ j ih =>
        intro m i a h1 h2
        by_cases hm : m < 128
        · rw [Vi.size_lt hm] at h1; omega
        · rw [Vi.size_ge (by omega)] at h1 h2
          rw [Vi.put_ge (by omega), List.take_succ_cons, Vi.get, Vi.byte_toNat (by omega), if_neg (by have := Vi.size_pos (m / 128); omega), if_pos (by omega)]
          exact ih (m / 128) (i + 1) _ (by omega) (by omega)
    have hp : Vi.peek l (fine 0) most = (0, 0, ⟨0, 101, none⟩) := by
      unfold Vi.peek
      rw [if_neg (by simp [fine])]
      simp only [fine, List.drop_zero, hl2, hg k b.length 0 0 (by omega) (by have := Vi.size_le10 hu; omega)]
      rw [if_pos (by simp)]
      rfl
    unfold Vi.text
    simp only [hp]
    rw [if_pos (by simp)]

theorem ErrIs.ends {w : World} {p : Nat → Addr} {g : Nat} {E : Value} {s : Vi.Rs} (h : ErrIs w p g E s) (hc : s.code = 101) : E = errV (p 0) := by
  rcases h with ⟨h, _⟩ | ⟨_, _, h⟩ | ⟨a, q, h, _⟩
  · omega
  · exact h
  · omega
end Go.Proofs.YtoaioijgmbhhnaaDoor

namespace Go.Proofs.YtoaioijgmbhhnaaDoor
open Go.RowKit

theorem flat_at {α : Type} (f : α → List UInt8) (pre rest : List UInt8) (xs : List α) (k : Nat) (hk : k < xs.length) : (pre ++ (xs.flatMap f ++ rest)).drop (pre.length + ((xs.take k).flatMap f).length) = f xs[k] ++ ((xs.drop (k + 1)).flatMap f ++ rest) := by
  have e : xs.flatMap f = (xs.take k).flatMap f ++ (f xs[k] ++ (xs.drop (k + 1)).flatMap f) := by
    conv => lhs; rw [← List.take_append_drop k xs, List.drop_eq_getElem_cons hk]
    rw [List.flatMap_append, List.flatMap_cons]
  rw [e, show pre ++ ((xs.take k).flatMap f ++ (f xs[k] ++ (xs.drop (k + 1)).flatMap f) ++ rest) = (pre ++ (xs.take k).flatMap f) ++ (f xs[k] ++ ((xs.drop (k + 1)).flatMap f ++ rest)) from by simp only [List.append_assoc]]
  exact drop_pad _ _ _ (by rw [List.length_append])
theorem flat_succ {α : Type} (f : α → List UInt8) (xs : List α) (k : Nat) (hk : k < xs.length) : (xs.take (k + 1)).flatMap f = (xs.take k).flatMap f ++ f xs[k] := by
  rw [List.take_succ_eq_append_getElem hk, List.flatMap_append, List.flatMap_cons, List.flatMap_nil, List.append_nil]
theorem flat_le {α : Type} (f : α → List UInt8) (c : Nat) : ∀ (xs : List α), (∀ x ∈ xs, (f x).length ≤ c) → (xs.flatMap f).length ≤ xs.length * c
  | [], _ => by simp
  | x :: xs, h => by
    rw [List.flatMap_cons, List.length_append, List.length_cons, Nat.succ_mul]
    have h1 := h x List.mem_cons_self
    have h2 := flat_le f c xs fun y hy => h y (List.mem_cons_of_mem _ hy)
    omega
def eU (u : Nat) : List UInt8 := Vi.put u
def eI (n : Int) : List UInt8 := Vi.put (Vi.zz n)
def eT (q : Part) : List UInt8 := Vi.put q.l.length ++ q.l

theorem text_at (l b r : List UInt8) (k most : Nat) (hu : b.length < 18446744073709551616) (h : l.drop k = Vi.put b.length ++ (b ++ r)) (hm : b.length ≤ most) : Vi.text l (fine k) most = (b, fine (k + (Vi.size b.length + b.length))) := by
  have hl : l.length - k = Vi.size b.length + (b.length + r.length) := by
    have := congrArg List.length h
    rw [List.length_drop, List.length_append, List.length_append] at this
    exact this
  have hs := Vi.size_pos b.length
  unfold Vi.text
  simp only [peek_at l (b ++ r) k b.length most hu h, if_neg (show ¬ most < b.length by omega)]
  rw [if_neg (by simp [fine]), if_neg (by simp only [fine]; omega)]
  have hd : l.drop (k + Vi.size b.length) = b ++ r := by rw [← List.drop_drop, h]; exact drop_pad _ _ _ rfl
  simp only [fine] at hd ⊢
  rw [hd]
  simp [Vi.Rs.on]
theorem peek_big (l r : List UInt8) (k u : Nat) (hu : u < 18446744073709551616) (h : l.drop k = Vi.put u ++ r) : Vi.num l (fine k) 18446744073709551615 = (u, fine (k + Vi.size u)) :=
  num_at_lo l r k u _ hu h (by omega)
theorem int_big (l r : List UInt8) (k : Nat) (n : Int) (h1 : -9223372036854775808 ≤ n) (h2 : n ≤ 9223372036854775807) (h : l.drop k = Vi.put (Vi.zz n) ++ r) : Vi.int l (fine k) (-9223372036854775808) 9223372036854775807 = (n, fine (k + Vi.size (Vi.zz n))) := by
  rw [int_at l r k n _ _ h1 h2 h, if_neg (by omega)]
theorem fixed_three (l : List UInt8) (k : Nat) (h : l.drop k = [1, 2, 3]) : Vi.fixed l (fine k) 3 = (197121, fine (k + 3)) := by
  have hl : l.length - k = 3 := by
    have := congrArg List.length h
    rwa [List.length_drop] at this
  unfold Vi.fixed
  rw [if_neg (by simp [fine]), if_neg (by simp only [fine]; omega)]
  simp only [fine, h]
  rfl
theorem fixed_end (l : List UInt8) : Vi.fixed l (fine l.length) 1 = (0, ⟨l.length, 101, none⟩) := by
  unfold Vi.fixed
  rw [if_neg (by simp [fine]), if_pos (by simp only [fine]; omega)]
  rfl
theorem num_end (l : List UInt8) (k most : Nat) : Vi.num l ⟨k, 101, none⟩ most = (0, ⟨k, 101, none⟩) := by
  unfold Vi.num Vi.peek
  rw [if_pos (by simp)]
  rfl

/-- What a reader reads of all that was laid: where it is ahead of each. -/
theorem layout (us : List Nat) (ns : List Int) (ps : List Part) (L : List UInt8) (hL : L = ((us.flatMap eU ++ ns.flatMap eI) ++ ps.flatMap eT) ++ [1, 2, 3])
    (bu : ∀ k, k < us.length → us.getD k 0 < 18446744073709551616) (bn : ∀ k, k < ns.length → -9223372036854775808 ≤ ns.getD k 0 ∧ ns.getD k 0 ≤ 9223372036854775807) (bp : ∀ q ∈ ps, q.l.length ≤ 40) :
    ∃ PU PI PT : Nat → Nat, PU 0 = 0 ∧ (∀ k, k < us.length → Vi.num L (fine (PU k)) 18446744073709551615 = (us.getD k 0, fine (PU (k + 1)))) ∧ PI 0 = PU us.length ∧
      (∀ k, k < ns.length → Vi.int L (fine (PI k)) (-9223372036854775808) 9223372036854775807 = (ns.getD k 0, fine (PI (k + 1)))) ∧ PT 0 = PI ns.length ∧
      (∀ k (h : k < ps.length), Vi.text L (fine (PT k)) 40 = (ps[k].l, fine (PT (k + 1)))) ∧ PT ps.length + 3 = L.length ∧ Vi.fixed L (fine (PT ps.length)) 3 = (197121, fine (PT ps.length + 3)) := by
  have e1 : L = [] ++ (us.flatMap eU ++ (ns.flatMap eI ++ (ps.flatMap eT ++ [1, 2, 3]))) := by rw [hL]; simp only [List.append_assoc, List.nil_append]
  have e2 : L = us.flatMap eU ++ (ns.flatMap eI ++ (ps.flatMap eT ++ [1, 2, 3])) := by rw [hL]; simp only [List.append_assoc]
  have e3 : L = (us.flatMap eU ++ ns.flatMap eI) ++ (ps.flatMap eT ++ [1, 2, 3]) := by rw [hL]; simp only [List.append_assoc]
  refine ⟨fun k => (([] : List UInt8)).length + ((us.take k).flatMap eU).length, fun k => (us.flatMap eU).length + ((ns.take k).flatMap eI).length, fun k => (us.flatMap eU ++ ns.flatMap eI).length + ((ps.take k).flatMap eT).length, by simp, fun k hk => ?_, by simp, fun k hk => ?_, by simp, fun k hk => ?_, ?_, ?_⟩
  · have hd := flat_at eU [] (ns.flatMap eI ++ (ps.flatMap eT ++ [1, 2, 3])) us k hk
    rw [← e1] at hd
    have hg : us[k] = us.getD k 0 := by simp [List.getD, hk]
    rw [hg] at hd
    rw [peek_big L _ _ _ (bu k hk) hd]
    dsimp only
    rw [flat_succ eU us k hk, List.length_append, hg, ← Nat.add_assoc]
    rfl
  · have hd := flat_at eI (us.flatMap eU) (ps.flatMap eT ++ [1, 2, 3]) ns k hk
    rw [← e2] at hd
    have hg : ns[k] = ns.getD k 0 := by simp [List.getD, hk]
    rw [hg] at hd
    rw [int_big L _ _ _ (bn k hk).1 (bn k hk).2 hd]
    dsimp only
    rw [flat_succ eI ns k hk, List.length_append, hg, ← Nat.add_assoc]
    rfl
  · have hd := flat_at eT (us.flatMap eU ++ ns.flatMap eI) [1, 2, 3] ps k hk
    rw [← e3] at hd
    have hb := bp _ (List.getElem_mem hk)
    rw [text_at L ps[k].l ((ps.drop (k + 1)).flatMap eT ++ [1, 2, 3]) _ 40 (by omega) (by rw [hd]; unfold eT; rw [List.append_assoc]) hb]
    dsimp only
    rw [flat_succ eT ps k hk]
    refine Prod.ext rfl (congrArg fine ?_)
    have hh : (eT ps[k]).length = Vi.size ps[k].l.length + ps[k].l.length := by unfold eT; rw [List.length_append]; rfl
    simp only [List.length_append, hh]; omega
  · dsimp only
    rw [List.take_length, hL]
    simp only [List.length_append, List.length_cons, List.length_nil]
  · refine fixed_three L _ ?_
    dsimp only
    rw [List.take_length, ← List.length_append, hL]
    exact drop_pad _ _ _ rfl
end Go.Proofs.YtoaioijgmbhhnaaDoor

namespace Go.Proofs.YtoaioijgmbhhnaaDoor
namespace Vi
theorem get_canon : ∀ (l : List UInt8) (i a n k : Nat), get i a l = (n, k, 0) → ∃ m r, l = put m ++ r ∧ n = a + m * 2 ^ (7 * i) ∧ k = i + size m ∧ (0 < i → 0 < m) := by
  intro l
  induction l with
  | nil => intro i a n k h; rw [get] at h; split at h <;> simp at h
  | cons c l ih =>
    intro i a n k h
    have hc := c.toNat_lt
    rw [get] at h
    split at h
    · simp at h
    · split at h
      · rename_i h128
        obtain ⟨m, r, e, hn, hk, hp⟩ := ih _ _ _ _ h
        have hp := hp (by omega)
        refine ⟨c.toNat % 128 + 128 * m, r, ?_, ?_, ?_, fun _ => by omega⟩
        · rw [put_ge (by omega), show (c.toNat % 128 + 128 * m) % 128 + 128 = c.toNat by omega, show (c.toNat % 128 + 128 * m) / 128 = m by omega, e, List.cons_append]
          congr 1
          apply UInt8.toNat_inj.1
          rw [byte_toNat hc]
        · rw [hn, pow7, Nat.add_mul, Nat.mul_assoc 128 m, Nat.mul_left_comm 128 m, Nat.add_assoc]
        · rw [hk, size_ge (n := c.toNat % 128 + 128 * m) (by omega), show (c.toNat % 128 + 128 * m) / 128 = m by omega]; omega
      · split at h
        · simp at h
        · rename_i h1 h2
          simp at h
          refine ⟨c.toNat, l, ?_, h.1.symm, ?_, fun h0 => ?_⟩
          · rw [put_lt (by omega)]
            have : UInt8.ofNat c.toNat = c := UInt8.toNat_inj.1 (byte_toNat hc)
            rw [this]; rfl
          · rw [size_lt (by omega)]; omega
          · omega
theorem zz_unzz (u : Nat) : zz (unzz u) = u := by
  unfold unzz zz
  split
  · rw [if_pos (by omega)]; omega
  · rw [if_neg (by omega)]; omega
theorem peek_stays {l : List UInt8} {s : Rs} {most : Nat} (h : (peek l s most).2.2.code = 0) : s.code = 0 := by
  unfold peek at h
  by_cases hc : s.code ≠ 0
  · rw [if_pos hc] at h; exact h
  · omega
theorem fail_code (s : Rs) (c : Nat) : (s.fail c).code = c := by unfold Rs.fail; split <;> simp_all
theorem peek_fine (l : List UInt8) (k most : Nat) : peek l (fine k) most = if (get 0 0 (l.drop k)).2.2 ≠ 0 then (0, 0, (fine k).fail (get 0 0 (l.drop k)).2.2) else if most < (get 0 0 (l.drop k)).1 then (0, 0, (fine k).fail 105) else ((get 0 0 (l.drop k)).1, (get 0 0 (l.drop k)).2.1, fine k) := by
  unfold peek
  rw [if_neg (by simp [fine])]
  rfl
theorem peekI_fine (l : List UInt8) (k : Nat) (lo hi : Int) : peekI l (fine k) lo hi = if (get 0 0 (l.drop k)).2.2 ≠ 0 then (0, 0, (fine k).fail (get 0 0 (l.drop k)).2.2) else if unzz (get 0 0 (l.drop k)).1 < lo ∨ hi < unzz (get 0 0 (l.drop k)).1 then (0, 0, (fine k).fail 105) else (unzz (get 0 0 (l.drop k)).1, (get 0 0 (l.drop k)).2.1, fine k) := by
  unfold peekI
  rw [if_neg (by simp [fine])]
  rfl
theorem num_canon {l : List UInt8} {k most : Nat} (h : (peek l (fine k) most).2.2.code = 0) : ∃ u r, l.drop k = put u ++ r ∧ u ≤ most ∧ u < 18446744073709551616 ∧ peek l (fine k) most = (u, size u, fine k) := by
  have hlt := (get_lt (l.drop k) 0 0 (by omega) (by omega)).1
  have hcn := get_canon (l.drop k) 0 0
  rw [peek_fine] at h ⊢
  generalize get 0 0 (l.drop k) = G at *
  obtain ⟨n, j, c⟩ := G
  simp only at h hlt hcn ⊢
  by_cases hc : c ≠ 0
  · rw [if_pos hc] at h; simp only [fail_code] at h; exact absurd h hc
  · rw [if_neg hc] at h ⊢
    by_cases hm : most < n
    · rw [if_pos hm] at h; simp only [fail_code] at h; omega
    · rw [if_neg hm]
      obtain rfl : c = 0 := by omega
      obtain ⟨m, r, e, hn, hk, _⟩ := hcn _ _ rfl
      simp at hn hk
      subst hn hk
      exact ⟨n, r, e, by omega, hlt, rfl⟩
theorem int_canon {l : List UInt8} {k : Nat} {lo hi : Int} (h : (Vi.int l (fine k) lo hi).2.code = 0) : ∃ n r, l.drop k = put (zz n) ++ r ∧ lo ≤ n ∧ n ≤ hi ∧ Vi.int l (fine k) lo hi = (n, fine (k + size (zz n))) := by
  have hcn := get_canon (l.drop k) 0 0
  unfold Vi.int at h ⊢
  rw [peekI_fine] at h ⊢
  generalize get 0 0 (l.drop k) = G at *
  obtain ⟨n, j, c⟩ := G
  simp only at h hcn ⊢
  by_cases hc : c ≠ 0
  · rw [if_pos hc] at h; simp only [Rs.on, fail_code] at h; exact absurd h hc
  · rw [if_neg hc] at h ⊢
    by_cases hm : unzz n < lo ∨ hi < unzz n
    · rw [if_pos hm] at h; simp only [Rs.on, fail_code] at h; omega
    · rw [if_neg hm]
      obtain rfl : c = 0 := by omega
      obtain ⟨m, r, e, hn, hk, _⟩ := hcn _ _ rfl
      simp at hn hk
      subst hn hk
      exact ⟨unzz n, r, by rw [zz_unzz]; exact e, by omega, by omega, by rw [zz_unzz]; rfl⟩
theorem int_stays {l : List UInt8} {s : Rs} {lo hi : Int} (h : (Vi.int l s lo hi).2.code = 0) : s.code = 0 := by
  unfold Vi.int peekI at h
  by_cases hc : s.code ≠ 0
  · rw [if_pos hc] at h; exact h
  · omega
end Vi
end Go.Proofs.YtoaioijgmbhhnaaDoor
