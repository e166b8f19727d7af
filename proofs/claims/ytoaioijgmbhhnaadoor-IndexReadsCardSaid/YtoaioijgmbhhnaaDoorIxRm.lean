/-
  Package index: readMarks.
  Package index: readMarks, walked.
  Package index: rise, right.
  Package index: keep.
  Package index: Read.
  Package index: Read, walked.
-/
import Derived.Test.YtoaioijgmbhhnaaDoorIxBp
import Derived.Test.YtoaioijgmbhhnaaDoorIxBy
import Derived.Test.YtoaioijgmbhhnaaDoorVMeth
import Derived.Deep.LoopGhost
import Derived.Deep.RegionLaw
import Derived.Test.YtoaioijgmbhhnaaDoorIxA
import Derived.Test.YtoaioijgmbhhnaaDoorIxW
import Derived.Test.YtoaioijgmbhhnaaDoorOpA
namespace Go.Proofs.YtoaioijgmbhhnaaDoor
open Go.RowKit

theorem num_le (l : List UInt8) (s : Vi.Rs) (most : Nat) : (Vi.num l s most).1 ≤ most := by
  unfold Vi.num Vi.peek
  by_cases h : s.code ≠ 0
  · rw [if_pos h]; exact Nat.zero_le _
  · rw [if_neg h]
    simp only
    by_cases h1 : (Vi.get 0 0 (l.drop s.at_)).2.2 ≠ 0
    · rw [if_pos h1]; exact Nat.zero_le _
    · rw [if_neg h1]
      by_cases h2 : most < (Vi.get 0 0 (l.drop s.at_)).1
      · rw [if_pos h2]; exact Nat.zero_le _
      · rw [if_neg h2]; simp only; omega
theorem int_le (l : List UInt8) (s : Vi.Rs) (lo hi : Int) (h0 : lo ≤ 0) (h1 : 0 ≤ hi) : lo ≤ (Vi.int l s lo hi).1 ∧ (Vi.int l s lo hi).1 ≤ hi := by
  unfold Vi.int Vi.peekI
  by_cases h : s.code ≠ 0
  · rw [if_pos h]; exact ⟨h0, h1⟩
  · rw [if_neg h]
    simp only
    by_cases h2 : (Vi.get 0 0 (l.drop s.at_)).2.2 ≠ 0
    · rw [if_pos h2]; exact ⟨h0, h1⟩
    · rw [if_neg h2]
      by_cases h3 : Vi.unzz (Vi.get 0 0 (l.drop s.at_)).1 < lo ∨ hi < Vi.unzz (Vi.get 0 0 (l.drop s.at_)).1
      · rw [if_pos h3]; exact ⟨h0, h1⟩
      · rw [if_neg h3]; simp only; omega
theorem grown_setC (w : World) (b k : Nat) (x : Value) : w.grownBy (w.setCell ⟨b, k, none⟩ x) (some b) :=
  ⟨rfl, rfl, rfl, by simp [World.setCell], fun i hi hne => Below.heap_setCell _ _ _ _ (by intro e; exact hne (by rw [e]))⟩
/-- A reader stays where another row is turned: not its bytes', and none whose second cell is an error. -/
theorem Rdr.beside {w w' : World} {p : Nat → Addr} {g : Nat} {l : List UInt8} {s : Vi.Rs} {row : Option Nat} (h : Rdr w p g l s) (hg : w.grownBy w' row) (hgg : some g ≠ row)
    (hbuf : l ≠ [] → ∀ A n c b off, w.cell? ⟨g, 0, none⟩ = some (.slice A n c) → A = some ⟨b, off, none⟩ → some b ≠ row)
    (herr : ∀ a x, w.cell? ⟨a, 1, none⟩ = some (errV x) → some a ≠ row) : Rdr w' p g l s := by
  obtain ⟨A, cap, E, h0, h1, h2, ha, hne, he⟩ := h.ex
  have cl : ∀ {b o : Nat} {v : Value}, w.cell? ⟨b, o, none⟩ = some v → some b ≠ row → w'.cell? ⟨b, o, none⟩ = some v := fun {b o v} hc hn => by
    have hb := hg.block b (World.block_lt_of_cell? w _ hc) hn
    simpa [World.cell?, hb] using hc
  refine ⟨Nat.lt_of_lt_of_le h.lt hg.size, fun k => (World.frozen?_of_block (a := ⟨g, k, none⟩) (hg.block g h.lt hgg)).trans (h.free k), h.ok, A, cap, E, cl h0 hgg, cl h1 hgg, cl h2 hgg, ⟨ha.le, ha.max, ha.nil, ?_⟩, hne, ?_⟩
  · rcases ha.reads with hr | ⟨b, off, e, hlt, hc⟩
    · exact .inl hr
    · by_cases hl : l = []
      · exact .inl hl
      · exact .inr ⟨b, off, e, Nat.lt_of_lt_of_le hlt hg.size, fun k hk => cl (hc k hk) (hbuf hl A _ _ b off h0 e)⟩
  · rcases he with he | he | ⟨a, q, h1, h2, h3, h4, h5, h6, h7⟩
    · exact .inl he
    · exact .inr (.inl he)
    · exact .inr (.inr ⟨a, q, h1, h2, h3, h4, Nat.lt_of_lt_of_le h5 hg.size, cl h6 (herr a _ h7), cl h7 (herr a _ h7)⟩)

/-- readMarks on its way: the reader, the mark that is read, the row so far. -/
structure RmSt (w0 w : World) (p : Nat → Addr) (g : Nat) (l : List UInt8) (s : Vi.Rs) (g5 : Nat) (a : Ix.Mark) (v : Value) (ms : List Ix.Mark) : Prop where
  rdr : Rdr w p g l s
  buf : ∃ A n c, w.cell? ⟨g, 0, none⟩ = some (.slice A n c) ∧ (l ≠ [] → ∀ b off, A = some ⟨b, off, none⟩ → b < w0.heap.size)
  box : w.heap[g5]? = some (.cells #[.int .i64 a.off, .int .i64 a.time, .int .i64 a.pos] 91 (0, 0))
  own : w.ownsRow w0.heap.size 91 3 v ms.length (ms.flatMap mkCells)
  rnil : ms = [] → v = .slice none 0 0
  but : But g w0 w
  gl : g < w0.heap.size
  lo : w0.heap.size ≤ g5
  ne : v.ownBlock ≠ some g5
section
variable {w0 w w' : World} {p : Nat → Addr} {g : Nat} {l : List UInt8} {s s' : Vi.Rs} {g5 : Nat} {a : Ix.Mark} {v : Value} {ms : List Ix.Mark}
theorem RmSt.glt (h : RmSt w0 w p g l s g5 a v ms) : g5 < w.heap.size := (Array.getElem?_eq_some_iff.1 h.box).1
theorem RmSt.gne (h : RmSt w0 w p g l s g5 a v ms) : g5 ≠ g := by have := h.gl; have := h.lo; omega
theorem RmSt.call (h : RmSt w0 w p g l s g5 a v ms) (hr : Rdr w' p g l s') (hb : But g w w') : RmSt w0 w' p g l s' g5 a v ms := by
  obtain ⟨A, n, c, hA, hl⟩ := h.buf
  exact ⟨hr, ⟨A, n, c, (hb.first h.rdr.lt).trans hA, hl⟩, (hb.block g5 h.glt (by simp; exact h.gne)).trans h.box,
    ownsRow_same h.own fun k hk => hb.block k (h.own.lt k hk).2 (by simp; have := (h.own.lt k hk).1; have := h.gl; omega), h.rnil, h.but.trans hb, h.gl, h.lo, h.ne⟩
theorem RmSt.quiet (h : RmSt w0 w p g l s g5 a v ms) (hb : Below w.heap.size w w') : RmSt w0 w' p g l s g5 a v ms := h.call (h.rdr.below hb) (But.of_below hb)
theorem RmSt.cells (h : RmSt w0 w p g l s g5 a v ms) : (w.cell? ⟨g5, 0, none⟩ = some (.int .i64 a.off) ∧ w.cell? ⟨g5, 1, none⟩ = some (.int .i64 a.time) ∧ w.cell? ⟨g5, 2, none⟩ = some (.int .i64 a.pos)) ∧ (w.frozen? ⟨g5, 0, none⟩ = false ∧ w.frozen? ⟨g5, 1, none⟩ = false ∧ w.frozen? ⟨g5, 2, none⟩ = false) :=
  ⟨⟨box_cell h.box 0, box_cell h.box 1, box_cell h.box 2⟩, ⟨box_free h.box 0, box_free h.box 1, box_free h.box 2⟩⟩
theorem RmSt.set (h : RmSt w0 w p g l s g5 a v ms) (i : Nat) (x : Value) (a' : Ix.Mark) (hc : (#[.int .i64 a.off, .int .i64 a.time, .int .i64 a.pos] : Array Value).setIfInBounds i x = #[.int .i64 a'.off, .int .i64 a'.time, .int .i64 a'.pos]) : RmSt w0 (w.setCell ⟨g5, i, none⟩ x) p g l s g5 a' v ms := by
  obtain ⟨A, n, c, hA, hl⟩ := h.buf
  have hne := h.gne
  have hlo := h.lo
  have hgl := h.gl
  have hg := grown_setC w g5 i x
  have hoth : ∀ k, k ≠ g5 → (w.setCell ⟨g5, i, none⟩ x).heap[k]? = w.heap[k]? := fun k hk => Below.heap_setCell _ _ _ _ hk
  have hb1 := h.but.grown.size
  have hbut : But g w0 (w.setCell ⟨g5, i, none⟩ x) := ⟨⟨h.but.grown.os, h.but.grown.tape, h.but.grown.output, by simpa using hb1, fun k hk hn => (hoth k (by omega)).trans (h.but.grown.block k hk hn)⟩, fun hk => by
    have e1 := hoth g (by omega)
    have e2 := h.but.first hk
    rw [← e2]
    simp [World.cell?, e1]⟩
  refine ⟨h.rdr.beside hg (by simp; omega) (fun hl' A' n' c' b off h0 e => ?_) (fun q y hy => ?_), ⟨A, n, c, ?_, hl⟩, ?_, ownsRow_same h.own fun k hk => hoth k (fun e => h.ne (by rw [hk, e])), h.rnil, hbut, hgl, hlo, h.ne⟩
  · rw [hA] at h0
    injection h0 with h0
    injection h0 with h0 _ _
    have := hl hl' b off (h0.trans e)
    simp; omega
  · intro e
    injection e with e
    subst e
    rw [h.cells.1.2.1] at hy
    simp [errV] at hy
  · have e1 := hoth g (by omega)
    simpa [World.cell?, e1] using hA
  · have := heap_setCell_same w g5 i _ _ x h.box
    rw [this, hc]
theorem RmSt.one (h : RmSt w0 w p g l s g5 a v ms) {k : Nat} (hk : v.ownBlock = some k) : ∃ t, w.cell? ⟨k, 1, none⟩ = some (.int .i64 t) := by
  cases ms with
  | nil => rw [h.rnil rfl] at hk; cases hk
  | cons m ms =>
    have := h.own.cells (g := k) hk 1 (.int .i64 m.time) (by simp [mkCells])
    rw [Addr.add_lit, Nat.zero_add] at this
    exact ⟨_, this⟩
/-- The mark that was read is put behind the row. -/
theorem RmSt.push {w1 w2 : World} {v' : Value} {cs : Array Value} (h : RmSt w0 w p g l s g5 a v ms) (hw1 : w1 = w.alloc (.cells cs 91)) (hg : w1.grownBy w2 v.ownBlock)
    (ho : w2.ownsRow w0.heap.size 91 3 v' (ms.length + 1) (ms.flatMap mkCells ++ mkCells a)) (hv : v'.ownBlock = v.ownBlock ∨ v'.ownBlock = some w1.heap.size) : RmSt w0 w2 p g l s g5 a v' (ms ++ [a]) := by
  have hal : Below w.heap.size w w1 := hw1 ▸ balloc (Below.refl _ _) _
  have h1 := h.quiet hal
  obtain ⟨A, n, c, hA, hl⟩ := h1.buf
  have hgl := h.gl
  have hlo := h.lo
  have hgz := h1.glt
  have hrow : ∀ k, v.ownBlock = some k → w0.heap.size ≤ k := fun k hk => (h.own.lt k hk).1
  have hgr : some g ≠ v.ownBlock := fun e => by have := hrow g e.symm; omega
  have e1 := hg.block g h1.rdr.lt hgr
  have hw : ms.flatMap mkCells ++ mkCells a = (ms ++ [a]).flatMap mkCells := by simp
  rw [hw] at ho
  refine ⟨h1.rdr.beside hg hgr (fun hl' A' n' c' b off h0 e => ?_) (fun q y hy => ?_), ⟨A, n, c, by simpa [World.cell?, e1] using hA, hl⟩, (hg.block g5 hgz fun e => h.ne e.symm).trans h1.box, by rw [List.length_append]; exact ho, fun e => by simp at e, ?_, hgl, hlo, ?_⟩
  · rw [hA] at h0
    injection h0 with h0
    injection h0 with h0 _ _
    have := hl hl' b off (h0.trans e)
    intro e'
    have := hrow b e'.symm
    omega
  · intro e
    obtain ⟨t, ht⟩ := h1.one e.symm
    rw [ht] at hy
    simp [errV] at hy
  · exact ⟨⟨hg.os.trans h1.but.grown.os, hg.tape.trans h1.but.grown.tape, hg.output.trans h1.but.grown.output, Nat.le_trans h1.but.grown.size hg.size, fun k hk hn => (hg.block k (Nat.lt_of_lt_of_le hk h1.but.grown.size) fun e => by have := hrow k e.symm; omega).trans (h1.but.grown.block k hk hn)⟩, fun hk => (by simp [World.cell?, e1] : w2.cell? ⟨g, 0, none⟩ = w1.cell? ⟨g, 0, none⟩).trans (h1.but.first hk)⟩
  · rcases hv with e | e
    · rw [e]; exact h.ne
    · rw [e]; intro e'; injection e' with e'; omega
end
end Go.Proofs.YtoaioijgmbhhnaaDoor

namespace Go.Proofs.YtoaioijgmbhhnaaDoor
open Go.RowKit

def slen : Value → Nat
  | .slice _ n _ => n
  | _ => 0
/-- So far a mark of k may be. -/
def Far (a : Ix.Mark) (k : Nat) : Prop := (0 ≤ a.off ∧ a.off ≤ 1099511627776 * (k : Int)) ∧ (-(4398046511104 * (k : Int)) ≤ a.time ∧ a.time ≤ 4398046511104 * (k : Int)) ∧ (0 ≤ a.pos ∧ a.pos ≤ 1073741824 * (k : Int))
theorem far_step (l : List UInt8) (s : Vi.Rs) (a : Ix.Mark) (k : Nat) (h : Far a k) : Far (Ix.rstep l s a).1 (k + 1) := by
  obtain ⟨⟨h1, h2⟩, ⟨h3, h4⟩, h5, h6⟩ := h
  have a1 := num_le l s 1099511627776
  have a2 := int_le l (Vi.num l s 1099511627776).2 (-4398046511104) 4398046511104 (by omega) (by omega)
  have a3 := num_le l (Vi.int l (Vi.num l s 1099511627776).2 (-4398046511104) 4398046511104).2 1073741824
  refine ⟨⟨?_, ?_⟩, ⟨?_, ?_⟩, ?_, ?_⟩ <;> simp only [Ix.rstep] <;> omega

theorem own_len {w : World} {base : Nat} {e : TypeId} {size : Nat} {A : Option Addr} {n c m : Nat} {xs : List Value} (h : w.ownsRow base e size (.slice A n c) m xs) : n = m := by
  rcases h.2 with ⟨e1, k⟩ | ⟨g', cap, cur, e1, _⟩
  · injection e1 with _ e2 _; omega
  · injection e1

set_option maxRecDepth 100000 in
set_option maxHeartbeats 4000000 in
theorem readMarks_any (w : World) (p : Nat → Addr) (g : Nat) (l : List UInt8) (s : Vi.Rs) (h : Rdr w p g l s) (hs : ∀ W, But g w W → SentsV W p) (hl : l.length ≤ 1000000) :
    Calls Tryd.prog 47 #[.pointer (some ⟨g, 0, none⟩)] w fun e w' => ∃ v T, T = Ix.rloop l (Vi.num l s 4096).1 (Vi.num l s 4096).1 (Vi.num l s 4096).2 [] ∧ e = .returned v ∧ Rdr w' p g l T.2 ∧ w'.ownsRow w.heap.size 91 3 v T.1.length (T.1.flatMap mkCells) ∧ But g w w' := by
  have HN0 := hide (num_any w p g l s 4096 h (hs w (But.refl _ _)) hl)
  have hM := num_le l s 4096
  have HS := hide hs
  have HLL := hide hl
  have hgw := h.lt
  have HBF : Hid (∃ A n c, w.cell? ⟨g, 0, none⟩ = some (.slice A n c) ∧ (l ≠ [] → ∀ b off, A = some ⟨b, off, none⟩ → b < w.heap.size)) := hide (by
    obtain ⟨A, cap, E, h0, h1, h2, ha, hne, he⟩ := h.ex
    refine ⟨A, _, cap, h0, fun hl' b off e => ?_⟩
    rcases ha.reads with hr | ⟨b', off', e', hlt, hc⟩
    · exact absurd hr hl'
    · rw [e] at e'
      injection e' with e'
      injection e' with e1 e2
      omega)
  obtain ⟨M, hMe⟩ : ∃ M, M = (Vi.num l s 4096).1 := ⟨_, rfl⟩
  obtain ⟨s0, hs0⟩ : ∃ s0, s0 = (Vi.num l s 4096).2 := ⟨_, rfl⟩
  rw [← hMe] at HN0 hM
  rw [← hs0] at HN0
  rw [← hMe, ← hs0]
  have hwM : IntKind.i64.wrap (M : Int) = (M : Int) := by rw [IntKind.wrap_i64]; omega
  clear h hs hl hMe hs0
  go_enter Tryd.func47, Tryd.ntmps47
  go_wp2_with fail
  refine HN0.out.mono ?_
  rintro e w1 ⟨rfl, hr1, hb1⟩
  have HR1 := hide hr1
  have HB1 := hide hb1
  clear hr1 hb1 HN0
  go_upto_region 4 with fail
  have HST : Hid (RmSt w (w1.alloc (.cells #[.int .i64 0, .int .i64 0, .int .i64 0] 91)) p g l s0 w1.heap.size Ix.z0 (.slice none 0 0) []) := hide (by
    have hb : Below w1.heap.size w1 (w1.alloc (.cells #[.int .i64 0, .int .i64 0, .int .i64 0] 91)) := balloc (Below.refl _ _) _
    obtain ⟨A, n, c, hA, hl'⟩ := HBF.out
    exact ⟨HR1.out.below hb, ⟨A, n, c, (hb.cell (p := ⟨g, 0, none⟩) HR1.out.lt).trans ((HB1.out.first hgw).trans hA), hl'⟩, heap_alloc_new _ _, World.ownsRow_nil _ _ _ _, fun _ => rfl, HB1.out.trans (But.of_below hb), hgw, HB1.out.size, fun e => by cases e⟩)
  generalize w1.alloc (.cells #[.int .i64 0, .int .i64 0, .int .i64 0] 91) = w2 at *
  generalize w1.heap.size = g5 at *
  clear HR1 HB1 HBF
  go_loopw [4] (fun v wr => ∃ (ms : List Ix.Mark) (s' : Vi.Rs), RmSt w wr p g l s' g5 (Ix.lastFrom Ix.z0 ms) v ms ∧ Ix.rloop l M M s0 [] = Ix.rloop l M (M - ms.length) s' ms ∧ ms.length ≤ M ∧ Far (Ix.lastFrom Ix.z0 ms) ms.length) (fun v _ => M - slen v)
  case atStart => exact ⟨[], s0, HST.out, by simp, Nat.zero_le _, ⟨⟨by show (0 : Int) ≤ 0; omega, by show (0 : Int) ≤ 0; omega⟩, ⟨by show (0 : Int) ≤ 0; omega, by show (0 : Int) ≤ 0; omega⟩, by show (0 : Int) ≤ 0; omega, by show (0 : Int) ≤ 0; omega⟩⟩
  case round =>
    obtain ⟨ms, s1, hst, hlp, hmM, hfar⟩ := hrel
    obtain ⟨A, n, c, rfl⟩ := own_slice hst.own
    have hn : n = ms.length := by
      rcases hst.own.2 with ⟨e, k⟩ | ⟨g', cap, cur, e, _⟩
      · injection e with _ e1 _; omega
      · injection e
    subst hn
    have HST := hide hst
    have HLP := hide hlp
    have HFAR := hide hfar
    have hcode := hst.rdr.ok.code
    clear hst hlp hfar
    by_cases hlt : ms.length < M
    · have dlt : decide ((ms.length : Int) < M) = true := decide_eq_true (by omega)
      have HERR := hide (rerr_any wr p g l s1 HST.out.rdr)
      by_cases hc : s1.code = 0
      · have HON := hide (Ix.rloop_on l M s1 ms hlt hc)
        have HFS := hide (far_step l s1 _ _ HFAR.out)
        have HSN : Hid (∀ W, But g wr W → SentsV W p) := hide (fun W hb => HS.out W (HST.out.but.trans hb))
        have HN1 := hide (fun W (hb : Below wr.heap.size wr W) => num_any W p g l s1 1099511627776 (HST.out.rdr.below hb) (HSN.out W (But.of_below hb)) HLL.out)
        simp only [show ((1099511627776 : Nat) : Int) = 1099511627776 from rfl] at HN1
        have b1 := num_le l s1 1099511627776
        have HE : Hid (Ix.rstep l s1 (Ix.lastFrom Ix.z0 ms) = (⟨(Ix.lastFrom Ix.z0 ms).off + (Vi.num l s1 1099511627776).1, (Ix.lastFrom Ix.z0 ms).time + (Vi.int l (Vi.num l s1 1099511627776).2 (-4398046511104) 4398046511104).1, (Ix.lastFrom Ix.z0 ms).pos + (Vi.num l (Vi.int l (Vi.num l s1 1099511627776).2 (-4398046511104) 4398046511104).2 1073741824).1⟩, (Vi.num l (Vi.int l (Vi.num l s1 1099511627776).2 (-4398046511104) 4398046511104).2 1073741824).2)) := hide rfl
        have HLF := hide (Ix.lastFrom_snoc ms Ix.z0 (Ix.rstep l s1 (Ix.lastFrom Ix.z0 ms)).1)
        obtain ⟨a, ha⟩ : ∃ a, a = Ix.lastFrom Ix.z0 ms := ⟨_, rfl⟩
        rw [← ha] at HST HE HFAR HON HFS HLF
        clear ha
        generalize hN1 : Vi.num l s1 1099511627776 = N1 at *
        obtain ⟨n1, s2⟩ := N1
        simp only at b1 HE HN1
        have b2 := int_le l s2 (-4398046511104) 4398046511104 (by omega) (by omega)
        have HN2 := hide (fun W (hr : Rdr W p g l s2) (hb : But g w W) => int_any W p g l s2 (-4398046511104) 4398046511104 hr (HS.out W hb) HLL.out)
        generalize hN2 : Vi.int l s2 (-4398046511104) 4398046511104 = N2 at *
        obtain ⟨n2, s3⟩ := N2
        simp only at b2 HE HN2
        have b3 := num_le l s3 1073741824
        have HN3 := hide (fun W (hr : Rdr W p g l s3) (hb : But g w W) => num_any W p g l s3 1073741824 hr (HS.out W hb) HLL.out)
        simp only [show ((1073741824 : Nat) : Int) = 1073741824 from rfl] at HN3
        generalize hN3 : Vi.num l s3 1073741824 = N3 at *
        obtain ⟨n3, s4⟩ := N3
        simp only at b3 HE HN3
        clear hN1 hN2 hN3
        rw [HE.out] at HON HFS HLF
        simp only at HON HFS HLF
        obtain ⟨ao, at_, ap⟩ := a
        simp only at HON HFS HLF
        obtain ⟨⟨f1, f2⟩, ⟨f3, f4⟩, f5, f6⟩ := HFAR.out
        simp only at f1 f2 f3 f4 f5 f6
        have hw1 : IntKind.i64.wrap (n1 : Int) = (n1 : Int) := by rw [IntKind.wrap_i64]; omega
        have hw2 : IntKind.i64.wrap (ao + (n1 : Int)) = ao + (n1 : Int) := by rw [IntKind.wrap_i64]; omega
        have hw3 : IntKind.i64.wrap (at_ + n2) = at_ + n2 := by rw [IntKind.wrap_i64]; omega
        have hw4 : IntKind.i64.wrap (n3 : Int) = (n3 : Int) := by rw [IntKind.wrap_i64]; omega
        have hw5 : IntKind.i64.wrap (ap + (n3 : Int)) = ap + (n3 : Int) := by rw [IntKind.wrap_i64]; omega
        have hz := HST.out.glt
        have hne := HST.out.gne
        clear HE HFAR f1 f2 f3 f4 f5 f6 b1 b2 b3
        go_upto_region 5 with (first
          | (go_at_call 48; refine HERR.out.mono ?_; rintro e w9 ⟨⟨E, rfl, hE⟩, rfl⟩; obtain rfl := hE.good hc; clear hE)
          | fail)
        obtain ⟨⟨k0, -, -⟩, ff0, -, -⟩ := HST.out.cells
        simp only at k0
        go_cut [18] from 9 to 41 (fun _ wx => RmSt w wx p g l s2 g5 ⟨ao + (n1 : Int), at_, ap⟩ (.slice A ms.length c) ms)
        case first =>
          go_region_law
            (first
              | (go_simp; go_at_call 46; (with_reducible refine (HN1.out _ (Below.refl _ _).drew).mono ?_); rintro e w7 ⟨rfl, hr7, hb7⟩; have hk7 : w7.cell? ⟨g5, 0, none⟩ = some (.int .i64 ao) := (hb7.cell (b := g5) (o := 0) hz hne).trans k0; have hf7 : w7.frozen? ⟨g5, 0, none⟩ = false := (hb7.frozen (b := g5) (o := 0) hz hne).trans ff0)
              | fail)
          all_goals
            go_wp2_with fail
            go_meet
            exact ((HST.out.quiet (Below.refl _ _).drew).call hr7 hb7).set 0 (.int .i64 (ao + (n1 : Int))) ⟨ao + (n1 : Int), at_, ap⟩ rfl
        case rest =>
          obtain ⟨ht⟩ : Nonempty _ := ⟨hcut⟩
          have HT := hide ht
          clear ht hcut k0 ff0 HN1 HST HERR hz hne hw1 hw2
          have hz := HT.out.glt
          have hne := HT.out.gne
          obtain ⟨⟨-, k0, -⟩, -, ff0, -⟩ := HT.out.cells
          simp only at k0
          go_upto_region 6 with fail
          go_cut [25] from 9 to 41 (fun _ wx => RmSt w wx p g l s3 g5 ⟨ao + (n1 : Int), at_ + n2, ap⟩ (.slice A ms.length c) ms)
          case first =>
            go_region_law
              (first
                | (go_simp; go_at_call 90; (with_reducible refine (HN2.out _ (HT.out.rdr.below (Below.refl _ _).drew) (HT.out.but.trans (But.of_below (Below.refl _ _).drew))).mono ?_); rintro e w7 ⟨rfl, hr7, hb7⟩; have hk7 : w7.cell? ⟨g5, 1, none⟩ = some (.int .i64 at_) := (hb7.cell (b := g5) (o := 1) hz hne).trans k0; have hf7 : w7.frozen? ⟨g5, 1, none⟩ = false := (hb7.frozen (b := g5) (o := 1) hz hne).trans ff0)
                | fail)
            all_goals
              go_wp2_with fail
              go_meet
              exact ((HT.out.quiet (Below.refl _ _).drew).call hr7 hb7).set 1 (.int .i64 (at_ + n2)) ⟨ao + (n1 : Int), at_ + n2, ap⟩ rfl
          case rest =>
            have HU := hide hcut
            clear hcut k0 ff0 HN2 HT hz hne hw3
            have hz := HU.out.glt
            have hne := HU.out.gne
            obtain ⟨⟨-, -, k0⟩, -, -, ff0⟩ := HU.out.cells
            simp only at k0
            go_upto_region 7 with fail
            go_cut [32] from 9 to 41 (fun _ wx => RmSt w wx p g l s4 g5 ⟨ao + (n1 : Int), at_ + n2, ap + (n3 : Int)⟩ (.slice A ms.length c) ms)
            case first =>
              go_region_law
                (first
                  | (go_simp; go_at_call 46; (with_reducible refine (HN3.out _ (HU.out.rdr.below (Below.refl _ _).drew) (HU.out.but.trans (But.of_below (Below.refl _ _).drew))).mono ?_); rintro e w7 ⟨rfl, hr7, hb7⟩; have hk7 : w7.cell? ⟨g5, 2, none⟩ = some (.int .i64 ap) := (hb7.cell (b := g5) (o := 2) hz hne).trans k0; have hf7 : w7.frozen? ⟨g5, 2, none⟩ = false := (hb7.frozen (b := g5) (o := 2) hz hne).trans ff0)
                  | fail)
              all_goals
                go_wp2_with fail
                go_meet
                exact ((HU.out.quiet (Below.refl _ _).drew).call hr7 hb7).set 2 (.int .i64 (ap + (n3 : Int))) ⟨ao + (n1 : Int), at_ + n2, ap + (n3 : Int)⟩ rfl
            case rest =>
              have HV := hide hcut
              clear hcut k0 ff0 HN3 HU hz hne hw4 hw5
              obtain ⟨⟨k0, k1, k2⟩, -⟩ := HV.out.cells
              simp only at k0 k1 k2
              generalize ao + (n1 : Int) = bo at *
              generalize at_ + n2 = bt at *
              generalize ap + (n3 : Int) = bp at *
              have hmb : ms.length ≤ 4096 := by omega
              rename World => wv
              go_wp2_with (first
                | (at_builtin; refine wpList_appG (w := wv.alloc _) rfl 52 91 3 24 _ (by kernel_rfl) mk_info rfl (by omega) (.tmp 38) (.tmp 40) rfl w.heap.size _ ms.length (ms.flatMap mkCells) rfl (HV.out.quiet (balloc (Below.refl _ _) _)).own ⟨wv.heap.size, 0, none⟩ 1 1 (mkCells ⟨bo, bt, bp⟩) rfl rfl (news3 (w := wv)) (by intro u hu; simp [mkCells] at hu; rcases hu with rfl | rfl | rfl <;> rfl) (by simp only [maxLen]; omega) (by omega) (by have := HV.out.but.size; simp; omega) ?_; intro v8 w8 hown8 hg8 hv8; have HP := hide (HV.out.push rfl hg8 hown8 hv8); obtain ⟨A8, n8, k8, e8⟩ := own_slice hown8; subst e8; have HN8 := hide (own_len hown8); clear hown8 hg8 hv8)
                | fail)
              go_roundw
              case rel =>
                refine ⟨ms ++ [⟨bo, bt, bp⟩], s4, ?_, ?_, by simp; omega, ?_⟩
                · rw [HLF.out]; exact HP.out
                · rw [HLP.out, HON.out]
                · rw [HLF.out, List.length_append]; exact HFS.out
              case measure => have := HN8.out; simp only [slen]; omega
      · have HEND := hide (Ix.rloop_end l M s1 ms (fun hh => hc hh.2))
        go_wp2_with (first
          | (go_at_call 48; refine HERR.out.mono ?_; rintro e w9 ⟨⟨E, rfl, hE⟩, rfl⟩; obtain ⟨ue, xe, rfl⟩ := hE.bad hc; have hnil := eqn_nil ue xe; clear hE)
          | fail)
        go_ret
        exact ⟨_, (ms, s1), by rw [HLP.out, HEND.out], rfl, HST.out.rdr, HST.out.own, HST.out.but⟩
    · have HEND := hide (Ix.rloop_end l M s1 ms (fun hh => hlt hh.1))
      have dlt : decide ((ms.length : Int) < M) = false := decide_eq_false (by omega)
      go_wp2_with fail
      go_ret
      exact ⟨_, (ms, s1), by rw [HLP.out, HEND.out], rfl, HST.out.rdr, HST.out.own, HST.out.but⟩
end Go.Proofs.YtoaioijgmbhhnaaDoor

namespace Go.Proofs.YtoaioijgmbhhnaaDoor
open Go.RowKit

/-- A row of marks, as it is read. -/
structure MarksAt (w : World) (A : Option Addr) (c : Nat) (ms : List Ix.Mark) : Prop where
  le : ms.length ≤ c
  at_ : ∀ k, k < ms.length → ∃ g, A = some ⟨g, 0, none⟩ ∧ g < w.heap.size ∧ w.cell? ⟨g, k * 3, none⟩ = some (.int .i64 (ms.getD k Ix.z0).off) ∧ w.cell? ⟨g, k * 3 + 1, none⟩ = some (.int .i64 (ms.getD k Ix.z0).time) ∧ w.cell? ⟨g, k * 3 + 2, none⟩ = some (.int .i64 (ms.getD k Ix.z0).pos)
theorem marks_at {w : World} {base : Nat} {v : Value} {ms : List Ix.Mark} (h : w.ownsRow base 91 3 v ms.length (ms.flatMap mkCells)) : ∃ A c, v = .slice A ms.length c ∧ MarksAt w A c ms := by
  rcases h.2 with ⟨e, k0⟩ | ⟨g, cap, cur, e, _, hh, hcap, _⟩
  · exact ⟨_, _, by rw [e, k0], by omega, fun k hk => by omega⟩
  · refine ⟨_, _, e, by omega, fun k hk => ⟨g, rfl, (Array.getElem?_eq_some_iff.1 hh).1, ?_⟩⟩
    obtain ⟨k1, k2, k3⟩ := mk_at ms k hk
    have hc := h.cells (g := g) (by rw [e]; rfl)
    have eg : ms.getD k Ix.z0 = ms[k] := by simp [List.getD, hk]
    rw [eg]
    refine ⟨?_, ?_, ?_⟩
    · have := hc _ _ k1; rwa [Addr.add_lit, Nat.zero_add] at this
    · have := hc _ _ k2; rwa [Addr.add_lit, Nat.zero_add] at this
    · have := hc _ _ k3; rwa [Addr.add_lit, Nat.zero_add] at this
theorem MarksAt.below {w w' : World} {A : Option Addr} {c : Nat} {ms : List Ix.Mark} (h : MarksAt w A c ms) (hb : Below w.heap.size w w') : MarksAt w' A c ms :=
  ⟨h.le, fun k hk => by
    obtain ⟨g, e, hg, h0, h1, h2⟩ := h.at_ k hk
    exact ⟨g, e, Nat.lt_of_lt_of_le hg hb.size, (hb.cell (p := ⟨g, k * 3, none⟩) hg).trans h0, (hb.cell (p := ⟨g, k * 3 + 1, none⟩) hg).trans h1, (hb.cell (p := ⟨g, k * 3 + 2, none⟩) hg).trans h2⟩⟩

set_option maxRecDepth 100000 in
set_option maxHeartbeats 2000000 in
theorem ixRise_any (A : Option Addr) (c : Nat) (ms : List Ix.Mark) (w : World) (h : MarksAt w A c ms) (hn : ms.length ≤ 1000000) :
    Calls Tryd.prog 51 #[.slice A ms.length c] w fun e w' => e = .returned (.bool (Ix.riseB ms)) ∧ ∃ q, w' = w.drewN q := by
  have HC := hide h.at_
  have HR := hide (Ix.riseB_iff ms)
  have hc := h.le
  obtain ⟨b, hb⟩ : ∃ b, b = Ix.riseB ms := ⟨_, rfl⟩
  rw [← hb] at HR ⊢
  obtain ⟨n, hne⟩ : ∃ n, n = ms.length := ⟨_, rfl⟩
  rw [← hne] at HC hc hn ⊢
  have HNE := hide hne
  clear h hb hne
  go_enter Tryd.func51, Tryd.ntmps51
  go_wp2_with fail
  go_loopw [3] (fun iv wr => ∃ j : Nat, iv = .int .i64 ((j : Int) + 1) ∧ (j = 0 ∨ j + 1 ≤ n) ∧ (∀ i, i < j → (ms.getD i Ix.z0).off < (ms.getD (i + 1) Ix.z0).off ∧ (ms.getD i Ix.z0).pos < (ms.getD (i + 1) Ix.z0).pos) ∧ ∃ q, wr = w.drewN q) (fun iv _ => n + 1 - (intOf iv).toNat)
  case atStart => exact ⟨0, rfl, .inl rfl, fun i h => absurd h (Nat.not_lt_zero _), 0, rfl⟩
  case round =>
    obtain ⟨j, rfl, hj, hup, q, hq⟩ := hrel
    have HUP := hide hup
    have HQ := hide hq
    clear hup
    by_cases hjn : j + 1 < n
    · obtain ⟨g, rfl, -, a0, -, a2⟩ := HC.out j (by omega)
      obtain ⟨g', eg, -, b0, -, b2⟩ := HC.out (j + 1) hjn
      obtain rfl : g' = g := by injection eg with eg; injection eg with eg; exact eg.symm
      replace a0 : wr.cell? ⟨g', j * 3, none⟩ = some (.int .i64 (ms.getD j Ix.z0).off) := by rw [hq]; exact a0
      replace a2 : wr.cell? ⟨g', j * 3 + 2, none⟩ = some (.int .i64 (ms.getD j Ix.z0).pos) := by rw [hq]; exact a2
      replace b0 : wr.cell? ⟨g', (j + 1) * 3, none⟩ = some (.int .i64 (ms.getD (j + 1) Ix.z0).off) := by rw [hq]; exact b0
      replace b2 : wr.cell? ⟨g', (j + 1) * 3 + 2, none⟩ = some (.int .i64 (ms.getD (j + 1) Ix.z0).pos) := by rw [hq]; exact b2
      have hwj : IntKind.i64.wrap ((j : Int) + 1 - 1) = (j : Int) := by rw [IntKind.wrap_i64]; omega
      have hlt : decide (((j : Int) + 1) < n) = true := decide_eq_true (by omega)
      have HJ : Hid (∀ (x y : Int × Int), ((ms.getD j Ix.z0).off, (ms.getD j Ix.z0).pos) = x → ((ms.getD (j + 1) Ix.z0).off, (ms.getD (j + 1) Ix.z0).pos) = y → ((x.1 < y.1 ∧ x.2 < y.2) → ∀ i, i < j + 1 → (ms.getD i Ix.z0).off < (ms.getD (i + 1) Ix.z0).off ∧ (ms.getD i Ix.z0).pos < (ms.getD (i + 1) Ix.z0).pos) ∧ (¬ (x.1 < y.1 ∧ x.2 < y.2) → b = false)) := hide (by
        rintro x y rfl rfl
        refine ⟨fun h i hi => ?_, fun h => ?_⟩
        · by_cases e : i = j
          · subst e; exact h
          · exact HUP.out i (by omega)
        · by_cases hb : b = true
          · exact absurd (HR.out.1 hb j (by have := HNE.out; omega)) h
          · simpa using hb)
      have HJ2 := hide (HJ.out _ _ rfl rfl)
      clear HJ hq
      simp only at HJ2
      generalize (ms.getD j Ix.z0).off = x0 at *
      generalize (ms.getD j Ix.z0).pos = x2 at *
      generalize (ms.getD (j + 1) Ix.z0).off = y0 at *
      generalize (ms.getD (j + 1) Ix.z0).pos = y2 at *
      by_cases h0 : y0 ≤ x0
      · have d0 : decide (y0 ≤ x0) = true := decide_eq_true h0
        have HB := hide (HJ2.out.2 (fun hh => by omega))
        clear h0
        go_wp2_with fail
        go_quiet (fail)
        rename Nat => q1
        go_wp2_with fail
        go_ret
        exact ⟨by rw [HB.out]; rfl, by rw [HQ.out, World.drewN_drewN]; exact ⟨_, rfl⟩⟩
      · have d0 : decide (y0 ≤ x0) = false := decide_eq_false h0
        by_cases h2 : y2 ≤ x2
        · have d2 : decide (y2 ≤ x2) = true := decide_eq_true h2
          have HB := hide (HJ2.out.2 (fun hh => by omega))
          clear h0 h2
          go_wp2_with fail
          go_quiet (fail)
          rename Nat => q1
          go_wp2_with fail
          go_ret
          exact ⟨by rw [HB.out]; rfl, by rw [HQ.out, World.drewN_drewN]; exact ⟨_, rfl⟩⟩
        · have d2 : decide (y2 ≤ x2) = false := decide_eq_false h2
          have HB := hide (HJ2.out.1 (by omega))
          clear h0 h2
          go_wp2_with fail
          go_quiet (fail)
          rename Nat => q1
          go_wp2_with fail
          go_roundw
          case rel => exact ⟨j + 1, by go_num, .inr (by omega), HB.out, by rw [HQ.out, World.drewN_drewN]; exact ⟨_, rfl⟩⟩
          case measure => simp [intOf]; omega
    · have hlt : decide (((j : Int) + 1) < n) = false := decide_eq_false (by omega)
      have HB : Hid (b = true) := hide (HR.out.2 fun i hi => HUP.out i (by have := HNE.out; omega))
      clear hq
      go_wp2_with fail
      go_ret
      exact ⟨by rw [HB.out]; rfl, q, HQ.out⟩

set_option maxRecDepth 100000 in
set_option maxHeartbeats 2000000 in
theorem ixRight_any (A : Option Addr) (c : Nat) (ms : List Ix.Mark) (w : World) (h : MarksAt w A c ms) (hn : ms.length ≤ 1000000) :
    Calls Tryd.prog 52 #[.slice A ms.length c] w fun e w' => e = .returned (.bool (Ix.rightB ms)) ∧ Below w.heap.size w w' := by
  have HC := hide h.at_
  have HR := hide (Ix.rightB_iff ms)
  have hc := h.le
  obtain ⟨b, hb⟩ : ∃ b, b = Ix.rightB ms := ⟨_, rfl⟩
  rw [← hb] at HR ⊢
  obtain ⟨n, hne⟩ : ∃ n, n = ms.length := ⟨_, rfl⟩
  rw [← hne] at HC hc hn ⊢
  have HNE := hide hne
  clear h hb hne
  go_enter Tryd.func52, Tryd.ntmps52
  go_wp2_with fail
  go_loopw [7] (fun iv wr => ∃ j : Nat, j ≤ n ∧ iv = .int .i64 j ∧ (∀ i, i < j → Ix.okM (ms.getD i Ix.z0)) ∧ Below w.heap.size w wr) (fun iv _ => n - (intOf iv).toNat)
  case atStart => exact ⟨0, Nat.zero_le _, rfl, fun i h => absurd h (Nat.not_lt_zero _), Below.refl _ _⟩
  case round =>
    obtain ⟨j, hj, rfl, hup, hb⟩ := hrel
    have HUP := hide hup
    have HB := hide hb
    clear hup hb
    by_cases hjn : j < n
    · obtain ⟨g, rfl, hg, a0, a1, a2⟩ := HC.out j hjn
      replace a0 := (HB.out.cell (p := ⟨g, j * 3, none⟩) hg).trans a0
      replace a1 := (HB.out.cell (p := ⟨g, j * 3 + 1, none⟩) hg).trans a1
      replace a2 := (HB.out.cell (p := ⟨g, j * 3 + 2, none⟩) hg).trans a2
      have HJ : Hid ((Ix.okM (ms.getD j Ix.z0) → ∀ i, i < j + 1 → Ix.okM (ms.getD i Ix.z0)) ∧ (¬ Ix.okM (ms.getD j Ix.z0) → b = false)) := hide ⟨fun h i hi => by
        by_cases e : i = j
        · subst e; exact h
        · exact HUP.out i (by omega), fun h => by
        by_cases hb : b = true
        · refine absurd (HR.out.1 hb _ ?_) h
          have hjl : j < ms.length := by have := HNE.out; omega
          rw [show ms.getD j Ix.z0 = ms[j] from by simp [List.getD, hjl]]
          exact List.getElem_mem hjl
        · simpa using hb⟩
      obtain ⟨m, hm⟩ : ∃ m, m = ms.getD j Ix.z0 := ⟨_, rfl⟩
      rw [← hm] at HJ a0 a1 a2
      clear hm
      obtain ⟨mo, mt, mp⟩ := m
      simp only at a0 a1 a2
      have HO := hide (fun V => rightO_any mo V)
      have HT := hide (fun V => rightT_any mt V)
      have HP := hide (fun V => rightP_any mp V)
      by_cases h0 : Ix.okO mo
      · rw [decide_eq_true h0] at HO
        by_cases h1 : Ix.okT mt
        · rw [decide_eq_true h1] at HT
          by_cases h2 : Ix.okP mp
          · rw [decide_eq_true h2] at HP
            have HG := hide (HJ.out.1 ⟨h0, h1, h2⟩)
            clear h0 h1 h2
            go_wp2_with (first
              | (go_at_call 82; refine (HO.out _).mono ?_; rintro e w2 ⟨rfl, e⟩; subst e)
              | (go_at_call 83; refine (HT.out _).mono ?_; rintro e w2 ⟨rfl, e⟩; subst e)
              | (go_at_call 84; refine (HP.out _).mono ?_; rintro e w2 ⟨rfl, e⟩; subst e)
              | fail)
            go_roundw
            case rel => exact ⟨j + 1, by omega, by go_num, HG.out, balloc HB.out _⟩
            case measure => simp [intOf]; omega
          · rw [decide_eq_false h2] at HP
            have HG := hide (HJ.out.2 (fun hh => h2 hh.2.2))
            clear h0 h1 h2
            go_wp2_with (first
              | (go_at_call 82; refine (HO.out _).mono ?_; rintro e w2 ⟨rfl, e⟩; subst e)
              | (go_at_call 83; refine (HT.out _).mono ?_; rintro e w2 ⟨rfl, e⟩; subst e)
              | (go_at_call 84; refine (HP.out _).mono ?_; rintro e w2 ⟨rfl, e⟩; subst e)
              | fail)
            go_ret
            exact ⟨by rw [HG.out]; rfl, balloc HB.out _⟩
        · rw [decide_eq_false h1] at HT
          have HG := hide (HJ.out.2 (fun hh => h1 hh.2.1))
          clear h0 h1
          go_wp2_with (first
            | (go_at_call 82; refine (HO.out _).mono ?_; rintro e w2 ⟨rfl, e⟩; subst e)
            | (go_at_call 83; refine (HT.out _).mono ?_; rintro e w2 ⟨rfl, e⟩; subst e)
            | fail)
          go_ret
          exact ⟨by rw [HG.out]; rfl, balloc HB.out _⟩
      · rw [decide_eq_false h0] at HO
        have HG := hide (HJ.out.2 (fun hh => h0 hh.1))
        clear h0
        go_wp2_with (first
          | (go_at_call 82; refine (HO.out _).mono ?_; rintro e w2 ⟨rfl, e⟩; subst e)
          | fail)
        go_ret
        exact ⟨by rw [HG.out]; rfl, balloc HB.out _⟩
    · have HG : Hid (b = true) := hide (HR.out.2 fun m hm => by
        obtain ⟨i, hi, rfl⟩ := List.getElem_of_mem hm
        have := HUP.out i (by have := HNE.out; omega)
        rwa [show ms.getD i Ix.z0 = ms[i] from by simp [List.getD, hi]] at this)
      go_wp2_with fail
      go_ret
      exact ⟨by rw [HG.out]; rfl, HB.out⟩
end Go.Proofs.YtoaioijgmbhhnaaDoor

namespace Go.Proofs.YtoaioijgmbhhnaaDoor
open Go.RowKit

set_option maxRecDepth 100000 in
set_option maxHeartbeats 4000000 in
theorem ixKeep_any (X : Nat) (s : Ix.St) (S : Nat → Prop) (o t p : Int) (w : World) (h : IxAt w X s S) (hn : s.adds.length ≤ 1000000) (hm : s.marks.length ≤ 1000000) :
    Calls Tryd.prog 53 #[.pointer (some ⟨X, 0, none⟩), .agg #[.int .i64 o, .int .i64 t, .int .i64 p]] w fun r w' => r = .returned (.tuple #[]) ∧ IxAt w' X ⟨s.every, s.marks ++ [⟨o, t, p⟩], s.adds ++ [⟨o, p⟩], max s.time t⟩ (Up S w w') ∧ Chg S w w' := by
  obtain ⟨mv, av, h⟩ := h
  obtain ⟨B, hB⟩ : ∃ B, B = w.heap.size := ⟨_, rfl⟩
  obtain ⟨W, hW⟩ : ∃ W, W = w.alloc (.cells #[.int .i64 o, .int .i64 t, .int .i64 p] 91) := ⟨_, rfl⟩
  have hbl : Below w.heap.size w W := by rw [hW]; exact balloc (Below.refl _ _) _
  have bx : W.heap[B]? = some (.cells #[.int .i64 o, .int .i64 t, .int .i64 p] 91 (0, 0)) := by rw [hB, hW]; exact heap_alloc_new _ _
  have b0 : W.cell? ⟨B, 0, none⟩ = some (.int .i64 o) := box_cell bx 0
  have b1 : W.cell? ⟨B, 1, none⟩ = some (.int .i64 t) := box_cell bx 1
  have b2 : W.cell? ⟨B, 2, none⟩ = some (.int .i64 p) := box_cell bx 2
  have hl0 := h.same (S := S) fun k _ hk => hbl.block k hk
  have hX := (Array.getElem?_eq_some_iff.1 h.box).1
  have hBW : B < W.heap.size := (Array.getElem?_eq_some_iff.1 bx).1
  have nBX : B ≠ X := by omega
  have hmB : ∀ g, mv.ownBlock = some g → g < B := fun g hg => hB ▸ (h.marks.lt g hg).2
  have haB : ∀ g, av.ownBlock = some g → g < B := fun g hg => hB ▸ (h.adds.lt g hg).2
  have HMB := hide hmB
  have HAB := hide haB
  have HL0 := hide hl0
  have HW := hide hW
  have HB := hide hbl
  have HBX := hide bx
  have HN := hide hn
  have HM := hide hm
  have HBE := hide hB
  have HX := hide hX
  have m1 : W.cell? ⟨X, 1, none⟩ = some mv := box_cell hl0.box 1
  have HBM : Hid (Below W.heap.size W (W.drew.alloc (.cells #[.int .i64 o, .int .i64 t, .int .i64 p] 91))) := hide (balloc (Below.refl W.heap.size W).drew _)
  have m11 : (W.alloc (.cells #[.int .i64 o, .int .i64 t, .int .i64 p] 91)).cell? ⟨X, 1, none⟩ = some mv := ((balloc (Below.refl W.heap.size W) _).cell (p := ⟨X, 1, none⟩) (World.block_lt_of_cell? _ _ m1)).trans m1
  clear h hn hm hbl hW hl0 hX hmB haB bx hB
  go_enter Tryd.func53, Tryd.ntmps53
  go_upto_region 1 with fail
  rw [← HW.out, ← HBE.out]
  go_cut [4] (fun _ wx => (∃ mv', IxL wx X mv' av ⟨s.every, s.marks ++ [⟨o, t, p⟩], s.adds, s.time⟩ (Up S w wx)) ∧ Chg S w wx ∧ wx.heap[B]? = some (.cells #[.int .i64 o, .int .i64 t, .int .i64 p] 91 (0, 0)))
  case first =>
    go_region_law (refine step_appR (by rfl) 52 91 3 24 _ (by kernel_rfl) mk_info (by rfl) (by omega) (.tmp 8) (.tmp 10) (by rfl) 0 mv _ _ (by rfl) (ownsRow_same HL0.out.marks fun g hg => HBM.out.block g (HL0.out.marks.lt g hg).2) ⟨W.heap.size, 0, none⟩ 1 1 (mkCells ⟨o, t, p⟩) (by rfl) (by rfl) (news3 (w := W.drew)) (by intro u hu; simp [mkCells] at hu; rcases hu with rfl | rfl | rfl <;> rfl) (by have := HM.out; simp [maxLen]; omega) (by have := HM.out; simp; omega) (Nat.zero_le _) ?_; intro v4 w4 ho4 hg4 hv4; obtain ⟨A4, n4, k4, e4⟩ := own_slice ho4; subst e4; have hb4 := HL0.out.boxed HBM.out hg4 HL0.out.ne.1; have a41 : w4.cell? ⟨X, 1, none⟩ = some mv := box_cell hb4 1; have f41 := box_free hb4 1; have HB4 := hide ((hg4.block B (Nat.lt_of_lt_of_le hBW HBM.out.size) (fun e => by have := HMB.out B e.symm; omega)).trans ((HBM.out.block B hBW).trans HBX.out)); have HPM := hide (HL0.out.pushMk HBM.out ⟨o, t, p⟩ ho4 hg4 hv4); clear ho4 hg4 hv4 hb4)
    all_goals
      go_wp2_with fail
      go_meet
      obtain ⟨hl5, hc5⟩ := HPM.out
      have hf5 := ixFin HB.out (Chg.refl S W) hl5 hc5
      exact ⟨⟨_, hf5.1⟩, hf5.2, (Below.heap_setCell _ _ _ _ nBX).trans HB4.out⟩
  case rest =>
    obtain ⟨⟨mv', hl5⟩, hc5, hbx5⟩ := hcut
    clear b0 b1 b2 m1 m11 HBM hBW
    rename World => w5
    have HF5 := hide (And.intro hl5 hc5)
    have HBX5 := hide hbx5
    have q0 : w5.cell? ⟨B, 0, none⟩ = some (.int .i64 o) := box_cell hbx5 0
    have q2 : w5.cell? ⟨B, 2, none⟩ = some (.int .i64 p) := box_cell hbx5 2
    have m2 : w5.cell? ⟨X, 2, none⟩ = some av := box_cell hl5.box 2
    have hBW5 : B < w5.heap.size := (Array.getElem?_eq_some_iff.1 hbx5).1
    have HBA : Hid (Below w5.heap.size w5 (w5.drew.alloc (.cells #[.int .i64 o, .int .i64 p] 133))) := hide (balloc (Below.refl w5.heap.size w5).drew _)
    have m22 : (w5.alloc (.cells #[.int .i64 o, .int .i64 p] 133)).cell? ⟨X, 2, none⟩ = some av := ((balloc (Below.refl w5.heap.size w5) _).cell (p := ⟨X, 2, none⟩) (World.block_lt_of_cell? _ _ m2)).trans m2
    clear hl5 hc5 hbx5
    go_upto_region 2 with fail
    go_cut [14] (fun _ wx => (∃ av', IxL wx X mv' av' ⟨s.every, s.marks ++ [⟨o, t, p⟩], s.adds ++ [⟨o, p⟩], s.time⟩ (Up S w wx)) ∧ Chg S w wx ∧ wx.heap[B]? = some (.cells #[.int .i64 o, .int .i64 t, .int .i64 p] 91 (0, 0)))
    case first =>
      go_region_law (refine step_appR (by rfl) 118 133 2 16 _ (by kernel_rfl) ad_info (by rfl) (by omega) (.tmp 18) (.tmp 24) (by rfl) 0 av _ _ (by rfl) (ownsRow_same HF5.out.1.adds fun g hg => HBA.out.block g (HF5.out.1.adds.lt g hg).2) ⟨w5.heap.size, 0, none⟩ 1 1 (adCells ⟨o, p⟩) (by rfl) (by rfl) (news2 (w := w5.drew)) (by intro u hu; simp [adCells] at hu; rcases hu with rfl | rfl <;> rfl) (by have := HN.out; simp [maxLen]; omega) (by have := HN.out; simp; omega) (Nat.zero_le _) ?_; intro v6 w6 ho6 hg6 hv6; obtain ⟨A6, n6, k6, e6⟩ := own_slice ho6; subst e6; have hb6 := HF5.out.1.boxed HBA.out hg6 HF5.out.1.ne.2.1; have a62 : w6.cell? ⟨X, 2, none⟩ = some av := box_cell hb6 2; have f62 := box_free hb6 2; have HB6 := hide ((hg6.block B (Nat.lt_of_lt_of_le hBW5 HBA.out.size) (fun e => by have := HAB.out B e.symm; omega)).trans ((HBA.out.block B hBW5).trans HBX5.out)); have HPA := hide (HF5.out.1.pushAd HBA.out ⟨o, p⟩ ho6 hg6 hv6); clear ho6 hg6 hv6 hb6)
      all_goals
        go_wp2_with fail
        go_meet
        obtain ⟨hl7, hc7⟩ := HPA.out
        have h5 := HF5.out.2
        exact ⟨⟨_, hl7.mono (up_up h5.size hc7.size)⟩, h5.up hc7, (Below.heap_setCell _ _ _ _ nBX).trans HB6.out⟩
    case rest =>
      obtain ⟨⟨av', hl7⟩, hc7, hbx7⟩ := hcut
      clear q0 q2 m2 m22 HBA hBW5 HF5 HBX5
      rename World => w7
      have HL7 := hide hl7
      have HC7 := hide hc7
      have q1 : w7.cell? ⟨B, 1, none⟩ = some (.int .i64 t) := box_cell hbx7 1
      have q3 : w7.cell? ⟨X, 3, none⟩ = some (.int .i64 s.time) := box_cell hl7.box 3
      have f3 := box_free hl7.box 3
      clear hl7 hc7 hbx7
      go_upto_region 3 with fail
      go_region
      go_wp2_with fail
      all_goals
        go_end0
        first
        | (obtain ⟨hl, hc⟩ := HL7.out.setTime t
           rw [show max s.time t = t from Int.max_eq_right (by omega)]
           exact ⟨rfl, ⟨mv', av', (hl.mono fun k hk => by rcases hk with hk | hk; exact .inl hk; exact .inr ⟨hk.1, by simpa using hk.2⟩).same fun _ _ _ => rfl⟩, (HC7.out.up hc).then ⟨rfl, rfl, rfl, Nat.le_refl _, fun _ _ _ => rfl⟩⟩)
        | (obtain ⟨hl, hc⟩ := HL7.out.setTime s.time
           rw [show max s.time t = s.time from Int.max_eq_left (by omega)]
           exact ⟨rfl, ⟨mv', av', (hl.mono fun k hk => by rcases hk with hk | hk; exact .inl hk; exact .inr ⟨hk.1, by simpa using hk.2⟩).same fun _ _ _ => rfl⟩, (HC7.out.up hc).then ⟨rfl, rfl, rfl, Nat.le_refl _, fun _ _ _ => rfl⟩⟩)
end Go.Proofs.YtoaioijgmbhhnaaDoor

namespace Go.Proofs.YtoaioijgmbhhnaaDoor
open Go.RowKit

namespace Ix
/-- What is amiss with an index's bytes, their sum too. -/
def fault4 (good : Bool) (b : List UInt8) : Nat × Option Nat := if b.length < 4 then (101, none) else if good = false then (102, none) else fault (b.take (b.length - 4))
theorem ofMarks_snoc (e : Int) (l : List Mark) (m : Mark) : ofMarks e (l ++ [m]) = ⟨e, (ofMarks e l).marks ++ [m], (ofMarks e l).adds ++ [⟨m.off, m.pos⟩], max (ofMarks e l).time m.time⟩ := by
  simp [ofMarks, List.foldl_append]
theorem tail_len (l : List UInt8) : (tail l).1.length ≤ 4096 := by
  have h1 := rloop_len l (head2 l).1 (head2 l).1 (head2 l).2 []
  have h2 := num_le l (head1 l).2 4096
  unfold tail
  unfold head2 at h1 h2 ⊢
  rw [List.length_nil, Nat.zero_add] at h1
  omega
end Ix
/-- An error is this fault. -/
def FltIs (w : World) (p : Nat → Addr) (E : Value) (q : Nat × Option Nat) : Prop :=
  (q = (0, none) ∧ E = .nilIface) ∨ (q.2 = none ∧ (101 ≤ q.1 ∧ q.1 ≤ 105 ∧ q.1 ≠ 104) ∧ E = errV (p (q.1 - 101))) ∨
  ∃ h a, q.2 = some a ∧ (q.1 = 103 ∨ q.1 = 105) ∧ E = atV h ∧ h < w.heap.size ∧ w.cell? ⟨h, 0, none⟩ = some (.int .i64 (a : Nat)) ∧ w.cell? ⟨h, 1, none⟩ = some (errV (p (q.1 - 101)))
theorem FltIs.below {w w' : World} {p : Nat → Addr} {E : Value} {q : Nat × Option Nat} (h : FltIs w p E q) (hb : Below w.heap.size w w') : FltIs w' p E q := by
  rcases h with h | h | ⟨x, a, h1, h2, h3, h4, h5, h6⟩
  · exact .inl h
  · exact .inr (.inl h)
  · exact .inr (.inr ⟨x, a, h1, h2, h3, Nat.lt_of_lt_of_le h4 hb.size, (hb.cell (p := ⟨x, 0, none⟩) h4).trans h5, (hb.cell (p := ⟨x, 1, none⟩) h4).trans h6⟩)
theorem FltIs.of_err {w : World} {p : Nat → Addr} {g : Nat} {E : Value} {s : Vi.Rs} (h : ErrIs w p g E s) : FltIs w p E (s.code, s.pos) := by
  rcases h with ⟨h1, h2, h3⟩ | ⟨h1, h2, h3⟩ | ⟨x, a, h1, h2, h3, h4, h5, h6, h7⟩
  · exact .inl ⟨by rw [h1, h2], h3⟩
  · exact .inr (.inl ⟨h2, by rw [h1]; omega, by rw [h1]; exact h3⟩)
  · exact .inr (.inr ⟨x, a, h2, h1, h3, h5, h6, h7⟩)
abbrev SentsI (w : World) (p : Nat → Addr) : Prop := SentsOn (fun j => j < 5 ∧ j ≠ 3) w p
/-- What Read answers. -/
def ReadIs (p : Nat → Addr) (q : Nat × Option Nat) (st : Ix.St) (w : World) (e : Ending) (w' : World) : Prop :=
  Below w.heap.size w w' ∧ ∃ E, FltIs w' p E q ∧ ((q.1 ≠ 0 ∧ e = .returned (.tuple #[.pointer none, E])) ∨ (q.1 = 0 ∧ ∃ X, e = .returned (.tuple #[.pointer (some ⟨X, 0, none⟩), E]) ∧ IxAt w' X st (fun k => w.heap.size ≤ k ∧ k < w'.heap.size)))

set_option maxRecDepth 100000 in
theorem ixNew_low (e : Int) (w : World) (p : Nat → Addr) (h : e < 1) (c4 : w.cell? ⟨0, 0, none⟩ = some (errV (p 4))) :
    Calls Tryd.prog 42 #[.int .i64 e] w fun r w' => r = .returned (.tuple #[.pointer none, errV (p 4)]) ∧ Below w.heap.size w w' := by
  have d1 : decide (e < 1) = true := decide_eq_true h
  unfold errV at *
  go_enter Tryd.func42, Tryd.ntmps42
  go_wp2_with fail
  go_quiet (fail)
  go_wp2_with fail
  go_ret2
  exact ⟨rfl, below_drewN (Below.refl _ _) _⟩

/-- Of no more than three bytes, or of a sum that is wrong. -/
theorem ixRead_bad (A : Option Addr) (cap : Nat) (b : List UInt8) (w : World) (p : Nat → Addr) (good : Bool) (hg : good = true ↔ Crc.opens b) (hl : b.length ≤ 1000000) (ha : Arg w A cap b) (ht : Tabs w) (hs : SentsI w p) (hbad : b.length < 4 ∨ good = false) (st : Ix.St) :
    Calls Tryd.prog 20 #[.slice A b.length cap] w (ReadIs p (Ix.fault4 good b) st w) := by
  have hO : SentsO w p := hs.mono fun j hj => by omega
  by_cases h4 : b.length < 4
  · have HO := hide (open_shortA A cap b.length w p h4 hO)
    have HF : Hid (Ix.fault4 good b = (101, none)) := hide (if_pos h4)
    have hn : ∀ W, (binOp .neq 26 (errV (p 0)) .nilIface).run Tryd.prog W = .ok (.bool true) W := fun W => neq_nil _ _ W
    clear hg ha ht hs hbad hO
    unfold errV at hn
    go_enter Tryd.func20, Tryd.ntmps20
    go_wp2_with (first
      | (go_at_call 44; refine HO.out.mono ?_; rintro e w1 ⟨rfl, hb⟩; have HB := hide hb; clear hb; unfold errV)
      | fail)
    go_ret2
    rw [HF.out]
    exact ⟨HB.out, _, .inr (.inl ⟨rfl, by simp, rfl⟩), .inl ⟨by simp, rfl⟩⟩
  · have hgf : good = false := by rcases hbad with h | h; exact absurd h h4; exact h
    have HO := hide (open_atA A cap b w p good hg (by omega) hl ha ht hO)
    rw [hgf] at HO
    have HF : Hid (Ix.fault4 good b = (102, none)) := hide (by unfold Ix.fault4; rw [if_neg h4, if_pos hgf])
    have hn : ∀ W, (binOp .neq 26 (errV (p 1)) .nilIface).run Tryd.prog W = .ok (.bool true) W := fun W => neq_nil _ _ W
    clear hg ha ht hs hbad hO hgf
    unfold errV at hn
    go_enter Tryd.func20, Tryd.ntmps20
    go_wp2_with (first
      | (go_at_call 44; refine HO.out.mono ?_; rintro e w1 ⟨hb, he⟩; simp only [Bool.false_eq_true, if_false] at he; subst he; have HB := hide hb; clear hb; unfold errV)
      | fail)
    go_ret2
    rw [HF.out]
    exact ⟨HB.out, _, .inr (.inl ⟨rfl, by simp, rfl⟩), .inl ⟨by simp, rfl⟩⟩
end Go.Proofs.YtoaioijgmbhhnaaDoor

namespace Go.Proofs.YtoaioijgmbhhnaaDoor
open Go.RowKit

theorem But.bel {g : Nat} {w0 w w' : World} {C : Nat} (h : But g w w') (hb : Below C w0 w) (hC : C ≤ w.heap.size) (hg : C ≤ g) : Below C w0 w' := hb.grown h.grown hC fun k hk => by injection hk with hk; omega

/-- An index that is new since w0. -/
structure IxN (w0 : World) (X : Nat) (s : Ix.St) (w : World) : Prop where
  ix : IxAt w X s (fun k => w0.heap.size ≤ k ∧ k < w.heap.size)
  bel : Below w0.heap.size w0 w
theorem IxN.below {w0 : World} {X : Nat} {s : Ix.St} {w w' : World} (h : IxN w0 X s w) (hb : Below w.heap.size w w') : IxN w0 X s w' :=
  ⟨(h.ix.same fun k _ hk => hb.block k hk).mono fun k hk => ⟨hk.1, Nat.lt_of_lt_of_le hk.2 hb.size⟩, h.bel.trans (hb.mono h.bel.size)⟩
theorem IxN.keep {w0 : World} {X : Nat} {e : Int} {l : List Ix.Mark} {w : World} (h : IxN w0 X (Ix.ofMarks e l) w) (hn : l.length ≤ 1000000) (o t p : Int) :
    Calls Tryd.prog 53 #[.pointer (some ⟨X, 0, none⟩), .agg #[.int .i64 o, .int .i64 t, .int .i64 p]] w fun r w' => r = .returned (.tuple #[]) ∧ IxN w0 X (Ix.ofMarks e (l ++ [⟨o, t, p⟩])) w' := by
  refine (ixKeep_any X _ _ o t p w h.ix (by simpa [Ix.ofMarks] using hn) hn).mono ?_
  rintro r w' ⟨rfl, hi, hc⟩
  have hz := h.bel.size
  have hcs := hc.size
  rw [Ix.ofMarks_snoc]
  refine ⟨rfl, hi.mono fun k hk => ?_, h.bel.trans (hc.below hz fun k hk => hk.1)⟩
  rcases hk with hk | hk
  · exact ⟨hk.1, by omega⟩
  · exact ⟨by omega, hk.2⟩

set_option maxRecDepth 100000 in
set_option maxHeartbeats 4000000 in
theorem ixRead_good (A : Option Addr) (cap : Nat) (b : List UInt8) (w : World) (p : Nat → Addr) (hg : Crc.opens b) (h4 : 4 ≤ b.length) (hl : b.length ≤ 1000000) (ha : Arg w A cap b) (ht : Tabs w) (hs : SentsI w p) :
    Calls Tryd.prog 20 #[.slice A b.length cap] w (ReadIs p (Ix.fault (b.take (b.length - 4))) (Ix.read (b.take (b.length - 4))) w) := by
  have hO : SentsO w p := hs.mono fun j hj => by omega
  have hO1 := open_atA A cap b w p true ⟨fun _ => hg, fun _ => rfl⟩ h4 hl ha ht hO
  have HO := hide hO1
  obtain ⟨l, hle⟩ : ∃ l, l = b.take (b.length - 4) := ⟨_, rfl⟩
  obtain ⟨n, hn⟩ : ∃ n, n = b.length - 4 := ⟨_, rfl⟩
  have hln : l.length = n := by rw [hle, List.length_take, hn]; omega
  have hnb : n ≤ 1000000 := by omega
  have HO' : Hid (Calls Tryd.prog 44 #[.slice A b.length cap] w fun e w' => ∃ A1 c1, e = .returned (.tuple #[.slice A1 n c1, .nilIface]) ∧ Arg w' A1 c1 l ∧ Below w.heap.size w w') := hide (hO1.mono fun e w' ⟨hb, he⟩ => by
    simp only [if_true] at he
    obtain ⟨A1, c1, h1, h2⟩ := he
    exact ⟨A1, c1, by rw [hn]; exact h1, by rw [hle]; exact h2, hb⟩)
  rw [← hle]
  have HS := hide hs
  have HLN := hide hln
  have HLL : Hid (l.length ≤ 1000000) := hide (by omega)
  have hm1 := num_le l (fine 0) 1048576
  have HH1 : Hid (Ix.head1 l = Vi.num l (fine 0) 1048576) := hide rfl
  have HTL : Hid (∀ e s, Ix.head1 l = (e, s) → Ix.rloop l (Vi.num l s 4096).1 (Vi.num l s 4096).1 (Vi.num l s 4096).2 [] = Ix.tail l) := hide (fun e s h => by unfold Ix.tail Ix.head2; rw [h])
  have htl := Ix.tail_len l
  have HN1 := hide (fun W g (hr : Rdr W p g l start) (hs : SentsV W p) => num_any W p g l start 1048576 hr hs HLL.out)
  simp only [show ((1048576 : Nat) : Int) = 1048576 from rfl, show start = fine 0 from rfl] at HN1
  generalize hN1 : Vi.num l (fine 0) 1048576 = N1 at *
  obtain ⟨ev, s1⟩ := N1
  simp only at hm1 HN1
  have HT1 := hide (HTL.out _ _ HH1.out)
  have hwe : IntKind.i64.wrap (ev : Int) = (ev : Int) := by rw [IntKind.wrap_i64]; omega
  have HQ : Hid (Ix.fault l = if (Ix.tail l).2.code ≠ 0 then ((Ix.tail l).2.code, (Ix.tail l).2.pos) else if (Ix.tail l).2.at_ < l.length then (103, some (Ix.tail l).2.at_) else if (Ix.riseB (Ix.tail l).1 && Ix.rightB (Ix.tail l).1) = false then (103, none) else if ev < 1 then (105, none) else (0, none)) := hide (by unfold Ix.fault; rw [HH1.out])
  have HRD : Hid (Ix.read l = Ix.ofMarks ev (Ix.tail l).1) := hide (by unfold Ix.read; rw [HH1.out])
  obtain ⟨q, hq⟩ : ∃ q, q = Ix.fault l := ⟨_, rfl⟩
  obtain ⟨rd, hrd⟩ : ∃ rd, rd = Ix.read l := ⟨_, rfl⟩
  rw [← hq] at HQ ⊢
  rw [← hrd] at HRD ⊢
  generalize hT : Ix.tail l = T at *
  obtain ⟨ms, s2⟩ := T
  simp only at htl HQ HRD
  have HSB : Hid (∀ W, Below w.heap.size w W → SentsV W p) := hide (fun W hb => (HS.out.below hb).mono fun j hj => by omega)
  clear hs ha ht hg hO hO1 HO hle hn hln hq hrd hN1 hT HTL HH1
  go_enter Tryd.func20, Tryd.ntmps20
  go_wp2_with (first
    | (go_at_call 44; refine HO'.out.mono ?_; rintro e w1 ⟨A1, c1, rfl, ha1, hb⟩; have HB1 := hide hb; have HNR := hide (newReader_any A1 c1 n l w1 p HLN.out hnb ha1); clear hb ha1)
    | (go_at_call 45; refine HNR.out.mono ?_; rintro e w2 ⟨g, rfl, hgl, hr2, hb⟩; have HR2 := hide hr2; have HB2 := hide (HB1.out.trans (hb.mono HB1.out.size)); have HGL : Hid (w.heap.size ≤ g) := hide (Nat.le_trans HB1.out.size hgl); clear hb hr2 hgl)
    | (go_at_call 46; refine (HN1.out _ _ HR2.out (HSB.out _ HB2.out)).mono ?_; rintro e w3 ⟨rfl, hr3, hb3⟩; have HR3 := hide hr3; have HB3 := hide (hb3.bel HB2.out HB2.out.size HGL.out); have HRM := hide (readMarks_any w3 p g l s1 hr3 (fun W hb => HSB.out W (hb.bel HB3.out HB3.out.size HGL.out)) HLL.out); clear hr3 hb3)
    | (go_at_call 47; refine HRM.out.mono ?_; rintro e w4 ⟨v4, T4, hT4, rfl, hr4, ho4, hb4⟩; rw [HT1.out] at hT4; subst hT4; have HR4 := hide hr4; have HB4 := hide (hb4.bel HB3.out HB3.out.size HGL.out); have HO4 := hide ho4; have HERR := hide (rerr_any w4 p g l _ hr4); clear hr4 ho4 hb4)
    | fail)
  simp only [Hid] at HR4 HO4 HERR
  replace HR4 := hide HR4
  replace HO4 := hide HO4
  replace HERR := hide HERR
  have HSS := hide (fun (W : World) (hb : Below w.heap.size w W) => HS.out.below hb)
  by_cases hc : s2.code = 0
  · have HQ1 : Hid (q = if s2.at_ < l.length then (103, some s2.at_) else if (Ix.riseB ms && Ix.rightB ms) = false then (103, none) else if ev < 1 then (105, none) else (0, none)) := hide (by rw [HQ.out, if_neg (by omega)])
    have HLFT := hide (rleft_any w4 p g l s2 HR4.out HLL.out)
    have hatl := HR4.out.ok.le
    by_cases hlt : s2.at_ < l.length
    · have HQ2 : Hid (q = (103, some s2.at_)) := hide (by rw [HQ1.out, if_pos hlt])
      obtain ⟨lf, hlf⟩ : ∃ lf : Nat, lf = l.length - s2.at_ := ⟨_, rfl⟩
      rw [← hlf] at HLFT
      have dl : decide (0 < lf) = true := decide_eq_true (by omega)
      clear hlf hlt hatl
      go_upto_region 10 with (first
        | (go_at_call 48; refine HERR.out.mono ?_; rintro e w9 ⟨⟨E, rfl, hE⟩, rfl⟩; obtain rfl := hE.good hc; clear hE)
        | (go_at_call 49; refine HLFT.out.mono ?_; rintro e w5 ⟨rfl, k5, rfl⟩)
        | fail)
      have HB5 : Hid (Below w.heap.size w (w4.drewN k5)) := hide (below_drewN HB4.out k5)
      have HR5 : Hid (Rdr (w4.drewN k5) p g l s2) := hide (HR4.out.below (below_drewN (Below.refl _ _) k5))
      generalize w4.drewN k5 = w5 at *
      have c2 : w5.cell? ⟨4, 0, none⟩ = some (errV (p 2)) := (HSS.out _ HB5.out).cell 2 (by omega)
      unfold errV at c2
      have HAT := hide (fun (W : World) (hb : Below w5.heap.size w5 W) => rat_any W p g l s2 (HR5.out.below hb))
      clear HERR HLFT HR4 HO4 HB4
      go_region_law
        (first
          | (go_simp; go_at_call 50; (with_reducible refine (HAT.out _ (Below.refl _ _).drew).mono ?_); rintro e w7 ⟨rfl, rfl⟩)
          | fail)
      all_goals
        go_wp2_with fail
        go_ret2
        rw [HQ2.out]
        refine ⟨(balloc HB5.out _).drew, _, .inr (.inr ⟨w5.heap.size, s2.at_, rfl, .inl rfl, rfl, by simp, ?_, ?_⟩), .inl ⟨by simp, rfl⟩⟩
        · show (w5.alloc _).cell? _ = _
          rw [World.cell?_alloc_mark]; rfl
        · show (w5.alloc _).cell? _ = _
          rw [World.cell?_alloc_mark]; rfl
    · have hz0 : l.length - s2.at_ = 0 := by omega
      have HQ2 : Hid (q = if (Ix.riseB ms && Ix.rightB ms) = false then (103, none) else if ev < 1 then (105, none) else (0, none)) := hide (by rw [HQ1.out, if_neg hlt])
      rw [hz0] at HLFT
      obtain ⟨A4, c4, rfl, hma⟩ := marks_at HO4.out
      have HMA := hide hma
      clear hz0 hlt hatl hma HQ1
      go_upto_region 11 with (first
        | (go_at_call 48; refine HERR.out.mono ?_; rintro e w9 ⟨⟨E, rfl, hE⟩, rfl⟩; obtain rfl := hE.good hc; clear hE)
        | (go_at_call 49; refine HLFT.out.mono ?_; rintro e w5 ⟨rfl, k5, rfl⟩)
        | fail)
      have HB5 : Hid (Below w.heap.size w (w4.drewN k5)) := hide (below_drewN HB4.out k5)
      have HM5 : Hid (MarksAt (w4.drewN k5) A4 c4 ms) := hide (HMA.out.below (below_drewN (Below.refl _ _) k5))
      generalize w4.drewN k5 = w5 at *
      clear HERR HLFT HR4 HO4 HB4 HMA
      have HRI := hide (ixRise_any A4 c4 ms w5 HM5.out (by omega))
      have HRG := hide (fun (W : World) (hb : Below w5.heap.size w5 W) => ixRight_any A4 c4 ms W (HM5.out.below hb) (by omega))
      cases hri : Ix.riseB ms with
      | false =>
        rw [hri] at HRI HQ2
        have HQ3 : Hid (q = (103, none)) := hide (by rw [HQ2.out]; rfl)
        go_upto_region 12 with (first
          | (go_at_call 51; refine HRI.out.mono ?_; rintro e w6 ⟨rfl, k6, rfl⟩)
          | fail)
        have HB6 : Hid (Below w.heap.size w (w5.drewN k6)) := hide (below_drewN HB5.out k6)
        generalize w5.drewN k6 = w6 at *
        have c2 : w6.cell? ⟨4, 0, none⟩ = some (errV (p 2)) := (HSS.out _ HB6.out).cell 2 (by omega)
        unfold errV at c2
        go_quiet (fail)
        rename Nat => k7
        go_wp2_with fail
        go_ret2
        rw [HQ3.out]
        exact ⟨below_drewN HB6.out k7, _, .inr (.inl ⟨rfl, by simp, rfl⟩), .inl ⟨by simp, rfl⟩⟩
      | true =>
        cases hrg : Ix.rightB ms with
        | false =>
          rw [hri] at HRI HQ2
          rw [hrg] at HRG HQ2
          have HQ3 : Hid (q = (103, none)) := hide (by rw [HQ2.out]; rfl)
          go_upto_region 12 with (first
            | (go_at_call 51; refine HRI.out.mono ?_; rintro e w6 ⟨rfl, k6, rfl⟩)
            | (go_at_call 52; refine (HRG.out _ (below_drewN (Below.refl _ _) _)).mono ?_; rintro e w7 ⟨rfl, hb⟩; have HB6 := hide ((below_drewN HB5.out _).trans (hb.mono HB5.out.size)); clear hb)
            | fail)
          have c2 : w7.cell? ⟨4, 0, none⟩ = some (errV (p 2)) := (HSS.out _ HB6.out).cell 2 (by omega)
          unfold errV at c2
          go_quiet (fail)
          rename Nat => k7
          go_wp2_with fail
          go_ret2
          rw [HQ3.out]
          exact ⟨below_drewN HB6.out k7, _, .inr (.inl ⟨rfl, by simp, rfl⟩), .inl ⟨by simp, rfl⟩⟩
        | true =>
          rw [hri] at HRI HQ2
          rw [hrg] at HRG HQ2
          have HQ3 : Hid (q = if ev < 1 then (105, none) else (0, none)) := hide (by rw [HQ2.out]; rfl)
          go_upto_region 13 with (first
            | (go_at_call 51; refine HRI.out.mono ?_; rintro e w6 ⟨rfl, k6, rfl⟩)
            | (go_at_call 52; refine (HRG.out _ (below_drewN (Below.refl _ _) _)).mono ?_; rintro e w7 ⟨rfl, hb⟩; have HB7 := hide ((below_drewN HB5.out _).trans (hb.mono HB5.out.size)); have HM7 := hide (HM5.out.below ((below_drewN (Below.refl _ _) _).trans hb)); clear hb)
            | fail)
          clear HRI HRG HQ2 HM5
          by_cases hev : ev < 1
          · have c4 := (HSS.out _ HB7.out).cell 4 (by omega)
            have HNL := hide (ixNew_low (ev : Int) w7 p (by omega) c4)
            have hnn : ∀ W, (binOp .neq 26 (errV (p 4)) .nilIface).run Tryd.prog W = .ok (.bool true) W := fun W => neq_nil _ _ W
            have HQ4 : Hid (q = (105, none)) := hide (by rw [HQ3.out, if_pos hev])
            unfold errV at hnn
            clear c4
            go_wp2_with (first
              | (go_at_call 42; refine HNL.out.mono ?_; rintro e w8 ⟨rfl, hb⟩; have HB8 := hide (HB7.out.trans (hb.mono HB7.out.size)); clear hb; unfold errV)
              | fail)
            go_ret2
            rw [HQ4.out]
            exact ⟨HB8.out, _, .inr (.inl ⟨rfl, by simp, rfl⟩), .inl ⟨by simp, rfl⟩⟩
          · have HQ4 : Hid (q = (0, none)) := hide (by rw [HQ3.out, if_neg hev])
            have HNW := hide (ixNew_any (ev : Int) w7 (by omega))
            have hcap := HM7.out.le
            go_wp2_with (first
              | (go_at_call 42; refine HNW.out.mono ?_; rintro e w8 ⟨rfl, hi, hb⟩; have HI8 : Hid (IxN w7 w7.heap.size (Ix.ofMarks ev []) w8) := hide ⟨hi, hb⟩; clear hi hb)
              | fail)
            obtain ⟨X, hX⟩ : ∃ X, X = w7.heap.size := ⟨_, rfl⟩
            rw [← hX] at HI8 ⊢
            obtain ⟨nm, hnm⟩ : ∃ nm, nm = ms.length := ⟨_, rfl⟩
            rw [← hnm] at hcap ⊢
            have hnb2 : nm ≤ 4096 := by omega
            have HNM := hide hnm
            clear hX hnm HNW
            go_loopw [60] (fun iv wr => ∃ k : Nat, k ≤ nm ∧ iv = .int .i64 k ∧ IxN w7 X (Ix.ofMarks ev (ms.take k)) wr) (fun iv _ => nm - (intOf iv).toNat)
            case atStart => exact ⟨0, Nat.zero_le _, rfl, by simpa using HI8.out⟩
            case round =>
              obtain ⟨k, hk, rfl, hi⟩ := hrel
              have HI := hide hi
              clear hi
              by_cases hkn : k < nm
              · obtain ⟨gm, rfl, hgl, k0, k1, k2⟩ := HM7.out.at_ k (by have := HNM.out; omega)
                replace k0 := (HI.out.bel.cell (p := ⟨gm, k * 3, none⟩) hgl).trans k0
                replace k1 := (HI.out.bel.cell (p := ⟨gm, k * 3 + 1, none⟩) hgl).trans k1
                replace k2 := (HI.out.bel.cell (p := ⟨gm, k * 3 + 2, none⟩) hgl).trans k2
                have HTK := hide (Ix.take_snoc ms k (by have := HNM.out; omega))
                obtain ⟨m, hm⟩ : ∃ m, m = ms.getD k Ix.z0 := ⟨_, rfl⟩
                rw [← hm] at HTK k0 k1 k2
                clear hm hgl
                obtain ⟨mo, mt, mp⟩ := m
                simp only at k0 k1 k2
                have HKP := hide (fun (W : World) (hb : Below wr.heap.size wr W) => (HI.out.below hb).keep (by rw [List.length_take]; omega) mo mt mp)
                have dk : decide ((k : Int) < nm) = true := decide_eq_true (by omega)
                go_wp2_with (first
                  | (go_at_call 53; refine (HKP.out _ (balloc (Below.refl _ _) _)).mono ?_; rintro e w9 ⟨rfl, hi9⟩; have HI9 := hide hi9; clear hi9)
                  | fail)
                go_roundw
                case rel => exact ⟨k + 1, by omega, by go_num, by rw [HTK.out]; exact HI9.out⟩
                case measure => simp [intOf]; omega
              · obtain rfl : k = nm := by omega
                have dk : decide ((k : Int) < k) = false := decide_eq_false (by omega)
                have HTK : Hid (ms.take k = ms) := hide (List.take_of_length_le (by have := HNM.out; omega))
                go_wp2_with fail
                go_ret2
                rw [HQ4.out, HRD.out]
                have hi := HI.out
                rw [HTK.out] at hi
                exact ⟨HB7.out.trans (hi.bel.mono HB7.out.size), _, .inl ⟨rfl, rfl⟩, .inr ⟨rfl, X, rfl, hi.ix.mono fun k hk => ⟨Nat.le_trans HB7.out.size hk.1, hk.2⟩⟩⟩
  · have HQ1 : Hid (q = (s2.code, s2.pos)) := hide (by rw [HQ.out, if_pos hc])
    go_wp2_with (first
      | (go_at_call 48; refine HERR.out.mono ?_; rintro e w9 ⟨⟨E, rfl, hE⟩, rfl⟩; have HE := hide hE; obtain ⟨ue, xe, rfl⟩ := hE.bad hc; have hnil := neq_nil ue xe; clear hE)
      | fail)
    go_ret2
    rw [HQ1.out]
    exact ⟨HB4.out, _, FltIs.of_err HE.out, .inl ⟨hc, rfl⟩⟩
end Go.Proofs.YtoaioijgmbhhnaaDoor
