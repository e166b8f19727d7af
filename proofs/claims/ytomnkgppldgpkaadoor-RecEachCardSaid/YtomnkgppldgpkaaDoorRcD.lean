/-
  The walk through rec's Clone: a batch with records and bytes of its own.
-/
import Derived.Test.YtomnkgppldgpkaaDoorRcC
import Derived.Test.YtomnkgppldgpkaaDoorRMake
namespace Go.Proofs.YtomnkgppldgpkaaDoor
open Go.RowKit

/-- A record that lies in a block, its bytes in blocks from lo on. -/
structure RecFar (w : World) (lo g off : Nat) (r : Rc.Rec) : Prop where
  ex : ∃ Ak ck Av cv, w.cell? ⟨g, off, none⟩ = some (.int .i64 r.t) ∧ w.cell? ⟨g, off + 1, none⟩ = some (.slice Ak r.k.length ck) ∧ w.cell? ⟨g, off + 2, none⟩ = some (.slice Av r.v.length cv) ∧ Arg w Ak ck r.k ∧ Arg w Av cv r.v ∧
    (∀ b o, Ak = some ⟨b, o, none⟩ → lo ≤ b) ∧ (∀ b o, Av = some ⟨b, o, none⟩ → lo ≤ b)
theorem RecFar.at_ {w : World} {lo g off : Nat} {r : Rc.Rec} (h : RecFar w lo g off r) : RecAt w g off r := by
  obtain ⟨Ak, ck, Av, cv, h0, h1, h2, ha, hv, _, _⟩ := h.ex
  exact ⟨Ak, ck, Av, cv, h0, h1, h2, ha, hv⟩
theorem RecFar.below {w w' : World} {C lo g off : Nat} {r : Rc.Rec} (h : RecFar w lo g off r) (hb : Below C w w') (hC : w.heap.size ≤ C) (hl : g < w.heap.size) : RecFar w' lo g off r := by
  obtain ⟨Ak, ck, Av, cv, h0, h1, h2, ha, hv, f1, f2⟩ := h.ex
  exact ⟨Ak, ck, Av, cv, (hb.cell (p := ⟨g, off, none⟩) (by show g < C; omega)).trans h0, (hb.cell (p := ⟨g, off + 1, none⟩) (by show g < C; omega)).trans h1, (hb.cell (p := ⟨g, off + 2, none⟩) (by show g < C; omega)).trans h2, ha.below hb hC, hv.below hb hC, f1, f2⟩
/-- A cell of a block ahead of lo is written, none of the record's own. -/
theorem RecFar.set {w : World} {lo g off : Nat} {r : Rc.Rec} (h : RecFar w lo g off r) (g' k : Nat) (x : Value) (hlo : g' < lo) (hne : g' ≠ g ∨ k < off ∨ off + 2 < k) : RecFar (w.setCell ⟨g', k, none⟩ x) lo g off r := by
  obtain ⟨Ak, ck, Av, cv, h0, h1, h2, ha, hv, f1, f2⟩ := h.ex
  have hc : ∀ j, j ≤ 2 → (w.setCell ⟨g', k, none⟩ x).cell? ⟨g, off + j, none⟩ = w.cell? ⟨g, off + j, none⟩ := fun j hj => World.cell?_setCell_other _ _ _ _ (by intro e; injection e with e1 e2; omega)
  exact ⟨Ak, ck, Av, cv, (hc 0 (by omega)).trans h0, (hc 1 (by omega)).trans h1, (hc 2 (by omega)).trans h2, ha.grown (grown_set w g' k x) (fun _ b o e e2 => by injection e2 with e2; have := f1 b o e; omega), hv.grown (grown_set w g' k x) (fun _ b o e e2 => by injection e2 with e2; have := f2 b o e; omega), f1, f2⟩

/-- What the loop of Clone has laid: k records of the batch's, the rest empty. -/
structure Cl (w wr : World) (g : Nat) (rs : List Rc.Rec) (k : Nat) : Prop where
  below : Below w.heap.size w wr
  lt : g < wr.heap.size
  fz : ∀ j, wr.frozen? ⟨g, j, none⟩ = false
  done : ∀ j, j < k → RecFar wr (g + 1) g (j * 3) (rs.getD j default)
  todo : ∀ j, k ≤ j → j < rs.length → (wr.cell? ⟨g, j * 3, none⟩ = some (.int .i64 0) ∧ wr.cell? ⟨g, j * 3 + 1, none⟩ = some (.slice none 0 0) ∧ wr.cell? ⟨g, j * 3 + 2, none⟩ = some (.slice none 0 0))
abbrev set3 (w : World) (g o : Nat) (x0 x1 x2 : Value) : World := ((w.setCell ⟨g, o, none⟩ x0).setCell ⟨g, o + 1, none⟩ x1).setCell ⟨g, o + 2, none⟩ x2
theorem set3_cell (w : World) (g o : Nat) (x0 x1 x2 : Value) (h0 : (w.cell? ⟨g, o, none⟩).isSome = true) (h1 : (w.cell? ⟨g, o + 1, none⟩).isSome = true) (h2 : (w.cell? ⟨g, o + 2, none⟩).isSome = true) :
    (set3 w g o x0 x1 x2).cell? ⟨g, o, none⟩ = some x0 ∧ (set3 w g o x0 x1 x2).cell? ⟨g, o + 1, none⟩ = some x1 ∧ (set3 w g o x0 x1 x2).cell? ⟨g, o + 2, none⟩ = some x2 := by
  unfold set3
  have n10 : (⟨g, o + 1, none⟩ : Addr) ≠ ⟨g, o, none⟩ := by intro e; injection e with _ e; omega
  have n20 : (⟨g, o + 2, none⟩ : Addr) ≠ ⟨g, o, none⟩ := by intro e; injection e with _ e; omega
  have n21 : (⟨g, o + 2, none⟩ : Addr) ≠ ⟨g, o + 1, none⟩ := by intro e; injection e with _ e; omega
  refine ⟨?_, ?_, ?_⟩
  · rw [World.cell?_setCell_other _ _ _ _ n20, World.cell?_setCell_other _ _ _ _ n10]; exact World.cell?_setCell_same' _ _ _ h0
  · rw [World.cell?_setCell_other _ _ _ _ n21]
    exact World.cell?_setCell_same' _ _ _ (by rw [World.cell?_setCell_other _ _ _ _ n10.symm]; exact h1)
  · exact World.cell?_setCell_same' _ _ _ (by rw [World.cell?_setCell_other _ _ _ _ n21.symm, World.cell?_setCell_other _ _ _ _ n20.symm]; exact h2)
theorem Cl.next {w wr w' : World} {g : Nat} {rs : List Rc.Rec} {k : Nat} (h : Cl w wr g rs k) (hk : k < rs.length) (hw : w.heap.size ≤ g) (hb : Below wr.heap.size wr w') {A B' : Option Addr} {c1 c2 : Nat}
    (ha : Arg w' A c1 (rs.getD k default).k) (hv : Arg w' B' c2 (rs.getD k default).v) (fa : ∀ b o, A = some ⟨b, o, none⟩ → wr.heap.size ≤ b ∧ b < w'.heap.size) (fb : ∀ b o, B' = some ⟨b, o, none⟩ → wr.heap.size ≤ b ∧ b < w'.heap.size) :
    Cl w (set3 w' g (k * 3) (.int .i64 (rs.getD k default).t) (.slice A (rs.getD k default).k.length c1) (.slice B' (rs.getD k default).v.length c2)) g rs (k + 1) := by
  have hsz := hb.size
  have hlt := h.lt
  have hle := h.below.size
  obtain ⟨t0, t1, t2⟩ := h.todo k (Nat.le_refl _) hk
  have u0 := (hb.cell (p := ⟨g, k * 3, none⟩) hlt).trans t0
  have u1 := (hb.cell (p := ⟨g, k * 3 + 1, none⟩) hlt).trans t1
  have u2 := (hb.cell (p := ⟨g, k * 3 + 2, none⟩) hlt).trans t2
  obtain ⟨s0, s1, s2⟩ := set3_cell w' g (k * 3) (.int .i64 (rs.getD k default).t) (.slice A (rs.getD k default).k.length c1) (.slice B' (rs.getD k default).v.length c2) (by rw [u0]; rfl) (by rw [u1]; rfl) (by rw [u2]; rfl)
  refine ⟨((((h.below.trans (hb.mono hle)).setCell (p := ⟨g, k * 3, none⟩) hw _).setCell (p := ⟨g, k * 3 + 1, none⟩) hw _).setCell (p := ⟨g, k * 3 + 2, none⟩) hw _), by simp [set3]; omega, fun j => ?_, fun j hj => ?_, fun j hj hjl => ?_⟩
  · simp only [set3, World.frozen?_setCell]
    exact (hb.frozen (p := ⟨g, j, none⟩) hlt).trans (h.fz j)
  · by_cases hjk : j < k
    · have hd := (h.done j hjk).below hb (Nat.le_refl _) hlt
      exact ((hd.set g (k * 3) _ (by omega) (by omega)).set g (k * 3 + 1) _ (by omega) (by omega)).set g (k * 3 + 2) _ (by omega) (by omega)
    · obtain rfl : j = k := by omega
      refine ⟨A, c1, B', c2, s0, s1, s2, ?_, ?_, fun b o e => by have := (fa b o e).1; omega, fun b o e => by have := (fb b o e).1; omega⟩
      · have hn : ∀ b o, A = some ⟨b, o, none⟩ → some b ≠ some g := fun b o e e2 => by injection e2 with e2; have := (fa b o e).1; omega
        exact ((ha.grown (grown_set w' g _ _) (fun _ => hn)).grown (grown_set _ g _ _) (fun _ => hn)).grown (grown_set _ g _ _) (fun _ => hn)
      · have hn : ∀ b o, B' = some ⟨b, o, none⟩ → some b ≠ some g := fun b o e e2 => by injection e2 with e2; have := (fb b o e).1; omega
        exact ((hv.grown (grown_set w' g _ _) (fun _ => hn)).grown (grown_set _ g _ _) (fun _ => hn)).grown (grown_set _ g _ _) (fun _ => hn)
  · obtain ⟨t0, t1, t2⟩ := h.todo j (by omega) hjl
    have hc : ∀ i, i ≤ 2 → (set3 w' g (k * 3) (.int .i64 (rs.getD k default).t) (.slice A (rs.getD k default).k.length c1) (.slice B' (rs.getD k default).v.length c2)).cell? ⟨g, j * 3 + i, none⟩ = wr.cell? ⟨g, j * 3 + i, none⟩ := fun i hi => by
      unfold set3
      rw [World.cell?_setCell_other _ _ _ _ (by intro e; injection e with _ e; omega), World.cell?_setCell_other _ _ _ _ (by intro e; injection e with _ e; omega), World.cell?_setCell_other _ _ _ _ (by intro e; injection e with _ e; omega)]
      exact hb.cell (p := ⟨g, j * 3 + i, none⟩) hlt
    exact ⟨(hc 0 (by omega)).trans t0, (hc 1 (by omega)).trans t1, (hc 2 (by omega)).trans t2⟩

theorem Res3.set {w : World} {g : Nat} {a b c : Value} (h : Res3 w g a b c) (g' k : Nat) (x : Value) (hne : g' ≠ g) : Res3 (w.setCell ⟨g', k, none⟩ x) g a b c :=
  ⟨(World.cell?_setCell_other _ _ _ _ (by intro e; injection e with e; exact hne e)).trans h.c0, (World.cell?_setCell_other _ _ _ _ (by intro e; injection e with e; exact hne e)).trans h.c1, (World.cell?_setCell_other _ _ _ _ (by intro e; injection e with e; exact hne e)).trans h.c2, fun j => by rw [World.frozen?_setCell]; exact h.f j⟩
theorem Res3.set2 {w : World} {g : Nat} {a b c : Value} (h : Res3 w g a b c) (x : Value) : Res3 (w.setCell ⟨g, 2, none⟩ x) g a b x :=
  ⟨(World.cell?_setCell_other _ _ _ _ (by intro e; injection e with _ e; omega)).trans h.c0, (World.cell?_setCell_other _ _ _ _ (by intro e; injection e with _ e; omega)).trans h.c1, World.cell?_setCell_same _ _ _ h.c2, fun j => by rw [World.frozen?_setCell]; exact h.f j⟩

/-- Records in blocks from lo on, their bytes too. -/
def FarRecs (w : World) (lo : Nat) (A : Option Addr) (rs : List Rc.Rec) : Prop :=
  rs = [] ∨ ∃ b off, A = some ⟨b, off, none⟩ ∧ lo ≤ b ∧ b < w.heap.size ∧ ∀ j, j < rs.length → RecFar w lo b (off + j * 3) (rs.getD j default)
theorem FarRecs.recs {w : World} {lo : Nat} {A : Option Addr} {rs : List Rc.Rec} (h : FarRecs w lo A rs) : Recs w A rs := by
  rcases h with h | ⟨b, off, e, _, hl, hc⟩
  · exact .inl h
  · exact .inr ⟨b, off, e, hl, fun j hj => (hc j hj).at_⟩
theorem FarRecs.below {w w' : World} {C lo : Nat} {A : Option Addr} {rs : List Rc.Rec} (h : FarRecs w lo A rs) (hb : Below C w w') (hC : w.heap.size ≤ C) : FarRecs w' lo A rs := by
  rcases h with h | ⟨b, off, e, hlo, hl, hc⟩
  · exact .inl h
  · exact .inr ⟨b, off, e, hlo, Nat.lt_of_lt_of_le hl hb.size, fun j hj => (hc j hj).below hb hC hl⟩
theorem RecFar.mono {w : World} {lo lo' g off : Nat} {r : Rc.Rec} (h : RecFar w lo g off r) (hl : lo' ≤ lo) : RecFar w lo' g off r := by
  obtain ⟨Ak, ck, Av, cv, h0, h1, h2, ha, hv, f1, f2⟩ := h.ex
  exact ⟨Ak, ck, Av, cv, h0, h1, h2, ha, hv, fun b o e => Nat.le_trans hl (f1 b o e), fun b o e => Nat.le_trans hl (f2 b o e)⟩
theorem FarRecs.mono {w : World} {lo lo' : Nat} {A : Option Addr} {rs : List Rc.Rec} (h : FarRecs w lo A rs) (hl : lo' ≤ lo) : FarRecs w lo' A rs := by
  rcases h with h | ⟨b, off, e, hlo, hs, hc⟩
  · exact .inl h
  · exact .inr ⟨b, off, e, Nat.le_trans hl hlo, hs, fun j hj => (hc j hj).mono hl⟩
theorem FarRecs.set {w : World} {lo : Nat} {A : Option Addr} {rs : List Rc.Rec} (h : FarRecs w lo A rs) (g k : Nat) (x : Value) (hg : g < lo) : FarRecs (w.setCell ⟨g, k, none⟩ x) lo A rs := by
  rcases h with h | ⟨b, off, e, hlo, hl, hc⟩
  · exact .inl h
  · exact .inr ⟨b, off, e, hlo, by rw [World.size_setCell]; exact hl, fun j hj => (hc j hj).set g k x hg (.inl (by omega))⟩
/-- A batch whose records and bytes lie in blocks from lo on. -/
structure FarBat (w : World) (lo : Nat) (A : Option Addr) (cap : Nat) (b : Rc.Bat) : Prop where
  le : b.recs.length ≤ cap
  max : cap ≤ 9223372036854775807
  recs : FarRecs w lo A b.recs
  base : -9223372036854775808 ≤ b.base ∧ b.base ≤ 9223372036854775807
  epoch : -9223372036854775808 ≤ b.epoch ∧ b.epoch ≤ 9223372036854775807
theorem FarBat.bat {w : World} {lo cap : Nat} {A : Option Addr} {b : Rc.Bat} (h : FarBat w lo A cap b) : IsBat w A cap b := ⟨h.le, h.max, h.recs.recs, h.base, h.epoch⟩
theorem FarBat.below {w w' : World} {C lo cap : Nat} {A : Option Addr} {b : Rc.Bat} (h : FarBat w lo A cap b) (hb : Below C w w') (hC : w.heap.size ≤ C) : FarBat w' lo A cap b := ⟨h.le, h.max, h.recs.below hb hC, h.base, h.epoch⟩
theorem FarBat.set {w : World} {lo cap : Nat} {A : Option Addr} {b : Rc.Bat} (h : FarBat w lo A cap b) (g k : Nat) (x : Value) (hg : g < lo) : FarBat (w.setCell ⟨g, k, none⟩ x) lo A cap b := ⟨h.le, h.max, h.recs.set g k x hg, h.base, h.epoch⟩
theorem FarBat.mono {w : World} {lo lo' cap : Nat} {A : Option Addr} {b : Rc.Bat} (h : FarBat w lo A cap b) (hl : lo' ≤ lo) : FarBat w lo' A cap b := ⟨h.le, h.max, h.recs.mono hl, h.base, h.epoch⟩

set_option maxRecDepth 100000 in
set_option maxHeartbeats 1000000 in
theorem cloneBatch_any (b : Rc.Bat) (A : Option Addr) (cap n : Nat) (w : World) (hn : b.recs.length = n) (hl : n ≤ 1000) (hib : IsBat w A cap b) (hsm : ∀ r ∈ b.recs, r.k.length ≤ 1000000 ∧ r.v.length ≤ 1000000) :
    Calls Tryd.prog 31 #[batV b.base b.epoch A n cap] w fun e w' => ∃ A' c', e = .returned (batV b.base b.epoch A' n c') ∧ FarBat w' w.heap.size A' c' b ∧ Below w.heap.size w w' := by
  obtain ⟨CS, hcs, hmk⟩ := make_recs n hl
  obtain ⟨W1, hW1⟩ : ∃ W1, W1 = w.alloc (.cells #[.int .i64 b.base, .int .i64 b.epoch, .slice A n cap] 26) := ⟨_, rfl⟩
  obtain ⟨W2, hW2⟩ : ∃ W2, W2 = W1.alloc (.cells #[.int .i64 0, .int .i64 0, .slice none 0 0] 26) := ⟨_, rfl⟩
  obtain ⟨W3, hW3⟩ : ∃ W3, W3 = W2.alloc (.cells CS 48) := ⟨_, rfl⟩
  have z1 : W1.heap.size = w.heap.size + 1 := by rw [hW1]; simp
  have z2 : W2.heap.size = w.heap.size + 2 := by rw [hW2]; simp [z1]
  have z3 : W3.heap.size = w.heap.size + 3 := by rw [hW3]; simp [z2]
  have b1 : Below w.heap.size w W1 := hW1 ▸ balloc (Below.refl _ _) _
  have b2 : Below W1.heap.size W1 W2 := hW2 ▸ balloc (Below.refl _ _) _
  have b3 : Below W2.heap.size W2 W3 := hW3 ▸ balloc (Below.refl _ _) _
  have p1 : Res3 W1 w.heap.size (.int .i64 b.base) (.int .i64 b.epoch) (.slice A n cap) := hW1 ▸ Res3.new w _ _ _ _
  have p2 := p1.below b2 (by omega)
  have q2 : Res3 W2 W1.heap.size (.int .i64 0) (.int .i64 0) (.slice none 0 0) := hW2 ▸ Res3.new W1 _ _ _ _
  rw [z1] at q2
  have p3 := p2.below b3 (by omega)
  have q3 := q2.below b3 (by omega)
  have b12 := b1.trans (b2.mono b1.size)
  have b13 := b12.trans (b3.mono b12.size)
  have hg : ∀ k j, k < n → j < 3 → W3.cell? ⟨w.heap.size + 2, k * 3 + j, none⟩ = (#[.int .i64 0, .slice none 0 0, .slice none 0 0] : Array Value)[j]? := fun k j hk hj => by
    rw [← hcs k j hk hj, hW3, ← z2, World.cell?_alloc_mark]
  have hfz : ∀ j, W3.frozen? ⟨w.heap.size + 2, j, none⟩ = false := fun j => by rw [hW3, ← z2]; simp [go_sem]
  have HCL : Hid (Cl w W3 (w.heap.size + 2) b.recs 0) := hide ⟨b13, by omega, hfz, fun j hj => by omega, fun j _ hj => ⟨hg j 0 (by omega) (by omega), hg j 1 (by omega) (by omega), hg j 2 (by omega) (by omega)⟩⟩
  have HP := hide p3
  have HQ := hide q3
  have HW1 := hide hW1
  have HW2 := hide hW2
  have HW3 := hide hW3
  have r2 := p2.c2
  have HIB := hide hib
  have HN := hide hn
  have HSM := hide hsm
  have hmk2 := hmk W2
  rw [z2] at hmk2
  clear hW1 hW2 hW3 hcs hmk b1 b2 b3 p1 p3 q2 q3 b12 b13 hg hfz z1 hib hn hsm
  go_enter Tryd.func31, Tryd.ntmps31
  go_upto_region 1 with fail
  rw [← HW1.out, ← HW2.out]
  go_upto_block 0 with fail
  rw [← HW3.out]
  clear HW1 HW2 HW3 r2 p2 hmk2
  go_wp2_with fail
  go_loopw [13] (fun i wr => ∃ k : Nat, k ≤ n ∧ i = .int .i64 k ∧ Cl w wr (w.heap.size + 2) b.recs k ∧ Res3 wr w.heap.size (.int .i64 b.base) (.int .i64 b.epoch) (.slice A n cap) ∧ Res3 wr (w.heap.size + 1) (.int .i64 0) (.int .i64 0) (.slice none 0 0)) (fun i _ => n - (intOf i).toNat)
  case atStart => exact ⟨0, Nat.zero_le _, rfl, HCL.out, HP.out, HQ.out⟩
  case round =>
    obtain ⟨k, hk, rfl, hcl, hp, hq⟩ := hrel
    clear HCL HP HQ
    have HC := hide hcl
    have HP := hide hp
    have HQ := hide hq
    clear hp hq
    by_cases hlt : k < n
    · have hkl : k < b.recs.length := by have := HN.out; omega
      rcases HIB.out.recs with e0 | ⟨bb, off, rfl, hb0, hrc⟩
      · rw [e0] at hkl; simp at hkl
      obtain ⟨Ak, ck, Av, cv, d0, d1, d2, ha, hv⟩ := (hrc k hkl).ex
      have e0 := (hcl.below.cell (p := ⟨bb, off + k * 3, none⟩) hb0).trans d0
      have e1 := (hcl.below.cell (p := ⟨bb, off + k * 3 + 1, none⟩) hb0).trans d1
      have e2 := (hcl.below.cell (p := ⟨bb, off + k * 3 + 2, none⟩) hb0).trans d2
      have hbw : bb < wr.heap.size := Nat.lt_of_lt_of_le hb0 hcl.below.size
      have hmem : b.recs.getD k default ∈ b.recs := by rw [show b.recs.getD k default = b.recs[k] from by simp [List.getD, hkl]]; exact List.getElem_mem hkl
      have hs2 := HSM.out _ hmem
      have HAK := hide (ha.below hcl.below (Nat.le_refl _))
      have HAV := hide (hv.below hcl.below (Nat.le_refl _))
      have HNX := hide (fun (w7 : World) (A7 B7 : Option Addr) (c1 c2 : Nat) (hb : Below wr.heap.size wr w7) => hcl.next (A := A7) (B' := B7) (c1 := c1) (c2 := c2) hkl (by omega) hb)
      have hfz := hcl.fz
      have hgl := hcl.lt
      obtain ⟨t0, t1, t2⟩ := hcl.todo k (Nat.le_refl _) hkl
      clear hcl hrc d0 d1 d2 ha hv hmem
      generalize b.recs.getD k default = r at *
      obtain ⟨rt, rk, rv⟩ := r
      simp only at e0 e1 e2 hs2 HAK HAV HNX
      go_upto_region 5 with fail
      obtain ⟨m0, m1, m2⟩ := made3 wr (.int .i64 rt) (.slice Ak rk.length ck) (.slice Av rv.length cv) 48
      have hba : Below wr.heap.size wr (wr.alloc (.cells #[.int .i64 rt, .slice Ak rk.length ck, .slice Av rv.length cv] 48)) := balloc (Below.refl _ _) _
      generalize wr.alloc (.cells #[.int .i64 rt, .slice Ak rk.length ck, .slice Av rv.length cv] 48) = wa at *
      have HCR := hide (cloneRecord_any rt rk rv Ak Av ck cv rk.length rv.length wa rfl rfl hs2.1 hs2.2 (HAK.out.below hba (Nat.le_refl _)) (HAV.out.below hba (Nat.le_refl _)))
      have HBA := hide hba
      clear hba HAK HAV e0 e1 e2 HC
      go_wp2_with fail
      refine HCR.out.mono ?_
      rintro e w7 ⟨A7, c1, B7, c2, rfl, ha7, hv7, f7, g7, hb7⟩
      have hbz := HBA.out.size
      have hb := HBA.out.trans (hb7.mono HBA.out.size)
      have u0 := (hb.cell (p := ⟨w.heap.size + 2, k * 3, none⟩) hgl).trans t0
      have u1 := (hb.cell (p := ⟨w.heap.size + 2, k * 3 + 1, none⟩) hgl).trans t1
      have u2 := (hb.cell (p := ⟨w.heap.size + 2, k * 3 + 2, none⟩) hgl).trans t2
      have z0 := (hb.frozen (p := ⟨w.heap.size + 2, k * 3, none⟩) hgl).trans (hfz _)
      have z1 := (hb.frozen (p := ⟨w.heap.size + 2, k * 3 + 1, none⟩) hgl).trans (hfz _)
      have z2 := (hb.frozen (p := ⟨w.heap.size + 2, k * 3 + 2, none⟩) hgl).trans (hfz _)
      have HCN := hide (HNX.out w7 A7 B7 c1 c2 hb ha7 hv7 (fun b o e => ⟨by have := (f7 b o e).1; omega, (f7 b o e).2⟩) (fun b o e => ⟨by have := (g7 b o e).1; omega, (g7 b o e).2⟩))
      have HPN := hide ((((HP.out.below hb (by omega)).set (w.heap.size + 2) (k * 3) (.int .i64 rt) (by omega)).set (w.heap.size + 2) (k * 3 + 1) (.slice A7 rk.length c1) (by omega)).set (w.heap.size + 2) (k * 3 + 2) (.slice B7 rv.length c2) (by omega))
      have HQN := hide ((((HQ.out.below hb (by omega)).set (w.heap.size + 2) (k * 3) (.int .i64 rt) (by omega)).set (w.heap.size + 2) (k * 3 + 1) (.slice A7 rk.length c1) (by omega)).set (w.heap.size + 2) (k * 3 + 2) (.slice B7 rv.length c2) (by omega))
      clear ha7 hv7 f7 g7 hb7 hb t0 t1 t2 hfz m0 m1 m2 HNX HP HQ
      go_wp2_with fail
      go_round
      case rel => exact ⟨k + 1, by omega, by go_num, HCN.out, HPN.out, HQN.out⟩
      case measure => simp [intOf]; omega
    · obtain rfl : k = n := by omega
      have hp2 := HP.out.set2 (.slice (some ⟨w.heap.size + 2, 0, none⟩) k k)
      have hq2 := HQ.out.set w.heap.size 2 (.slice (some ⟨w.heap.size + 2, 0, none⟩) k k) (by omega)
      have HQ2 := hide hq2
      have p2 := HP.out.c2
      have pf := HP.out.f 2
      have y0 := hp2.c0
      have y1 := hp2.c1
      have y2 := hp2.c2
      have x0 := hq2.c0
      have x1 := hq2.c1
      have x2 := hq2.c2
      have xf0 := hq2.f 0
      have xf1 := hq2.f 1
      have xf2 := hq2.f 2
      clear hp2 hq2 HQ hcl HP
      go_upto_region 8 with fail
      obtain ⟨s0, s1, s2⟩ := HQ2.out.cells (.int .i64 b.base) (.int .i64 b.epoch) (.slice (some ⟨w.heap.size + 2, 0, none⟩) k k)
      have hbel := (((HC.out.below.setCell (p := ⟨w.heap.size, 2, none⟩) (Nat.le_refl _) (.slice (some ⟨w.heap.size + 2, 0, none⟩) k k)).setCell (p := ⟨w.heap.size + 1, 0, none⟩) (by show w.heap.size ≤ w.heap.size + 1; omega) (.int .i64 b.base)).setCell (p := ⟨w.heap.size + 1, 1, none⟩) (by show w.heap.size ≤ w.heap.size + 1; omega) (.int .i64 b.epoch)).setCell (p := ⟨w.heap.size + 1, 2, none⟩) (by show w.heap.size ≤ w.heap.size + 1; omega) (.slice (some ⟨w.heap.size + 2, 0, none⟩) k k)
      have hrec : FarRecs ((((wr.setCell ⟨w.heap.size, 2, none⟩ (.slice (some ⟨w.heap.size + 2, 0, none⟩) k k)).setCell ⟨w.heap.size + 1, 0, none⟩ (.int .i64 b.base)).setCell ⟨w.heap.size + 1, 1, none⟩ (.int .i64 b.epoch)).setCell ⟨w.heap.size + 1, 2, none⟩ (.slice (some ⟨w.heap.size + 2, 0, none⟩) k k)) w.heap.size (some ⟨w.heap.size + 2, 0, none⟩) b.recs := by
        refine .inr ⟨w.heap.size + 2, 0, rfl, by omega, by have := HC.out.lt; simpa using this, fun j hj => ?_⟩
        rw [Nat.zero_add]
        have hd := HC.out.done j (by have := HN.out; omega)
        exact ((((hd.set w.heap.size 2 _ (by omega) (.inl (by omega))).set (w.heap.size + 1) 0 _ (by omega) (.inl (by omega))).set (w.heap.size + 1) 1 _ (by omega) (.inl (by omega))).set (w.heap.size + 1) 2 _ (by omega) (.inl (by omega))).mono (by omega)
      have HBEL := hide hbel
      have HREC := hide hrec
      have HBO := hide (⟨HIB.out.base, HIB.out.epoch⟩ : (-9223372036854775808 ≤ b.base ∧ b.base ≤ 9223372036854775807) ∧ (-9223372036854775808 ≤ b.epoch ∧ b.epoch ≤ 9223372036854775807))
      clear hbel hrec HQ2 HC HIB HSM p2 pf
      go_wp2_with fail
      refine bodyPost_ret (v := batV b.base b.epoch (some ⟨w.heap.size + 2, 0, none⟩) k k) (by simp [results, Tryd.results31, go_sem, s0, s1, s2]) rfl ⟨_, _, rfl, ⟨by have := HN.out; omega, by omega, HREC.out, HBO.out.1, HBO.out.2⟩, HBEL.out⟩
end Go.Proofs.YtomnkgppldgpkaaDoor
