/-
  The statements' own equality of records and batches, where they are the same.
  Batches that the call itself lays in a row of its own; the walk through rec's All.
  The statements' own equality of lists of batches, where they are the same.
  The walk through rec's All.
-/
import Derived.Test.YtcmgppacipdnaaaGreatDoorQRcU
import Derived.Test.YtcmgppacipdnaaaGreatDoorQTable
import Derived.Test.YtcmgppacipdnaaaGreatDoorQRcQ
namespace Go.Proofs.YtcmgppacipdnaaaGreatDoor
open Go.RowKit

theorem sameBytes_eq (A A' : Option Addr) (cap cap' n : Nat) (l : List UInt8) (w : World) (hn : l.length = n) (hl : n ≤ 1000000) (hr : Reads w A l) (hr' : Reads w A' l) :
    Calls Tryz.prog 44 #[.slice A n cap, .slice A' n cap'] w fun e w' => e = .returned (.bool true) ∧ ∃ k, w' = w.drewN k :=
  (sameBytes_any A A' cap cap' n n l l w hn hn hl hl hr hr').mono fun e w' ⟨he, hw⟩ => ⟨by rw [he]; simp, hw⟩

abbrev recV (t : Int) (A : Option Addr) (n c : Nat) (A' : Option Addr) (n' c' : Nat) : Value := .agg #[.int .i64 t, .slice A n c, .slice A' n' c']

set_option maxRecDepth 100000 in
set_option maxHeartbeats 1000000 in
theorem sameRecord_eq (t : Int) (k v : List UInt8) (A B_ A' B' : Option Addr) (ca cb ca' cb' nk nv : Nat) (w : World) (hk : k.length = nk) (hv : v.length = nv) (hkl : nk ≤ 1000000) (hvl : nv ≤ 1000000) (h1 : Reads w A k) (h2 : Reads w B_ v) (h3 : Reads w A' k) (h4 : Reads w B' v) :
    Calls Tryz.prog 58 #[recV t A nk ca B_ nv cb, recV t A' nk ca' B' nv cb'] w fun e w' => e = .returned (.bool true) ∧ Below w.heap.size w w' := by
  obtain ⟨W1, hW1⟩ : ∃ W1, W1 = w.alloc (.cells #[.int .i64 t, .slice A nk ca, .slice B_ nv cb] 80) := ⟨_, rfl⟩
  obtain ⟨m0, m1, m2⟩ := made3 w (.int .i64 t) (.slice A nk ca) (.slice B_ nv cb) 80
  obtain ⟨W2, hW2⟩ : ∃ W2, W2 = W1.alloc (.cells #[.int .i64 t, .slice A' nk ca', .slice B' nv cb'] 80) := ⟨_, rfl⟩
  obtain ⟨n0, n1, n2⟩ := made3 W1 (.int .i64 t) (.slice A' nk ca') (.slice B' nv cb') 80
  rw [← hW1] at m0 m1 m2
  rw [← hW2] at n0 n1 n2
  have b1 : Below w.heap.size w W1 := hW1 ▸ balloc (Below.refl _ _) _
  have b2 : Below W1.heap.size W1 W2 := hW2 ▸ balloc (Below.refl _ _) _
  have z1 : W1.heap.size = w.heap.size + 1 := by rw [hW1]; simp
  have o0 := (b2.cell (p := ⟨w.heap.size, 0, none⟩) (by show w.heap.size < _; omega)).trans m0
  have o1 := (b2.cell (p := ⟨w.heap.size, 1, none⟩) (by show w.heap.size < _; omega)).trans m1
  have o2 := (b2.cell (p := ⟨w.heap.size, 2, none⟩) (by show w.heap.size < _; omega)).trans m2
  rw [z1] at n0 n1 n2
  have hb := b1.trans (b2.mono b1.size)
  have HB := hide hb
  have HK := hide (fun q => sameBytes_eq A A' ca ca' nk k (W2.drewN q) hk hkl ((h1.below hb (Nat.le_refl _)).drewN q) ((h3.below hb (Nat.le_refl _)).drewN q))
  have HV := hide (fun q => sameBytes_eq B_ B' cb cb' nv v (W2.drewN q) hv hvl ((h2.below hb (Nat.le_refl _)).drewN q) ((h4.below hb (Nat.le_refl _)).drewN q))
  have u1 : ((t : Int) == t) = true := by simp
  have hW12 : W2 = (w.alloc (.cells #[.int .i64 t, .slice A nk ca, .slice B_ nv cb] 80)).alloc (.cells #[.int .i64 t, .slice A' nk ca', .slice B' nv cb'] 80) := by rw [hW2, hW1]
  have HW := hide hW12
  clear h1 h2 h3 h4 hk hv m0 m1 m2 b1 b2 z1 hb hW1 hW2 hW12
  go_enter Tryz.func58, Tryz.ntmps58
  go_upto_region 1 with fail
  rw [← HW.out]
  clear HW
  go_wp2_with fail
  refine (HK.out 0).mono ?_
  rintro e w3 ⟨rfl, q, rfl⟩
  rw [World.drewN_zero]
  go_wp2_with fail
  refine (HV.out q).mono ?_
  rintro e w4 ⟨rfl, q2, rfl⟩
  clear HK HV
  go_wp2_with fail
  go_ret
  exact ⟨rfl, below_drewN HB.out _⟩

set_option maxRecDepth 100000 in
set_option maxHeartbeats 2000000 in
theorem sameRecords_eq (A A' : Option Addr) (ca cb n : Nat) (rs : List Rc.Rec) (w : World) (hn : rs.length = n) (hl : n ≤ 1000000) (hr : Recs w A rs) (hr' : Recs w A' rs) (hs : ∀ r ∈ rs, r.k.length ≤ 1000000 ∧ r.v.length ≤ 1000000) :
    Calls Tryz.prog 26 #[.slice A n ca, .slice A' n cb] w fun e w' => e = .returned (.bool true) ∧ Below w.heap.size w w' := by
  subst hn
  have HR := hide hr
  have HR' := hide hr'
  have HS := hide hs
  have u1 : ((rs.length : Int) != rs.length) = false := by simp
  clear hr hr' hs
  go_enter Tryz.func26, Tryz.ntmps26
  go_wp2_with fail
  go_loopw [5] (fun i wr => ∃ k : Nat, k ≤ rs.length ∧ i = .int .i64 k ∧ Below w.heap.size w wr) (fun i _ => rs.length - (intOf i).toNat)
  case atStart => exact ⟨0, Nat.zero_le _, rfl, Below.refl _ _⟩
  case round =>
    obtain ⟨k, hk, rfl, hb⟩ := hrel
    have HBK := hide hb
    clear hb
    by_cases hlt : k < rs.length
    · rcases HR.out with h0 | ⟨b, off, rfl, hb0, hcl⟩
      · rw [h0] at hlt; simp at hlt
      rcases HR'.out with h0 | ⟨b', off', rfl, hb0', hcl'⟩
      · rw [h0] at hlt; simp at hlt
      obtain ⟨Ak, ck, Av, cv, c0, c1, c2, ha, hv⟩ := (hcl k hlt).ex
      obtain ⟨Ak', ck', Av', cv', c0', c1', c2', ha', hv'⟩ := (hcl' k hlt).ex
      have d0 := (HBK.out.cell (p := ⟨b, off + k * 3, none⟩) hb0).trans c0
      have d1 := (HBK.out.cell (p := ⟨b, off + k * 3 + 1, none⟩) hb0).trans c1
      have d2 := (HBK.out.cell (p := ⟨b, off + k * 3 + 2, none⟩) hb0).trans c2
      have d0' := (HBK.out.cell (p := ⟨b', off' + k * 3, none⟩) hb0').trans c0'
      have d1' := (HBK.out.cell (p := ⟨b', off' + k * 3 + 1, none⟩) hb0').trans c1'
      have d2' := (HBK.out.cell (p := ⟨b', off' + k * 3 + 2, none⟩) hb0').trans c2'
      have hzl := HBK.out.size
      have hsz := HS.out (rs.getD k default) (by rw [show rs.getD k default = rs[k] from by simp [List.getD, hlt]]; exact List.getElem_mem hlt)
      clear hcl hcl' c0 c1 c2 c0' c1' c2'
      generalize rs.getD k default = x at *
      obtain ⟨t, ky, vl⟩ := x
      simp only at d0 d1 d2 d0' d1' d2' ha hv ha' hv' hsz
      have HC := hide (fun W (hw : Below wr.heap.size wr W) => sameRecord_eq t ky vl Ak Av Ak' Av' ck cv ck' cv' ky.length vl.length W rfl rfl hsz.1 hsz.2 (ha.reads.below (HBK.out.trans (hw.mono hzl)) (Nat.le_refl _)) (hv.reads.below (HBK.out.trans (hw.mono hzl)) (Nat.le_refl _)) (ha'.reads.below (HBK.out.trans (hw.mono hzl)) (Nat.le_refl _)) (hv'.reads.below (HBK.out.trans (hw.mono hzl)) (Nat.le_refl _)))
      have hbl : b < wr.heap.size := by omega
      have hbl' : b' < wr.heap.size := by omega
      clear ha hv ha' hv' hsz
      go_upto_region 6 with fail
      go_wp2_with fail
      refine wp_region_made [18, 19, 20, 21, 22, 23, 24, 25, 26] (fun d => match d with
        | 18 => .is (.slice (some ⟨b, off, none⟩) rs.length ca) | 19 => .is (.int .i64 k) | 20 => .is (.pointer (some ⟨b, off + k * 3, none⟩)) | 21 => .is (recV t Ak ky.length ck Av vl.length cv)
        | 22 => .is (.slice (some ⟨b', off', none⟩) rs.length cb) | 23 => .is (.int .i64 k) | 24 => .is (.pointer (some ⟨b', off' + k * 3, none⟩)) | 25 => .is (recV t Ak' ky.length ck' Av' vl.length cv')
        | 26 => .is (.bool true) | _ => .any) _ (by kernel_rfl) (by kernel_rfl) rfl (by kernel_rfl) ?_ ?_
      · simp only [List.size_toArray, List.length_cons, List.length_nil, List.take_succ_cons, List.take_zero, StepsOk]
        refine ⟨?_, ?_, ?_, ?_, ?_, ?_, ?_, ?_, ?_, trivial⟩
        all_goals
          intro ev w2 hb hev hd
          have ev0 : ev (.tmp 0) = .slice (some ⟨b, off, none⟩) rs.length ca := hev _ (by simp)
          have ev1 : ev (.tmp 1) = .slice (some ⟨b', off', none⟩) rs.length cb := hev _ (by simp)
          have ev5 : ev (.tmp 5) = .int .i64 k := hev _ (by simp)
          have evf : ∀ f, ev (.func f) = .func (.func f) #[] #[] := fun f => hev _ (by simp)
          have f0 := (hb.cell (p := ⟨b, off + k * 3, none⟩) hbl).trans d0
          have f1 := (hb.cell (p := ⟨b, off + k * 3 + 1, none⟩) hbl).trans d1
          have f2 := (hb.cell (p := ⟨b, off + k * 3 + 2, none⟩) hbl).trans d2
          have f0' := (hb.cell (p := ⟨b', off' + k * 3, none⟩) hbl').trans d0'
          have f1' := (hb.cell (p := ⟨b', off' + k * 3 + 1, none⟩) hbl').trans d1'
          have f2' := (hb.cell (p := ⟨b', off' + k * 3 + 2, none⟩) hbl').trans d2'
          have HB := hide hb
          clear hev hb
          simp [DepsOk, Known.is] at hd
          try simp [OpRuns, execOp, go_sem, Known.is, Below.refl, *]
        · exact HC.out w2 HB.out
      · intro f w2 hb hf
        have e26 : f 26 = .bool true := hf 26 (by simp)
        have HB2 := hide (HBK.out.trans (hb.mono hzl))
        clear hf hb
        simp only [puts]
        go_wp2_with fail
        refine ⟨⟨k + 1, by omega, by go_num, HB2.out⟩, by simp [intOf]; omega⟩
    · obtain rfl : k = rs.length := by omega
      go_wp2_with fail
      go_ret
      exact ⟨rfl, HBK.out⟩

end Go.Proofs.YtcmgppacipdnaaaGreatDoor

namespace Go.Proofs.YtcmgppacipdnaaaGreatDoor
open Go.RowKit Crc

theorem batch_info : (Tryz.prog.info? 36).map (fun i => (i.zero, i.size, i.bytes)) = some (some (.agg #[.int .i64 0, .int .i64 0, .slice none 0 0]), 3, 40) := by kernel_rfl

/-- A batch, and where its records lie. -/
structure PBat where
  b : Rc.Bat
  A : Option Addr
  c : Nat
def PBat.cells (q : PBat) : List Value := [.int .i64 q.b.base, .int .i64 q.b.epoch, .slice q.A q.b.recs.length q.c]
theorem PBat.cells_len (q : PBat) : q.cells.length = 3 := rfl
theorem PBat.cells_one (q : PBat) : ∀ u ∈ q.cells, u.oneCell' = true := by
  intro u hu
  simp [PBat.cells] at hu
  rcases hu with rfl | rfl | rfl <;> rfl
theorem bcells_len (qs : List PBat) : (qs.flatMap PBat.cells).length = qs.length * 3 := by
  induction qs with
  | nil => rfl
  | cons q qs ih => simp [ih, PBat.cells_len]; omega
/-- A slice that reads as these batches. -/
structure BatAt (w : World) (b off : Nat) (x : Rc.Bat) : Prop where
  ex : ∃ A c, w.cell? ⟨b, off, none⟩ = some (.int .i64 x.base) ∧ w.cell? ⟨b, off + 1, none⟩ = some (.int .i64 x.epoch) ∧ w.cell? ⟨b, off + 2, none⟩ = some (.slice A x.recs.length c) ∧ IsBat w A c x
def Bats (w : World) (A : Option Addr) (xs : List Rc.Bat) : Prop :=
  xs = [] ∨ ∃ b off, A = some ⟨b, off, none⟩ ∧ b < w.heap.size ∧ ∀ k (h : k < xs.length), BatAt w b (off + k * 3) xs[k]
theorem Bats.below {w w' : World} {C : Nat} {A : Option Addr} {xs : List Rc.Bat} (h : Bats w A xs) (hb : Below C w w') (hC : w.heap.size ≤ C) : Bats w' A xs := by
  rcases h with h | ⟨b, off, e, hl, hc⟩
  · exact .inl h
  · refine .inr ⟨b, off, e, Nat.lt_of_lt_of_le hl hb.size, fun k hk => ?_⟩
    obtain ⟨A', c, h0, h1, h2, h3⟩ := (hc k hk).ex
    exact ⟨A', c, (hb.cell (p := ⟨b, off + k * 3, none⟩) (by show b < C; omega)).trans h0, (hb.cell (p := ⟨b, off + k * 3 + 1, none⟩) (by show b < C; omega)).trans h1, (hb.cell (p := ⟨b, off + k * 3 + 2, none⟩) (by show b < C; omega)).trans h2, h3.below hb hC⟩
theorem Bats.first {w : World} {A : Option Addr} {xs : List Rc.Bat} (h : Bats w A xs) (k : Nat) : Bats w A (xs.take k) := by
  rcases h with rfl | ⟨b, off, e, hl, hc⟩
  · exact .inl (by simp)
  · refine .inr ⟨b, off, e, hl, fun j hj => ?_⟩
    have hj' : j < xs.length := by rw [List.length_take] at hj; omega
    have := hc j hj'
    rwa [show (xs.take k)[j] = xs[j] from by simp]

/-- The row of batches; each lies in memory that was new when it was laid. -/
structure BRow (w : World) (lo : Nat) (v : Value) (qs : List PBat) : Prop where
  own : w.ownsRow lo 36 3 v qs.length (qs.flatMap PBat.cells)
  el : ∀ q ∈ qs, ∃ l0 wk, lo ≤ l0 ∧ NewBat l0 wk q.A q.c q.b ∧ Above l0 wk w ∧ ∀ k, v.ownBlock = some k → k < l0 ∨ wk.heap.size ≤ k
theorem BRow.nil (w : World) (lo : Nat) : BRow w lo (.slice none 0 0) [] := ⟨World.ownsRow_nil w lo _ 3, fun q hq => by simp at hq⟩
theorem BRow.below {w w' : World} {lo : Nat} {v : Value} {qs : List PBat} (h : BRow w lo v qs) (hb : Below w.heap.size w w') : BRow w' lo v qs :=
  ⟨h.own.kept (grown_of_below hb none) (by cases v.ownBlock <;> simp), fun q hq => by
    obtain ⟨l0, wk, h0, h1, h2, h3⟩ := h.el q hq
    exact ⟨l0, wk, h0, h1, h2.trans (Above.of_below hb), h3⟩⟩
/-- One more, which was laid (at world wk, from l0 on) since the row was last turned. -/
theorem BRow.app {w w1 w' : World} {lo l0 : Nat} {wk : World} {v v' : Value} {qs : List PBat} {q : PBat} (h : BRow w lo v qs) (hlo : lo ≤ l0) (hq : NewBat l0 wk q.A q.c q.b) (hqa : Above l0 wk w) (hql : ∀ k, v.ownBlock = some k → k < l0) (hw1 : Below w.heap.size w w1)
    (hg : w1.grownBy w' v.ownBlock) (hv : v'.ownBlock = v.ownBlock ∨ v'.ownBlock = some w1.heap.size) (ho : w'.ownsRow lo 36 3 v' (qs.length + 1) (qs.flatMap PBat.cells ++ q.cells)) : BRow w' lo v' (qs ++ [q]) := by
  have key : ∀ (x : PBat), (∃ l0 wk, lo ≤ l0 ∧ NewBat l0 wk x.A x.c x.b ∧ Above l0 wk w ∧ ∀ k, v.ownBlock = some k → k < l0 ∨ wk.heap.size ≤ k) → ∃ l0 wk, lo ≤ l0 ∧ NewBat l0 wk x.A x.c x.b ∧ Above l0 wk w' ∧ ∀ k, v'.ownBlock = some k → k < l0 ∨ wk.heap.size ≤ k := by
    rintro x ⟨m0, mk, h0, h1, h2, h3⟩
    refine ⟨m0, mk, h0, h1, ⟨Nat.le_trans h2.size (Nat.le_trans hw1.size hg.size), fun k hk hl => ?_⟩, fun k hk => ?_⟩
    · have hne : some k ≠ v.ownBlock := fun e => by
        rcases h3 k e.symm with h | h <;> omega
      have hkw : k < w.heap.size := Nat.lt_of_lt_of_le hl h2.size
      exact (hg.block k (Nat.lt_of_lt_of_le hkw hw1.size) hne).trans ((hw1.block k hkw).trans (h2.block k hk hl))
    · rcases hv with e | e
      · exact h3 k (e.symm.trans hk)
      · rw [e] at hk
        injection hk with hk
        have := h2.size
        have := hw1.size
        exact .inr (by omega)
  refine ⟨?_, fun x hx => ?_⟩
  · rw [List.length_append, List.flatMap_append]
    simpa using ho
  · rcases List.mem_append.1 hx with hx | hx
    · exact key x (h.el x hx)
    · obtain rfl := List.mem_singleton.1 hx
      exact key x ⟨l0, wk, hlo, hq, hqa, fun k hk => .inl (hql k hk)⟩
theorem BRow.val {w : World} {lo : Nat} {v : Value} {qs : List PBat} (h : BRow w lo v qs) : ∃ A c, v = .slice A qs.length c ∧ qs.length ≤ c ∧ c ≤ 9223372036854775807 ∧ Bats w A (qs.map (·.b)) := by
  rcases h.own.2 with ⟨rfl, h0⟩ | ⟨g, cap, cur, rfl, hg, hh, hn, hm, hs, ht⟩
  · have : qs = [] := List.eq_nil_of_length_eq_zero h0
    subst this
    exact ⟨none, 0, rfl, Nat.le_refl _, by omega, .inl rfl⟩
  · refine ⟨_, _, rfl, hn, by simpa [maxLen] using hm, .inr ⟨g, 0, rfl, ?_, fun k hk => ?_⟩⟩
    · rcases Nat.lt_or_ge g w.heap.size with h | h
      · exact h
      · rw [Array.getElem?_eq_none h] at hh; cases hh
    · have hk' : k < qs.length := by simpa using hk
      obtain ⟨l0, wk, _, h1, h2, _⟩ := h.el _ (List.getElem_mem hk')
      have hcells : ∀ j u, j < 3 → (qs[k].cells)[j]? = some u → w.cell? ⟨g, 0 + k * 3 + j, none⟩ = some u := by
        intro j u hj hu
        have h1 : (qs.flatMap PBat.cells)[k * 3 + j]? = some u := by
          have e1 : qs.flatMap PBat.cells = (qs.take k).flatMap PBat.cells ++ (qs[k].cells ++ (qs.drop (k + 1)).flatMap PBat.cells) := by
            conv => lhs; rw [← List.take_append_drop k qs, List.drop_eq_getElem_cons hk']
            rw [List.flatMap_append, List.flatMap_cons]
          have e2 : ((qs.take k).flatMap PBat.cells).length = k * 3 := by rw [bcells_len, List.length_take]; congr 1; omega
          rw [e1, List.getElem?_append_right (by rw [e2]; omega), e2, Nat.add_sub_cancel_left, List.getElem?_append_left (by rw [PBat.cells_len]; exact hj)]
          exact hu
        have h2 := h.own.cells (g := g) rfl _ _ h1
        rw [show (⟨g, 0, none⟩ : Addr).add (k * 3 + j) = ⟨g, 0 + k * 3 + j, none⟩ from by rw [Addr.add_lit]; congr 1; omega] at h2
        exact h2
      rw [show (qs.map (·.b))[k] = qs[k].b from by simp]
      exact ⟨_, _, hcells 0 _ (by omega) rfl, hcells 1 _ (by omega) rfl, hcells 2 _ (by omega) rfl, h1 w h2⟩

namespace Rc
/-- All batches from a place on: those read, where it ends, the error's number. -/
def allGo (l : List UInt8) : Nat → Nat → List Bat → List Bat × Nat × Nat
  | 0, at_, acc => (acc, at_, 0)
  | f + 1, at_, acc =>
    if at_ < l.length then
      if rcode (l.drop at_) = 0 then allGo l f (at_ + rsize (l.drop at_)) (acc ++ [parse (rbody (l.drop at_))]) else (acc, at_, rcode (l.drop at_))
    else (acc, at_, 0)
theorem rsize_le (l : List UInt8) (h : rcode l = 0) : 8 ≤ rsize l ∧ rsize l ≤ l.length := by
  unfold rsize
  rw [if_pos h]
  unfold rcode at h
  split at h
  · omega
  · split at h
    · omega
    · split at h
      · omega
      · omega
theorem allGo_fuel (l : List UInt8) : ∀ (f f' at_ : Nat) (acc : List Bat), l.length - at_ ≤ f → l.length - at_ ≤ f' → allGo l f at_ acc = allGo l f' at_ acc
  | 0, 0, _, _, _, _ => rfl
  | 0, f' + 1, at_, acc, h, _ => by rw [allGo, allGo, if_neg (by omega)]
  | f + 1, 0, at_, acc, _, h => by rw [allGo, allGo, if_neg (by omega)]
  | f + 1, f' + 1, at_, acc, h1, h2 => by
    rw [allGo, allGo]
    by_cases h : at_ < l.length
    · rw [if_pos h, if_pos h]
      by_cases hc : rcode (l.drop at_) = 0
      · rw [if_pos hc, if_pos hc]
        have := rsize_le _ hc
        exact allGo_fuel l f f' _ _ (by omega) (by omega)
      · rw [if_neg hc, if_neg hc]
    · rw [if_neg h, if_neg h]
def all (l : List UInt8) : List Bat × Nat × Nat := allGo l l.length 0 []
end Rc
end Go.Proofs.YtcmgppacipdnaaaGreatDoor

namespace Go.Proofs.YtcmgppacipdnaaaGreatDoor
open Go.RowKit

end Go.Proofs.YtcmgppacipdnaaaGreatDoor

namespace Go.Proofs.YtcmgppacipdnaaaGreatDoor
open Go.RowKit Crc

/-- What All gives, as a row of its own. -/
def AllOwn (p : Nat → Addr) (l : List UInt8) (w : World) (e : Ending) (w' : World) : Prop :=
  ∃ v qs, e = .returned (.tuple #[v, .int .i64 ((Rc.all l).2.1 : Nat), errOf p (Rc.all l).2.2]) ∧ BRow w' w.heap.size v qs ∧ qs.map (·.b) = (Rc.all l).1 ∧ Below w.heap.size w w'
set_option maxRecDepth 100000 in
set_option maxHeartbeats 2000000 in
theorem all_own (A : Option Addr) (cap n : Nat) (l : List UInt8) (w : World) (p : Nat → Addr) (hn : l.length = n) (hl : n ≤ 1000000) (ha : Arg w A cap l) (hs : Sents5 w p) (ht : Tabs w) :
    Calls Tryz.prog 122 #[.slice A n cap] w (AllOwn p l w) := by
  subst hn
  have HA := hide ha
  have HS := hide hs
  have HT := hide ht
  have HL := hide hl
  clear ha hs ht
  go_enter Tryz.func122, Tryz.ntmps122
  go_wp2_with fail
  go_loopw [5, 6] (fun v i wr => ∃ (at_ : Nat) (qs : List PBat), i = .int .i64 at_ ∧ at_ ≤ l.length ∧ BRow wr w.heap.size v qs ∧ qs.length ≤ at_ ∧ Below w.heap.size w wr ∧ Rc.allGo l (l.length - at_) at_ (qs.map (·.b)) = Rc.all l) (fun _ i _ => l.length - (intOf i).toNat)
  case atStart => exact ⟨0, [], rfl, Nat.zero_le _, BRow.nil _ _, by simp, Below.refl _ _, rfl⟩
  case round =>
    obtain ⟨at_, qs, rfl, hat, hrow, hqa, hb, hgo⟩ := hrel
    have HRW := hide hrow
    have HBK := hide hb
    have HGO := hide hgo
    have hl' := hl
    clear hgo hb
    by_cases hlt : at_ < l.length
    · have kcut : ∀ W, (Instr.sliceAt 67 (.slice A l.length cap) (some (.int .i64 (at_ : Int))) none none).run Tryz.prog W = .ok (.slice (cutA A cap at_) (l.length - at_) (cap - at_)) W := fun W => run_cut_l W A l.length cap at_ hat
      have HRD := hide (read_any (cutA A cap at_) (cap - at_) (l.length - at_) (l.drop at_) wr p (by rw [List.length_drop]) (by omega) ((HA.out.below HBK.out (Nat.le_refl _)).cut at_ hat) (HS.out.below HBK.out) (HT.out.below HBK.out (Nat.le_refl _)))
      have HSTEP : Hid (Rc.all l = if Rc.rcode (l.drop at_) = 0 then Rc.allGo l (l.length - at_ - 1) (at_ + Rc.rsize (l.drop at_)) (qs.map (·.b) ++ [Rc.parse (Rc.rbody (l.drop at_))]) else (qs.map (·.b), at_, Rc.rcode (l.drop at_))) := by
        show _ = _
        rw [← HGO.out, show l.length - at_ = (l.length - at_ - 1) + 1 by omega, Rc.allGo, if_pos hlt]
        rfl
      have HRS := hide (Rc.rsize_le (l.drop at_))
      generalize hA' : cutA A cap at_ = A' at *
      clear hA' hrow
      obtain ⟨Av, cv, rfl, hqc, hqm, hbats⟩ := HRW.out.val
      by_cases hc : Rc.rcode (l.drop at_) = 0
      · have hrs := HRS.out hc
        rw [List.length_drop] at hrs
        have HALL : Hid (Rc.allGo l (l.length - (at_ + Rc.rsize (l.drop at_))) (at_ + Rc.rsize (l.drop at_)) (qs.map (·.b) ++ [Rc.parse (Rc.rbody (l.drop at_))]) = Rc.all l) := by
          show _ = _
          rw [HSTEP.out, if_pos hc]
          exact Rc.allGo_fuel _ _ _ _ _ (by omega) (by omega)
        have hE : errOf p (Rc.rcode (l.drop at_)) = .nilIface := by unfold errOf; rw [hc, if_pos rfl]
        unfold ReadPost at HRD
        rw [hE] at HRD
        clear hE HSTEP HRS
        generalize Rc.rsize (l.drop at_) = rs at *
        generalize Rc.parse (Rc.rbody (l.drop at_)) = nb at *
        have hcc := hide hc
        clear hc
        go_wp2_with fail
        refine HRD.out.mono ?_
        rintro e w3 ⟨⟨val, rfl, hy, -⟩, hb3⟩
        obtain ⟨An, cn, rfl, hnew⟩ := hy hcc.out
        have HNEW := hide hnew
        have hz3 := hb3.size
        clear hy hnew HRD kcut
        go_upto_region 5 with fail
        obtain ⟨k0, k1, k2⟩ := made3 w3 (.int .i64 nb.base) (.int .i64 nb.epoch) (.slice An nb.recs.length cn) 36
        have hal : Below w3.heap.size w3 (w3.alloc (.cells #[.int .i64 nb.base, .int .i64 nb.epoch, .slice An nb.recs.length cn] 36)) := balloc (Below.refl _ _) _
        have HR4 := hide ((HRW.out.below hb3).below hal)
        have HB4 := hide (HBK.out.trans ((hb3.trans (hal.mono hz3)).mono HBK.out.size))
        have HAB4 := hide (Above.of_below (lo := wr.heap.size) hal)
        have hlt4 : w3.heap.size < (w3.alloc (.cells #[.int .i64 nb.base, .int .i64 nb.epoch, .slice An nb.recs.length cn] 36)).heap.size := by simp
        obtain ⟨gb, hgb⟩ : ∃ gb, gb = w3.heap.size := ⟨_, rfl⟩
        rw [← hgb] at k0 k1 k2 ⊢
        have HZ4 := hide (show wr.heap.size ≤ (w3.alloc (.cells #[.int .i64 nb.base, .int .i64 nb.epoch, .slice An nb.recs.length cn] 36)).heap.size by omega)
        clear hal hgb hb3 hlt4
        generalize w3.alloc (.cells #[.int .i64 nb.base, .int .i64 nb.epoch, .slice An nb.recs.length cn] 36) = w4 at *
        obtain ⟨i0, hi, hz, hs1, hby⟩ := info_parts batch_info
        have HBAL : Hid (Below w4.heap.size w4 (w4.alloc (.cells #[.int .i64 nb.base, .int .i64 nb.epoch, .slice An nb.recs.length cn] 36))) := hide (balloc (Below.refl _ _) _)
        go_wp2_with (at_builtin; refine wpList_append_own_at (w := w4.alloc _) rfl (.tmp 27) (.tmp 29) 26 rfl w.heap.size 36 i0 _ 3 40 Tryz.underlying26 hi hz hs1 hby rfl (by omega) (.slice Av qs.length cv) qs.length (qs.flatMap PBat.cells) rfl (HR4.out.own.alloc _) ⟨w4.heap.size, 0, none⟩ 1 1 (PBat.cells ⟨nb, An, cn⟩) rfl rfl (cells_three _ _ _ _ _) (PBat.cells_one _) (by simp only [maxLen]; omega) (by omega) (by have := HB4.out.size; simp; omega) ?_; intro v5 w5 hown5 hg5 hnil5 hat5; have HROW5 := hide (HR4.out.app (q := ⟨nb, An, cn⟩) HBK.out.size HNEW.out HAB4.out (fun k hk => (HRW.out.own.lt k hk).2) HBAL.out hg5 hat5 hown5); have HB5 := hide (HB4.out.trans ((HBAL.out.mono HB4.out.size).trans ((Below.refl w.heap.size _).grown hg5 (by have := HB4.out.size; simp; omega) (fun k hk => (HRW.out.own.lt k hk).1)))); clear hown5 hg5 hnil5 hat5)
        refine ⟨⟨at_ + rs, qs ++ [⟨nb, An, cn⟩], by go_num, by omega, HROW5.out, by simp; omega, HB5.out, ?_⟩, by simp [intOf]; omega⟩
        rw [List.map_append]
        exact HALL.out
      · have HALL : Hid (Rc.all l = (qs.map (·.b), at_, Rc.rcode (l.drop at_))) := by show _ = _; rw [HSTEP.out, if_neg hc]
        have hE : errOf p (Rc.rcode (l.drop at_)) = .iface 297 (.pointer (some (p (Rc.rcode (l.drop at_) - 101)))) := by unfold errOf; rw [if_neg hc]; rfl
        have hEE := hide hE.symm
        unfold ReadPost at HRD
        rw [hE] at HRD
        have hcc := hide hc
        clear hE HSTEP HRS hc
        generalize (.pointer (some (p (Rc.rcode (l.drop at_) - 101))) : Value) = xe at *
        have k1 := neq_nil 297 xe
        go_wp2_with fail
        refine HRD.out.mono ?_
        rintro e w3 ⟨⟨val, rfl, -, hno⟩, hb3⟩
        obtain rfl := hno hcc.out
        have hz3 := hb3.size
        clear hno HRD kcut
        go_upto_region 5 with fail
        have hal : Below w3.heap.size w3 (w3.alloc (.cells #[.int .i64 0, .int .i64 0, .slice none 0 0] 36)) := balloc (Below.refl _ _) _
        have hb4 := hb3.trans (hal.mono hz3)
        have HR4 := hide (HRW.out.below hb4)
        have HB4 := hide (HBK.out.trans (hb4.mono HBK.out.size))
        clear hal hb4 hb3
        generalize w3.alloc (.cells #[.int .i64 0, .int .i64 0, .slice none 0 0] 36) = w4 at *
        go_wp2_with fail
        go_ret3
        refine ⟨_, qs, ?_, HR4.out, by rw [HALL.out], HB4.out⟩
        rw [HALL.out, ← hEE.out]
        try simp
    · obtain rfl : at_ = l.length := by omega
      have HALL : Hid (Rc.all l = (qs.map (·.b), l.length, 0)) := by
        show _ = _
        rw [← HGO.out, Nat.sub_self]; rfl
      obtain ⟨Av, cv, rfl, hqc, hqm, hbats⟩ := HRW.out.val
      have HBT := hide hbats
      clear hbats hrow
      go_wp2_with fail
      go_ret3
      refine ⟨_, qs, ?_, HRW.out, by rw [HALL.out], HBK.out⟩
      rw [HALL.out]
      simp [errOf]
end Go.Proofs.YtcmgppacipdnaaaGreatDoor
