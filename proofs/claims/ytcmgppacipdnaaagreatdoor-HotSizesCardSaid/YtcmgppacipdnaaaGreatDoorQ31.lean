/-
  Package seg: raw, Raw.
  The statements' own equality of records and batches, where they are the same.
-/
import Derived.Test.YtcmgppacipdnaaaGreatDoorQ30
import Derived.Test.YtcmgppacipdnaaaGreatDoorQ12
import Derived.Test.YtcmgppacipdnaaaGreatDoorQ1
import Derived.Test.YtcmgppacipdnaaaGreatDoorQ4
namespace Go.Proofs.YtcmgppacipdnaaaGreatDoor
open Go.RowKit Go.Maps Go.Sort

/-- What the disk answers of the bytes between two edges. -/
def sgRaw (d : Dk.St) (s : Sg.St) (i j : Nat) : Option Nat × Dk.Nm := d.readOf s.file (Sg.ed s.edges i).pos ((Sg.ed s.edges j).pos - (Sg.ed s.edges i).pos)

/-- Bytes of one's own, whatever is made beside; a tuple that begins with them. -/
def heldOwn (base : Nat) (l : List UInt8) : Held (fun a b : World => Below a.heap.size a b) := ⟨fun v w => Own w base v l, fun _ _ _ h hg => h.below hg (Nat.le_refl _)⟩
def heldOwn2 (base : Nat) (l : List UInt8) (E : Value) : Held (fun a b : World => Below a.heap.size a b) := ⟨fun v w => ∃ u, v = .tuple #[u, E] ∧ Own w base u l, fun _ _ _ ⟨u, h1, h2⟩ hg => ⟨u, h1, h2.below hg (Nat.le_refl _)⟩⟩

set_option maxRecDepth 100000 in
set_option maxHeartbeats 1000000 in
theorem sgraw_any (w0 w : World) (S T : Nat → Prop) (n Bd X : Nat) (d : Dk.St) (s : Sg.St) (p : Nat → Addr) (h : SgW w0 S T n Bd d X s w) (hs : SentsG w0 p) (hn : n ≤ 1000) (i j : Nat) (hi : i < s.edges.length) (hj : j < s.edges.length) :
    Calls Tryz.prog 131 #[.pointer (some ⟨X, 0, none⟩), .int .i64 i, .int .i64 j] w fun e w' => ∃ v, e = .returned (.tuple #[v, errR p (sgRaw d s i j).1]) ∧ Own w' w.heap.size v (sgRaw d s i j).2 ∧ Below w.heap.size w w' := by
  obtain ⟨v, hl⟩ := h.seg
  obtain ⟨A, c, rfl, he, c0, c1, -, c3, -⟩ := hl.cells
  obtain ⟨g, rfl, hg, -, ki, -, -⟩ := he.at_ i hi
  obtain ⟨g', eg, -, -, kj, -, -⟩ := he.at_ j hj
  obtain rfl : g' = g := by injection eg with eg; injection eg with eg; exact eg.symm
  have hle := he.le
  have hpi := h.ok.pos _ (Sg.ed_mem hi)
  have hpj := h.ok.pos _ (Sg.ed_mem hj)
  have HR := hide (fun (W : World) (hw : Below w.heap.size w W) => (h.disk.grow hw).read p hs.d hn s.file h.nm (Sg.ed s.edges i).pos ((Sg.ed s.edges j).pos - (Sg.ed s.edges i).pos) (by omega))
  have HRW : Hid (sgRaw d s i j = d.readOf s.file (Sg.ed s.edges i).pos ((Sg.ed s.edges j).pos - (Sg.ed s.edges i).pos)) := hide rfl
  rw [← HRW.out] at HR
  generalize sgRaw d s i j = R at *
  generalize (Sg.ed s.edges i).pos = pi at *
  generalize (Sg.ed s.edges j).pos = pj at *
  generalize s.edges.length = m at *
  generalize encStr s.file = fv at *
  have hw1 : IntKind.i64.wrap (pj - pi) = pj - pi := by rw [IntKind.wrap_i64]; omega
  have hXl := hl.lt
  clear h hl he hs
  go_enter Tryz.func131, Tryz.ntmps131
  go_upto_region 2 with fail
  have hX := c3
  refine wp_region_guard (G := fun a b : World => Below a.heap.size a b) ⟨fun w => Below.refl _ w, fun h k => h.trans (k.mono h.size)⟩ [17, 18, 19, 20, 21, 22, 23, 24, 25, 26, 27, 28, 29, 30, 31, 32, 33, 34, 35, 36, 37, 38, 6, 7] (fun d => match d with
    | 17 => .is (.pointer (some ⟨X, 0, none⟩)) | 18 => .is (.pointer (some ⟨X, 0, none⟩)) | 19 => .is (.pointer (some ⟨X, 0, none⟩)) | 20 => .is (.pointer (some ⟨Bd, 0, none⟩)) | 21 => .is (.pointer (some ⟨X, 0, none⟩)) | 22 => .is (.pointer (some ⟨X, 0, none⟩)) | 23 => .is (.pointer (some ⟨X, 1, none⟩)) | 24 => .is (fv) | 25 => .is (.int .i64 pi) | 26 => .is (.pointer (some ⟨X, 0, none⟩)) | 27 => .is (.pointer (some ⟨X, 0, none⟩)) | 28 => .is (.pointer (some ⟨X, 3, none⟩)) | 29 => .is (.slice (some ⟨g', 0, none⟩) m c) | 30 => .is (.int .i64 j) | 31 => .is (.pointer (some ⟨g', j * 4, none⟩)) | 32 => .is (.pointer (some ⟨g', j * 4 + 1, none⟩)) | 33 => .is (.int .i64 pj) | 34 => .is (.int .i64 pi) | 35 => .is (.int .i64 (pj - pi)) | 36 => heldOwn2 w.heap.size R.2 (errR p R.1) | 37 => heldOwn w.heap.size R.2 | 38 => .is (errR p R.1) | 6 => heldOwn w.heap.size R.2 | _ => .is (errR p R.1)) (by kernel_rfl) (by kernel_rfl) (by kernel_rfl) ?_ ?_
  · simp only [StepsG]
    refine ⟨?_, ?_, ?_, ?_, ?_, ?_, ?_, ?_, ?_, ?_, ?_, ?_, ?_, ?_, ?_, ?_, ?_, ?_, ?_, ?_, ?_, ?_, ?_, ?_, trivial⟩
    all_goals
      intro ev w6 hb hev hd
      have ev0 : ev (.tmp 0) = .pointer (some ⟨X, 0, none⟩) := hev _ (by simp)
      have ev2 : ev (.tmp 2) = .int .i64 j := hev _ (by simp)
      have ev8 : ev (.tmp 8) = .int .i64 pi := hev _ (by simp)
      have evf : ∀ f, ev (.func f) = .func (.func f) #[] #[] := fun f => hev _ (by simp)
      have evc : ∀ c, ev (.const c) = c := fun c => hev _ (by simp)
      have HB6 := hide ((Below.refl w.heap.size w).drew.trans hb)
      have k0 := (HB6.out.cell (p := ⟨X, 0, none⟩) hXl).trans c0
      have k1 := (HB6.out.cell (p := ⟨X, 1, none⟩) hXl).trans c1
      have k3 := (HB6.out.cell (p := ⟨X, 3, none⟩) hXl).trans c3
      have kk := (HB6.out.cell (p := ⟨g', j * 4 + 1, none⟩) hg).trans kj
      clear hev hb c0 c1 c3 hX kj ki
      simp [DepsG, Held.is] at hd
      first
        | (obtain ⟨u, e36, hu⟩ : ∃ u, ev (.tmp 36) = .tuple #[u, errR p R.1] ∧ Own w6 w.heap.size u R.2 := hd
           simp [OpGuard, OpRuns, execOp, go_sem, Held.is, Below.refl, e36]
           try exact hu)
        | simp [OpGuard, OpRuns, execOp, go_sem, Held.is, Below.refl, *]
    exact (HR.out w6 HB6.out).mono fun e w'' ⟨u, he, ho, hb⟩ => ⟨_, he, hb, u, rfl, ho.mono HB6.out.size⟩
  · intro f w9 hb hf
    have h6 : Own w9 w.heap.size (f 6) R.2 := hf 6 (by simp)
    have e7 : f 7 = errR p R.1 := hf 7 (by simp)
    have HB9 := hide ((Below.refl w.heap.size w).drew.trans hb)
    have HO := hide h6
    obtain ⟨A6, c6, e6, -⟩ := h6.arg
    clear hf hb h6 hX c0 c1 c3 kj ki
    simp only [puts, Act.put, List.setIfInBounds_toArray, List.set_cons_succ, List.set_cons_zero]
    rw [e7]
    rw [e6] at HO ⊢
    clear e7 e6
    generalize f 17 = q17
    generalize f 18 = q18
    generalize f 19 = q19
    generalize f 20 = q20
    generalize f 21 = q21
    generalize f 22 = q22
    generalize f 23 = q23
    generalize f 24 = q24
    generalize f 25 = q25
    generalize f 26 = q26
    generalize f 27 = q27
    generalize f 28 = q28
    generalize f 29 = q29
    generalize f 30 = q30
    generalize f 31 = q31
    generalize f 32 = q32
    generalize f 33 = q33
    generalize f 34 = q34
    generalize f 35 = q35
    generalize f 36 = q36
    generalize f 37 = q37
    generalize f 38 = q38
    clear f
    go_wp2_with fail
    go_ret2
    exact ⟨_, rfl, HO.out, HB9.out⟩
end Go.Proofs.YtcmgppacipdnaaaGreatDoor

namespace Go.Proofs.YtcmgppacipdnaaaGreatDoor
open Go.RowKit

theorem sameBytes_eq (A A' : Option Addr) (cap cap' n : Nat) (l : List UInt8) (w : World) (hn : l.length = n) (hl : n ≤ 1000000) (hr : Reads w A l) (hr' : Reads w A' l) :
    Calls Tryz.prog 44 #[.slice A n cap, .slice A' n cap'] w fun e w' => e = .returned (.bool true) ∧ ∃ k, w' = w.drewN k :=
  (sameBytes_any A A' cap cap' n n l l w hn hn hl hl hr hr').mono fun e w' ⟨he, hw⟩ => ⟨by rw [he]; simp, hw⟩

abbrev recV (t : Int) (A : Option Addr) (n c : Nat) (A' : Option Addr) (n' c' : Nat) : Value := .agg #[.int .i64 t, .slice A n c, .slice A' n' c']

set_option maxRecDepth 100000 in
set_option maxHeartbeats 1000000 in
theorem sameRecord_eq (t : Int) (k v : List UInt8) (A B_ A' B' : Option Addr) (ca cb ca' cb' nk nv : Nat) (w : World) (hk : k.length = nk) (hv : v.length = nv) (hkl : nk ≤ 1000000) (hvl : nv ≤ 1000000) (h1 : Reads w A k) (h2 : Reads w B_ v) (h3 : Reads w A' k) (h4 : Reads w B' v) :
    Calls Tryz.prog 58 #[recV t A nk ca B_ nv cb, recV t A' nk ca' B' nv cb'] w fun e w' => e = .returned (.bool true) ∧ Below w.heap.size w w' := by
  obtain ⟨W1, hW1⟩ : ∃ W1, W1 = w.alloc (.cells #[.int .i64 t, .slice A nk ca, .slice B_ nv cb] 80) := ⟨_, rfl⟩
  obtain ⟨m0, m1, m2⟩ := made3 w (.int .i64 t) (.slice A nk ca) (.slice B_ nv cb) 80
  obtain ⟨W2, hW2⟩ : ∃ W2, W2 = W1.alloc (.cells #[.int .i64 t, .slice A' nk ca', .slice B' nv cb'] 80) := ⟨_, rfl⟩
  obtain ⟨n0, n1, n2⟩ := made3 W1 (.int .i64 t) (.slice A' nk ca') (.slice B' nv cb') 80
  rw [← hW1] at m0 m1 m2
  rw [← hW2] at n0 n1 n2
  have b1 : Below w.heap.size w W1 := hW1 ▸ balloc (Below.refl _ _) _
  have b2 : Below W1.heap.size W1 W2 := hW2 ▸ balloc (Below.refl _ _) _
  have z1 : W1.heap.size = w.heap.size + 1 := by rw [hW1]; simp
  have o0 := (b2.cell (p := ⟨w.heap.size, 0, none⟩) (by show w.heap.size < _; omega)).trans m0
  have o1 := (b2.cell (p := ⟨w.heap.size, 1, none⟩) (by show w.heap.size < _; omega)).trans m1
  have o2 := (b2.cell (p := ⟨w.heap.size, 2, none⟩) (by show w.heap.size < _; omega)).trans m2
  rw [z1] at n0 n1 n2
  have hb := b1.trans (b2.mono b1.size)
  have HB := hide hb
  have HK := hide (fun q => sameBytes_eq A A' ca ca' nk k (W2.drewN q) hk hkl ((h1.below hb (Nat.le_refl _)).drewN q) ((h3.below hb (Nat.le_refl _)).drewN q))
  have HV := hide (fun q => sameBytes_eq B_ B' cb cb' nv v (W2.drewN q) hv hvl ((h2.below hb (Nat.le_refl _)).drewN q) ((h4.below hb (Nat.le_refl _)).drewN q))
  have u1 : ((t : Int) == t) = true := by simp
  have hW12 : W2 = (w.alloc (.cells #[.int .i64 t, .slice A nk ca, .slice B_ nv cb] 80)).alloc (.cells #[.int .i64 t, .slice A' nk ca', .slice B' nv cb'] 80) := by rw [hW2, hW1]
  have HW := hide hW12
  clear h1 h2 h3 h4 hk hv m0 m1 m2 b1 b2 z1 hb hW1 hW2 hW12
  go_enter Tryz.func58, Tryz.ntmps58
  go_upto_region 1 with fail
  rw [← HW.out]
  clear HW
  go_wp2_with fail
  refine (HK.out 0).mono ?_
  rintro e w3 ⟨rfl, q, rfl⟩
  rw [World.drewN_zero]
  go_wp2_with fail
  refine (HV.out q).mono ?_
  rintro e w4 ⟨rfl, q2, rfl⟩
  clear HK HV
  go_wp2_with fail
  go_ret
  exact ⟨rfl, below_drewN HB.out _⟩

set_option maxRecDepth 100000 in
set_option maxHeartbeats 2000000 in
theorem sameRecords_eq (A A' : Option Addr) (ca cb n : Nat) (rs : List Rc.Rec) (w : World) (hn : rs.length = n) (hl : n ≤ 1000000) (hr : Recs w A rs) (hr' : Recs w A' rs) (hs : ∀ r ∈ rs, r.k.length ≤ 1000000 ∧ r.v.length ≤ 1000000) :
    Calls Tryz.prog 26 #[.slice A n ca, .slice A' n cb] w fun e w' => e = .returned (.bool true) ∧ Below w.heap.size w w' := by
  subst hn
  have HR := hide hr
  have HR' := hide hr'
  have HS := hide hs
  have u1 : ((rs.length : Int) != rs.length) = false := by simp
  clear hr hr' hs
  go_enter Tryz.func26, Tryz.ntmps26
  go_wp2_with fail
  go_loopw [5] (fun i wr => ∃ k : Nat, k ≤ rs.length ∧ i = .int .i64 k ∧ Below w.heap.size w wr) (fun i _ => rs.length - (intOf i).toNat)
  case atStart => exact ⟨0, Nat.zero_le _, rfl, Below.refl _ _⟩
  case round =>
    obtain ⟨k, hk, rfl, hb⟩ := hrel
    have HBK := hide hb
    clear hb
    by_cases hlt : k < rs.length
    · rcases HR.out with h0 | ⟨b, off, rfl, hb0, hcl⟩
      · rw [h0] at hlt; simp at hlt
      rcases HR'.out with h0 | ⟨b', off', rfl, hb0', hcl'⟩
      · rw [h0] at hlt; simp at hlt
      obtain ⟨Ak, ck, Av, cv, c0, c1, c2, ha, hv⟩ := (hcl k hlt).ex
      obtain ⟨Ak', ck', Av', cv', c0', c1', c2', ha', hv'⟩ := (hcl' k hlt).ex
      have d0 := (HBK.out.cell (p := ⟨b, off + k * 3, none⟩) hb0).trans c0
      have d1 := (HBK.out.cell (p := ⟨b, off + k * 3 + 1, none⟩) hb0).trans c1
      have d2 := (HBK.out.cell (p := ⟨b, off + k * 3 + 2, none⟩) hb0).trans c2
      have d0' := (HBK.out.cell (p := ⟨b', off' + k * 3, none⟩) hb0').trans c0'
      have d1' := (HBK.out.cell (p := ⟨b', off' + k * 3 + 1, none⟩) hb0').trans c1'
      have d2' := (HBK.out.cell (p := ⟨b', off' + k * 3 + 2, none⟩) hb0').trans c2'
      have hzl := HBK.out.size
      have hsz := HS.out (rs.getD k default) (by rw [show rs.getD k default = rs[k] from by simp [List.getD, hlt]]; exact List.getElem_mem hlt)
      clear hcl hcl' c0 c1 c2 c0' c1' c2'
      generalize rs.getD k default = x at *
      obtain ⟨t, ky, vl⟩ := x
      simp only at d0 d1 d2 d0' d1' d2' ha hv ha' hv' hsz
      have HC := hide (fun W (hw : Below wr.heap.size wr W) => sameRecord_eq t ky vl Ak Av Ak' Av' ck cv ck' cv' ky.length vl.length W rfl rfl hsz.1 hsz.2 (ha.reads.below (HBK.out.trans (hw.mono hzl)) (Nat.le_refl _)) (hv.reads.below (HBK.out.trans (hw.mono hzl)) (Nat.le_refl _)) (ha'.reads.below (HBK.out.trans (hw.mono hzl)) (Nat.le_refl _)) (hv'.reads.below (HBK.out.trans (hw.mono hzl)) (Nat.le_refl _)))
      have hbl : b < wr.heap.size := by omega
      have hbl' : b' < wr.heap.size := by omega
      clear ha hv ha' hv' hsz
      go_upto_region 6 with fail
      go_wp2_with fail
      refine wp_region_made [18, 19, 20, 21, 22, 23, 24, 25, 26] (fun d => match d with
        | 18 => .is (.slice (some ⟨b, off, none⟩) rs.length ca) | 19 => .is (.int .i64 k) | 20 => .is (.pointer (some ⟨b, off + k * 3, none⟩)) | 21 => .is (recV t Ak ky.length ck Av vl.length cv)
        | 22 => .is (.slice (some ⟨b', off', none⟩) rs.length cb) | 23 => .is (.int .i64 k) | 24 => .is (.pointer (some ⟨b', off' + k * 3, none⟩)) | 25 => .is (recV t Ak' ky.length ck' Av' vl.length cv')
        | 26 => .is (.bool true) | _ => .any) _ (by kernel_rfl) (by kernel_rfl) rfl (by kernel_rfl) ?_ ?_
      · simp only [List.size_toArray, List.length_cons, List.length_nil, List.take_succ_cons, List.take_zero, StepsOk]
        refine ⟨?_, ?_, ?_, ?_, ?_, ?_, ?_, ?_, ?_, trivial⟩
        all_goals
          intro ev w2 hb hev hd
          have ev0 : ev (.tmp 0) = .slice (some ⟨b, off, none⟩) rs.length ca := hev _ (by simp)
          have ev1 : ev (.tmp 1) = .slice (some ⟨b', off', none⟩) rs.length cb := hev _ (by simp)
          have ev5 : ev (.tmp 5) = .int .i64 k := hev _ (by simp)
          have evf : ∀ f, ev (.func f) = .func (.func f) #[] #[] := fun f => hev _ (by simp)
          have f0 := (hb.cell (p := ⟨b, off + k * 3, none⟩) hbl).trans d0
          have f1 := (hb.cell (p := ⟨b, off + k * 3 + 1, none⟩) hbl).trans d1
          have f2 := (hb.cell (p := ⟨b, off + k * 3 + 2, none⟩) hbl).trans d2
          have f0' := (hb.cell (p := ⟨b', off' + k * 3, none⟩) hbl').trans d0'
          have f1' := (hb.cell (p := ⟨b', off' + k * 3 + 1, none⟩) hbl').trans d1'
          have f2' := (hb.cell (p := ⟨b', off' + k * 3 + 2, none⟩) hbl').trans d2'
          have HB := hide hb
          clear hev hb
          simp [DepsOk, Known.is] at hd
          try simp [OpRuns, execOp, go_sem, Known.is, Below.refl, *]
        · exact HC.out w2 HB.out
      · intro f w2 hb hf
        have e26 : f 26 = .bool true := hf 26 (by simp)
        have HB2 := hide (HBK.out.trans (hb.mono hzl))
        clear hf hb
        simp only [puts]
        go_wp2_with fail
        refine ⟨⟨k + 1, by omega, by go_num, HB2.out⟩, by simp [intOf]; omega⟩
    · obtain rfl : k = rs.length := by omega
      go_wp2_with fail
      go_ret
      exact ⟨rfl, HBK.out⟩

set_option maxRecDepth 100000 in
set_option maxHeartbeats 1000000 in
theorem sameBatch_eq (b : Rc.Bat) (A A' : Option Addr) (ca cb n : Nat) (w : World) (hn : b.recs.length = n) (hl : n ≤ 1000000) (hr : Recs w A b.recs) (hr' : Recs w A' b.recs) (hs : ∀ r ∈ b.recs, r.k.length ≤ 1000000 ∧ r.v.length ≤ 1000000) :
    Calls Tryz.prog 94 #[batV b.base b.epoch A n ca, batV b.base b.epoch A' n cb] w fun e w' => e = .returned (.bool true) ∧ Below w.heap.size w w' := by
  obtain ⟨W1, hW1⟩ : ∃ W1, W1 = w.alloc (.cells #[.int .i64 b.base, .int .i64 b.epoch, .slice A n ca] 36) := ⟨_, rfl⟩
  obtain ⟨m0, m1, m2⟩ := made3 w (.int .i64 b.base) (.int .i64 b.epoch) (.slice A n ca) 36
  obtain ⟨W2, hW2⟩ : ∃ W2, W2 = W1.alloc (.cells #[.int .i64 b.base, .int .i64 b.epoch, .slice A' n cb] 36) := ⟨_, rfl⟩
  obtain ⟨n0, n1, n2⟩ := made3 W1 (.int .i64 b.base) (.int .i64 b.epoch) (.slice A' n cb) 36
  rw [← hW1] at m0 m1 m2
  rw [← hW2] at n0 n1 n2
  have b1 : Below w.heap.size w W1 := hW1 ▸ balloc (Below.refl _ _) _
  have b2 : Below W1.heap.size W1 W2 := hW2 ▸ balloc (Below.refl _ _) _
  have z1 : W1.heap.size = w.heap.size + 1 := by rw [hW1]; simp
  have z2 : W2.heap.size = w.heap.size + 2 := by rw [hW2]; simp; omega
  have o0 := (b2.cell (p := ⟨w.heap.size, 0, none⟩) (by show w.heap.size < _; omega)).trans m0
  have o1 := (b2.cell (p := ⟨w.heap.size, 1, none⟩) (by show w.heap.size < _; omega)).trans m1
  have o2 := (b2.cell (p := ⟨w.heap.size, 2, none⟩) (by show w.heap.size < _; omega)).trans m2
  rw [z1] at n0 n1 n2
  have hb := b1.trans (b2.mono b1.size)
  have HB := hide hb
  have HK := hide (sameRecords_eq A A' ca cb n b.recs W2 hn hl (hr.below hb (Nat.le_refl _)) (hr'.below hb (Nat.le_refl _)) hs)
  have hW12 : W2 = (w.alloc (.cells #[.int .i64 b.base, .int .i64 b.epoch, .slice A n ca] 36)).alloc (.cells #[.int .i64 b.base, .int .i64 b.epoch, .slice A' n cb] 36) := by rw [hW2, hW1]
  have HW := hide hW12
  clear hr hr' hn m0 m1 m2 b1 b2 z1 hb hW1 hW2 hW12 hs
  generalize b.base = ba at *
  generalize b.epoch = ep at *
  have u1 : ((ba : Int) == ba) = true := by simp
  have u2 : ((ep : Int) == ep) = true := by simp
  go_enter Tryz.func94, Tryz.ntmps94
  go_upto_region 1 with fail
  rw [← HW.out]
  clear HW
  go_wp2_with fail
  refine HK.out.mono ?_
  rintro e w3 ⟨rfl, hb3⟩
  have c0 := (hb3.cell (p := ⟨w.heap.size, 0, none⟩) (by show w.heap.size < _; omega)).trans o0
  have c1 := (hb3.cell (p := ⟨w.heap.size, 1, none⟩) (by show w.heap.size < _; omega)).trans o1
  have c2 := (hb3.cell (p := ⟨w.heap.size + 1, 0, none⟩) (by show w.heap.size + 1 < _; omega)).trans n0
  have c3 := (hb3.cell (p := ⟨w.heap.size + 1, 1, none⟩) (by show w.heap.size + 1 < _; omega)).trans n1
  have HB3 := hide (HB.out.trans (hb3.mono (by omega)))
  clear hb3 HK o0 o1 o2 n0 n1 n2
  go_wp2_with fail
  go_ret
  exact ⟨rfl, HB3.out⟩
end Go.Proofs.YtcmgppacipdnaaaGreatDoor
