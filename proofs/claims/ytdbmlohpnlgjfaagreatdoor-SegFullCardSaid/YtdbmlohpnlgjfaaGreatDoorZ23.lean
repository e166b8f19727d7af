/-
  SegFull walked.
-/
import Derived.Test.YtdbmlohpnlgjfaaGreatDoorZ19
import Derived.Test.YtdbmlohpnlgjfaaGreatDoorZ21
import Derived.Test.YtdbmlohpnlgjfaaGreatDoorZ16
import Derived.Test.YtdbmlohpnlgjfaaGreatDoorZ7
import Derived.Deep.CutBlock
import Derived.Deep.CutRange
namespace Go.Proofs.YtdbmlohpnlgjfaaGreatDoor
open Go.RowKit Go.Maps Go.Sort

/-- SegFull on its way: a segment of batches of one epoch, so many at most. -/
structure Fu (w1 : World) (S T : Nat → Prop) (Bd X : Nat) (room : Int) (x k : Nat) (d : Dk.St) (s : Sg.St) (bs : List Rc.Bat) (w : World) : Prop where
  sg : SgW w1 S T (k + 3) Bd d X s w
  md : Md d s room ((bs.flatMap Rc.bytes).length : Nat) (Dk.upd (fun _ => none) (Nm.seg 0) (some x)) (Sg.begin (Nm.seg 0) 0 10) x bs
  len : bs.length ≤ k
  off : ∃ a : Nat, (Sg.last s.edges).off = a ∧ a ≤ 5 * k
  ep : (Sg.last s.edges).ep ≤ 1
  small : ∀ b ∈ bs, (Rc.bytes b).length ≤ 300
theorem Fu.bytes {w1 w : World} {S T : Nat → Prop} {Bd X : Nat} {room : Int} {x k : Nat} {d : Dk.St} {s : Sg.St} {bs : List Rc.Bat} (h : Fu w1 S T Bd X room x k d s bs w) : (bs.flatMap Rc.bytes).length ≤ 300 * k := by
  have h1 := flat_len_le Rc.bytes 300 bs h.small
  have h2 := h.len
  omega
theorem Fu.quiet {w1 w w' : World} {S T : Nat → Prop} {Bd X : Nat} {room : Int} {x k : Nat} {d : Dk.St} {s : Sg.St} {bs : List Rc.Bat} (h : Fu w1 S T Bd X room x k d s bs w) (hb : Below w.heap.size w w') : Fu w1 S T Bd X room x k d s bs w' := ⟨h.sg.grow hb, h.md, h.len, h.off, h.ep, h.small⟩
/-- A batch that lies there as a value. -/
def NewAt (lo : Nat) (w : World) (A : Option Addr) (c : Nat) (b : Rc.Bat) : Prop := ∃ l0 wk, lo ≤ l0 ∧ NewBat l0 wk A c b ∧ Above l0 wk w
theorem NewAt.grow {lo : Nat} {w w' : World} {A : Option Addr} {c : Nat} {b : Rc.Bat} (h : NewAt lo w A c b) (hb : Below w.heap.size w w') : NewAt lo w' A c b := by
  obtain ⟨l0, wk, h1, h2, h3⟩ := h
  exact ⟨l0, wk, h1, h2, h3.trans (Above.of_below hb)⟩
def heldBat (lo : Nat) (b : Rc.Bat) : Held (fun a b : World => Below a.heap.size a b) :=
  ⟨fun v w => ∃ A c, v = batV b.base b.epoch A b.recs.length c ∧ NewAt lo w A c b, fun _ _ _ ⟨A, c, h1, h2⟩ hg => ⟨A, c, h1, h2.grow hg⟩⟩
def heldBats (lo : Nat) (b : Rc.Bat) : Held (fun a b : World => Below a.heap.size a b) :=
  ⟨fun v w => ∃ A c qs, v = .slice A 1 c ∧ 1 ≤ c ∧ BRow w lo (.slice A 1 c) qs ∧ qs.map (·.b) = [b], fun _ _ _ ⟨A, c, qs, h1, h2, h3, h4⟩ hg => ⟨A, c, qs, h1, h2, h3.below hg, h4⟩⟩
def heldPBat (lo : Nat) (b : Rc.Bat) : Held (fun a b : World => Below a.heap.size a b) :=
  ⟨fun v w => ∃ g A c, v = .pointer (some ⟨g, 0, none⟩) ∧ g < w.heap.size ∧ w.cell? ⟨g, 0, none⟩ = some (.int .i64 b.base) ∧ w.cell? ⟨g, 1, none⟩ = some (.int .i64 b.epoch) ∧ w.cell? ⟨g, 2, none⟩ = some (.slice A b.recs.length c) ∧ NewAt lo w A c b, fun _ _ _ ⟨g, A, c, h1, h2, q0, q1, q2, q3⟩ hg => ⟨g, A, c, h1, Nat.lt_of_lt_of_le h2 hg.size, (hg.cell (p := ⟨g, 0, none⟩) h2).trans q0, (hg.cell (p := ⟨g, 1, none⟩) h2).trans q1, (hg.cell (p := ⟨g, 2, none⟩) h2).trans q2, q3.grow hg⟩⟩
/-- The first of a row of one batch. -/
theorem BRow.one {w : World} {lo : Nat} {A : Option Addr} {c : Nat} {qs : List PBat} {b : Rc.Bat} (h : BRow w lo (.slice A 1 c) qs) (he : qs.map (·.b) = [b]) : ∃ g Ax cx, A = some ⟨g, 0, none⟩ ∧ g < w.heap.size ∧ w.cell? ⟨g, 0, none⟩ = some (.int .i64 b.base) ∧ w.cell? ⟨g, 1, none⟩ = some (.int .i64 b.epoch) ∧ w.cell? ⟨g, 2, none⟩ = some (.slice Ax b.recs.length cx) ∧ NewAt lo w Ax cx b := by
  obtain ⟨q, rfl⟩ : ∃ q, qs = [q] := List.length_eq_one_iff.1 (by have := congrArg List.length he; simpa using this)
  have hq : q.b = b := by simpa using he
  subst hq
  have hown := h.own
  rcases hown.2 with ⟨e, _⟩ | ⟨g, cap, cur, e, _⟩
  · cases e
  · injection e with e1 _ _
    subst e1
    have cl : ∀ (j : Nat) (v : Value), (PBat.cells q)[j]? = some v → w.cell? ⟨g, j, none⟩ = some v := fun j v hv => by
      have hc := hown.cells (g := g) rfl j v (by simpa using hv)
      rw [Addr.add_lit] at hc
      simpa using hc
    obtain ⟨l0, wk, h0, h1, h2, -⟩ := h.el q List.mem_cons_self
    have c0 := cl 0 _ rfl
    exact ⟨g, q.A, q.c, rfl, World.block_lt_of_cell? w _ c0, c0, cl 1 _ rfl, cl 2 _ rfl, l0, wk, h0, h1, h2⟩
def heldOne (lo : Nat) (z : Int) : Held (fun a b : World => Below a.heap.size a b) :=
  ⟨fun v w => ∃ g, lo ≤ g ∧ v = .slice (some ⟨g, 0, none⟩) 1 1 ∧ g < w.heap.size ∧ w.cell? ⟨g, 0, none⟩ = some (.int .i64 z), fun _ _ _ ⟨g, h0, h1, h2, h3⟩ hg => ⟨g, h0, h1, Nat.lt_of_lt_of_le h2 hg.size, (hg.cell (p := ⟨g, 0, none⟩) h2).trans h3⟩⟩
def heldNewB (lo : Nat) : Held (fun a b : World => Below a.heap.size a b) :=
  ⟨fun v w => ∃ g, lo ≤ g ∧ v = .pointer (some ⟨g, 0, none⟩) ∧ w.heap[g]? = some boxB, fun _ _ _ ⟨g, h0, h1, h2⟩ hg => ⟨g, h0, h1, (hg.block g (Array.getElem?_eq_some_iff.1 h2).1).trans h2⟩⟩

/-- The box written. -/
theorem boxed {wr w5 : World} {gB : Nat} {Ab : Option Addr} {cb : Nat} {b : Rc.Bat} (h5 : Below wr.heap.size wr w5) (hg : wr.heap.size ≤ gB) (hc : w5.heap[gB]? = some boxB) (hn : NewAt wr.heap.size w5 Ab cb b) (w6 : World) (hw : w6 = ((w5.setCell ⟨gB, 0, none⟩ (.int .i64 b.base)).setCell ⟨gB, 1, none⟩ (.int .i64 b.epoch)).setCell ⟨gB, 2, none⟩ (.slice Ab b.recs.length cb)) (S : Nat → Prop) (hS : ∀ k, S k → k < wr.heap.size) :
    Below wr.heap.size wr w6 ∧ ∀ W, Chg S w6 W → IsBat W Ab cb b ∧ W.cell? ⟨gB, 0, none⟩ = some (.int .i64 b.base) ∧ W.cell? ⟨gB, 1, none⟩ = some (.int .i64 b.epoch) ∧ W.cell? ⟨gB, 2, none⟩ = some (.slice Ab b.recs.length cb) := by
  have hz : w6.heap.size = w5.heap.size := by rw [hw]; simp
  have hbk : ∀ k, k ≠ gB → w6.heap[k]? = w5.heap[k]? := fun k hk => by
    rw [hw, Below.heap_setCell _ _ _ _ (by exact hk), Below.heap_setCell _ _ _ _ (by exact hk), Below.heap_setCell _ _ _ _ (by exact hk)]
  have hgz : gB < w5.heap.size := (Array.getElem?_eq_some_iff.1 hc).1
  have h6 : Below wr.heap.size wr w6 := by
    rw [hw]
    exact ((h5.setCell (p := ⟨gB, 0, none⟩) hg _).setCell (p := ⟨gB, 1, none⟩) hg _).setCell (p := ⟨gB, 2, none⟩) hg _
  have hSg : ¬ S gB := fun h => by have := hS gB h; omega
  have ne : ∀ {i j : Nat} {u : Value} {W : World}, i ≠ j → (W.setCell ⟨gB, j, none⟩ u).cell? ⟨gB, i, none⟩ = W.cell? ⟨gB, i, none⟩ := fun hne => World.cell?_setCell_other _ _ _ _ (by intro e; injection e with _ e _; exact hne e.symm)
  have b0 : w5.cell? ⟨gB, 0, none⟩ = some (.int .i64 0) := box_cell hc 0
  have b1 : w5.cell? ⟨gB, 1, none⟩ = some (.int .i64 0) := box_cell hc 1
  have b2 : w5.cell? ⟨gB, 2, none⟩ = some (.slice none 0 0) := box_cell hc 2
  refine ⟨h6, fun W hW => ⟨?_, hW.cell ?_ hSg, hW.cell ?_ hSg, hW.cell ?_ hSg⟩⟩
  · obtain ⟨l0, wk, g1, g2, g3⟩ := hn
    refine g2.beside g3 hc (by have := hW.size; omega) fun k k1 k2 k3 => ?_
    rw [hW.block k (by omega) (fun h => by have := hS k h; omega), hbk k k3]
  · rw [hw, ne (by omega), ne (by omega), World.cell?_setCell_same _ _ _ b0]
  · rw [hw, ne (by omega), World.cell?_setCell_same _ _ _ ((ne (by omega)).trans b1)]
  · rw [hw, World.cell?_setCell_same _ _ _ ((ne (by omega)).trans ((ne (by omega)).trans b2))]

set_option maxRecDepth 100000 in
set_option maxHeartbeats 4000000 in
theorem segFull_any (w : World) (p : Nat → Addr) (hs : SentsG w p) (ht : Tabs w) (hpt : PowTab w) (rm : Int) (Az : Option Addr) (cz nz : Nat) (zs : List Int) (hnz : zs.length = nz) (hz : IntsArg w Az cz zs) (hrm : -9223372036854775808 ≤ rm ∧ rm ≤ 9223372036854775807) :
    Calls Tryz.prog 10 #[.int .i64 rm, .slice Az nz cz] w fun e w' => e = .returned (.bool true) ∧ Below w.heap.size w w' := by
  have HFI := hide (segFirst_any w p hs ht hpt)
  have HS := hide hs
  have HT := hide ht
  have HPT := hide hpt
  have HZ := hide hz
  have HNZ := hide hnz
  have hltN : num rm 300 < 300 := num_lt rm 300 (by omega)
  obtain ⟨N, hN⟩ : ∃ N, num rm 300 = N := ⟨_, rfl⟩
  rw [hN] at hltN
  have HNN := hide hN
  clear hs ht hpt hz hnz hN
  by_cases lz : 12 < nz
  · go_enter Tryz.func10, Tryz.ntmps10
    go_wp2_with (first
      | (go_at_call 11; refine HFI.out.mono ?_; rintro e w1 ⟨rfl, hb1⟩; have HB1 := hide hb1; clear hb1)
      | (go_at_call 13; refine (num_at rm 300 300 _ rfl (by omega) (by omega) hrm.1 hrm.2).mono ?_; rintro e wv ⟨rfl, rfl⟩; rw [HNN.out])
      | fail)
    go_ret
    exact ⟨rfl, HB1.out⟩
  obtain ⟨room, hroom⟩ : ∃ room : Int, (N : Int) + 1 = room := ⟨_, rfl⟩
  have hr1 : 1 ≤ room ∧ room ≤ 300 := by omega
  have HNW := hide (fun (W : World) => new_sessS room W W (Below.refl _ _) (by omega) (by omega))
  obtain ⟨d1, d2, d3, e1, e2, e3, hd⟩ := (Dk.Has.new room).begin_ (Nm.seg 0) (seg_valid (by omega)) rfl
  have HCR := hide (fun (W0 W : World) (S : Nat → Prop) (Bd : Nat) (hb : Below w.heap.size w W0) (h : SessS S W0 0 Bd (Dk.St.new room) W) => sgCreate_good W0 W S 0 Bd _ 0 10 p h (HS.out.below hb) (by omega) (by omega) (by omega) (HPT.out.below hb) d1 d2 d3 e1 e2 e3)
  have HMD := hide (fun x => (show Md (d3 x) (Sg.begin (Nm.seg 0) 0 10) room (0 : Nat) (Dk.upd (fun _ => none) (Nm.seg 0) (some x)) (Sg.begin (Nm.seg 0) 0 10) x [] from ⟨(hd x).1, rfl, rfl, Dk.upd_same _ _ _, (hd x).2.1, rfl, trivial, fun b hb => by cases hb⟩))
  have HRM := hide hroom
  clear e1 e2 e3 hd d1 d2
  go_enter Tryz.func10, Tryz.ntmps10
  go_wp2_with (first
    | (go_at_call 11; refine HFI.out.mono ?_; rintro e w1 ⟨rfl, hb1⟩; have HB1 := hide hb1; have HZ1 := hide (HZ.out.below hb1 (Nat.le_refl _)); have HS1 := hide (HS.out.below hb1); have HT1 := hide (HT.out.below hb1 (Nat.le_refl _)); have HP1 := hide (HPT.out.below hb1); clear hb1)
    | (go_at_call 13; refine (num_at rm 300 300 _ rfl (by omega) (by omega) hrm.1 hrm.2).mono ?_; rintro e wv ⟨rfl, rfl⟩; rw [HNN.out])
    | (go_at_call 43; refine (HNW.out w1).mono ?_; rintro e w2 ⟨Bd, rfl, hh2, -⟩; have H2 := hide hh2; clear hh2 HNW)
    | (go_at_call 37; refine (HCR.out w1 w2 _ Bd HB1.out H2.out).mono ?_; rintro e w3 ⟨X, x, S3, T3, -, rfl, hh3, -⟩; have H3 : Hid (Fu w1 S3 T3 Bd X room x 0 (d3 x) (Sg.begin (Nm.seg 0) 0 10) [] w3) := hide ⟨hh3, HMD.out x, Nat.le_refl _, ⟨0, rfl, Nat.le_refl _⟩, (by show (0 : Int) ≤ 1; omega), fun b hb => by cases hb⟩; clear hh3 HCR HMD H2)
    | fail)
  clear HFI
  go_loopw [10] (fun i wr => ∃ (k : Nat) (S T : Nat → Prop) (d : Dk.St) (s : Sg.St) (bs : List Rc.Bat), k ≤ nz ∧ i = .int .i64 k ∧ Fu w1 S T Bd X room x k d s bs wr) (fun i _ => nz - (intOf i).toNat)
  case atStart => exact ⟨0, _, _, _, _, _, Nat.zero_le _, rfl, H3.out⟩
  case round =>
    obtain ⟨k, S, T, d, s, bs, hk, rfl, hf⟩ := hrel
    have HF := hide hf
    clear hf H3
    by_cases hlt : k < nz
    · obtain ⟨bz, oz, rfl, hcell⟩ := (HZ1.out.below HF.out.sg.below (Nat.le_refl _)).get k (by rw [HNZ.out]; exact hlt)
      have hfit := HZ1.out.fit (zs.getD k 0) (by
        have h1 : k < zs.length := by rw [HNZ.out]; exact hlt
        rw [List.getD_eq_getElem?_getD, List.getElem?_eq_getElem h1, Option.getD_some]
        exact List.getElem_mem _)
      generalize zs.getD k 0 = z at *
      obtain ⟨a, hoff, ha⟩ := HF.out.off
      have hlen := HF.out.md.len
      have hbl := HF.out.len
      obtain ⟨b, hb⟩ : ∃ b, b = Rw.bt (a : Int) 0 0 z := ⟨_, rfl⟩
      have hgo : Rw.go (a : Int) 0 0 [z] = [b] := by rw [hb]; rfl
      have hg : Rc.Good b := (Rw.go_ok [z] a 0 0 (by omega) (by simp; omega) (by simp) b (by rw [hgo]; exact List.mem_cons_self)).1
      have hsm : (Rc.bytes b).length ≤ 300 := by rw [hb]; exact Rw.bt_small _ _ _ _ (by rw [← hb]; exact hg)
      have hbb : b.base = a := by rw [hb]; rfl
      have hbe : b.epoch = 1 := by rw [hb]; simp [Rw.bt]
      have hbn : b.recs.length ≤ 5 := by rw [hb]; have := Rw.many_bd z; simp [Rw.bt]; omega
      have hfo : Sg.follows s.edges b = true := by
        unfold Sg.follows
        rw [hoff, hbb, hbe, decide_eq_true HF.out.ep]
        simp
      have HEN := hide (fun (W : World) (hw : Below wr.heap.size wr W) => sgEnd_any X Bd s T W (HF.out.sg.seg.below hw) HF.out.sg.ok)
      rw [hoff] at HEN
      have HROW := hide (fun (W : World) (hw : Below wr.heap.size wr W) (g : Nat) (hgz : g < W.heap.size) (hc : W.cell? ⟨g, 0, none⟩ = some (.int .i64 z)) => rowZ_any a (some ⟨g, 0, none⟩) 1 1 [z] W rfl (by omega) (by omega) (.inr ⟨g, 0, rfl, hgz, fun j hj => by
        have hj1 : j < 1 := hj
        obtain rfl : j = 0 := by omega
        exact hc⟩) (fun j hj => by
        have hj1 : j < 1 := hj
        obtain rfl : j = 0 := by omega
        exact hfit))
      rw [hgo] at HROW
      have HG := hide hg
      have HSM := hide hsm
      have HFO := hide hfo
      have HBV := hide (And.intro hbb (And.intro hbe hbn))
      have HA5 := hide ha
      have HCL := hide hcell
      have hbzl := World.block_lt_of_cell? wr _ hcell
      have hneg : decide ((k : Int) < nz) = true := decide_eq_true (by omega)
      have dkn : decide (k < nz) = true := decide_eq_true hlt
      clear hgo hg hsm hbb hbe hbn hfo hb hoff ha hlen hbl
      go_upto_region 16 with fail
      refine wp_region_store (G := fun a b : World => Below a.heap.size a b) ⟨fun w => Below.refl _ w, fun h k => h.trans (k.mono h.size)⟩ [60, 61, 62, 63, 64, 65, 66, 67, 68, 69, 11] (fun d => match d with
        | 60 => .is (.pointer (some ⟨X, 0, none⟩)) | 61 => .is (.int .i64 a) | 62 => .is (.slice (some ⟨bz, oz, none⟩) nz cz) | 63 => .is (.int .i64 k) | 64 => .is (.pointer (some ⟨bz, oz + k, none⟩)) | 65 => .is (.int .i64 z)
        | 66 => heldOne wr.heap.size z | 67 => heldBats wr.heap.size b | 68 => heldPBat wr.heap.size b | 69 => heldBat wr.heap.size b | _ => heldNewB wr.heap.size) _ (by kernel_rfl) (by kernel_rfl) rfl (by kernel_rfl) ?_ ?_
      · simp only
        refine ⟨?_, ?_, ?_, ?_, ?_, ?_, ?_, ?_, ?_, ?_, ?_, trivial⟩
        all_goals
          intro ev w4 hb hev hd
          have ev8 : ev (.tmp 8) = .pointer (some ⟨X, 0, none⟩) := hev _ (by simp)
          have ev1 : ev (.tmp 1) = .slice (some ⟨bz, oz, none⟩) nz cz := hev _ (by simp)
          have ev10 : ev (.tmp 10) = .int .i64 k := hev _ (by simp)
          have evf : ∀ f, ev (.func f) = .func (.func f) #[] #[] := fun f => hev _ (by simp)
          have evc : ∀ c, ev (.const c) = c := fun c => hev _ (by simp)
          have hbw : Below wr.heap.size wr w4 := (Below.refl _ _).drew.trans hb
          have z1 := (hbw.cell (p := ⟨bz, oz + k, none⟩) hbzl).trans HCL.out
          have HB4 := hide hbw
          have hrf := Below.refl w4.heap.size w4
          have hdr := (Below.refl w4.heap.size w4).drew
          clear hev hb hbw
          simp [DepsG, Held.is] at hd
          try (set_option maxHeartbeats 40000 in simp [OpRuns, execOp, go_sem, Held.is, *]; done)
        · simp [OpRuns, execOp, go_sem, Held.is, hd, evf]
          exact HEN.out w4 HB4.out
        · simp [OpRuns, execOp, go_sem, heldOne, hd]
          exact ⟨balloc hrf _, w4.heap.size, HB4.out.size, rfl, by omega, by rw [World.cell?_alloc_mark]; rfl⟩
        · obtain ⟨e61, ⟨g, h0, e66, h2, h3⟩, -⟩ := hd
          have HR := hide (HROW.out w4 HB4.out g h2 h3)
          simp [OpRuns, execOp, go_sem, heldBats, e61, e66, evf, evc]
          exact HR.out.mono fun e w'' ⟨⟨A, c, he, h1, _, _, qs, hb, hqs⟩, hbl⟩ => ⟨_, he, hbl, A, c, rfl, h1, qs, hb.mono HB4.out.size, by simpa using hqs⟩
        · obtain ⟨A, c, qs, e67, h1, hb, hqs⟩ := hd
          obtain ⟨g, Ax, cx, rfl, hl, q0, q1, q2, q3⟩ := hb.one hqs
          simp [OpRuns, execOp, go_sem, heldPBat, e67, evc]
          exact ⟨hrf, hl, q0, q1, Ax, cx, q2, q3⟩
        · obtain ⟨g, A, c, e68, hl, q0, q1, q2, q3⟩ := hd
          simp [OpRuns, execOp, go_sem, heldBat, batV, e68, q0, q1, q2]
          exact ⟨hrf, A, c, ⟨rfl, rfl⟩, q3⟩
        · simp [OpRuns, execOp, go_sem, heldNewB]
          exact ⟨balloc hrf _, w4.heap.size, HB4.out.size, rfl, heap_alloc_new _ _⟩
      · intro f w5 hb hf
        obtain ⟨gB, hgB, e11, hcB⟩ := hf 11 (by simp)
        obtain ⟨Ab, cb, e69, hib⟩ := hf 69 (by simp)
        have HB5 := hide (show Below wr.heap.size wr w5 from (Below.refl _ _).drew.trans hb)
        have HIB := hide hib
        have HCB := hide hcB
        have x0 : w5.cell? ⟨gB, 0, none⟩ = some (.int .i64 0) := box_cell hcB 0
        have x1 : w5.cell? ⟨gB, 1, none⟩ = some (.int .i64 0) := box_cell hcB 1
        have x2 : w5.cell? ⟨gB, 2, none⟩ = some (.slice none 0 0) := box_cell hcB 2
        have u0 := box_free hcB 0
        have u1 := box_free hcB 1
        have u2 := box_free hcB 2
        have hgz : gB < w5.heap.size := (Array.getElem?_eq_some_iff.1 hcB).1
        clear hb hf hib hcB HROW hcell
        simp only [puts, Act.put, List.setIfInBounds_toArray, List.set_cons_succ, List.set_cons_zero]
        rw [e11, e69]
        clear e11 e69
        generalize f 60 = q60
        generalize f 61 = q61
        generalize f 62 = q62
        generalize f 63 = q63
        generalize f 64 = q64
        generalize f 65 = q65
        generalize f 66 = q66
        generalize f 67 = q67
        generalize f 68 = q68
        clear f
        unfold batV
        go_upto_region 17 with fail
        obtain ⟨w6, hw6⟩ : ∃ w6, w6 = ((w5.setCell ⟨gB, 0, none⟩ (.int .i64 b.base)).setCell ⟨gB, 1, none⟩ (.int .i64 b.epoch)).setCell ⟨gB, 2, none⟩ (.slice Ab b.recs.length cb) := ⟨_, rfl⟩
        obtain ⟨hb6, hk6⟩ := boxed HB5.out hgB HCB.out HIB.out w6 hw6 (fun k => S k ∨ T k) (fun k hk => by
          rcases hk with hk | hk
          · exact (HF.out.sg.disk.lo k hk).2
          · exact (HF.out.sg.lo k hk).2)
        rw [← hw6]
        have HB6 := hide hb6
        have HK6 := hide hk6
        have HF6 := hide (HF.out.quiet hb6)
        clear hw6 hb6 hk6 x0 x1 x2 u0 u1 u2 HCB HIB hgz
        have HSZ := hide (fun (W : World) (hw : Below w6.heap.size w6 W) => sgSize_any X Bd s T W (HF6.out.sg.seg.below hw) HF6.out.sg.ok)
        rw [HF6.out.md.pos] at HSZ
        have hub := HF6.out.bytes
        obtain ⟨u, hu⟩ : ∃ u, u = (bs.flatMap Rc.bytes).length := ⟨_, rfl⟩
        rw [← hu] at HSZ hub
        have HU := hide hu
        obtain ⟨L, hL⟩ : ∃ L, L = (Rc.bytes b).length := ⟨_, rfl⟩
        have HLL := hide hL
        have hLs : L ≤ 300 := by rw [hL]; exact HSM.out
        clear hu hL
        by_cases hfits : (u : Int) + (L : Int) ≤ room
        · obtain ⟨d', he, hm'⟩ := HF6.out.md.add b HG.out HFO.out (by rw [← HU.out, ← HLL.out]; omega)
          have HAP := hide (fun (W : World) (hw : Below w6.heap.size w6 W) => sgAppend_any w1 W S T (k + 3) Bd X d s p b Ab cb b.recs.length (HF6.out.sg.grow hw) HS1.out HT1.out (by omega) (by rw [HF6.out.md.len]; have := HF6.out.len; omega) (by rw [HF6.out.md.pos, ← HU.out]; omega) (fun W2 hcW => (HK6.out W2 ((Chg.of_below hw).then hcW)).1) rfl (fun _ => by rw [← HLL.out]; omega))
          rw [he] at HAP
          simp only at HAP
          have HF8 := hide (fun (S8 T8 : Nat → Prop) (W : World) (hh : SgW w1 S8 T8 (k + 3 + 1) Bd d' X (s.add b (Rc.bytes b).length) W) => (show Fu w1 S8 T8 Bd X room x (k + 1) d' (s.add b (Rc.bytes b).length) (bs ++ [b]) W from by
            obtain ⟨a', hoff, ha⟩ := HF6.out.off
            have hn5 := HBV.out.2.2
            refine ⟨by rw [show k + 1 + 3 = k + 3 + 1 by omega]; exact hh, ?_, ?_, ⟨a + b.recs.length, ?_, ?_⟩, ?_, fun y hy => ?_⟩
            · have e : (((bs ++ [b]).flatMap Rc.bytes).length : Nat) = (((bs.flatMap Rc.bytes).length : Nat) : Int) + ((Rc.bytes b).length : Int) := by rw [List.flatMap_append, List.length_append]; simp
              rw [e]; exact hm'
            · rw [List.length_append]; have := HF6.out.len; simp; omega
            · rw [Sg.add_last]; show b.base + (b.recs.length : Int) = _; rw [HBV.out.1]; omega
            · have := HA5.out; omega
            · rw [Sg.add_last]; show b.epoch ≤ 1; rw [HBV.out.2.1]; omega
            · rcases List.mem_append.1 hy with hy | hy
              · exact HF6.out.small y hy
              · rw [List.mem_singleton] at hy; subst hy; exact HSM.out))
          have dfit : decide ((u : Int) + (L : Int) ≤ room) = true := decide_eq_true hfits
          have HOF : Hid ((Sg.last (s.add b (Rc.bytes b).length).edges).off = b.base + b.recs.length) := hide (by rw [Sg.add_last]; rfl)
          have HS8 := hide (fun (W : World) (hc : Chg (fun k => S k ∨ T k) w6 W) => rsize1_any b Ab cb b.recs.length W (HK6.out W hc).1 HG.out rfl)
          rw [← HLL.out] at HS8
          unfold batV at HS8
          have hwu : IntKind.i64.wrap ((u : Int) + (L : Int)) = (u : Int) + (L : Int) := by rw [IntKind.wrap_i64]; omega
          clear he hm'
          generalize s.add b (Rc.bytes b).length = s' at *
          unfold batV at HAP
          go_upto_region 19 with (first
            | (go_at_call 26; refine (HSZ.out w6 (Below.refl _ _)).mono ?_; rintro e w7 ⟨rfl, hb7⟩; have HB7 := hide hb7; obtain ⟨-, y0, y1, y2⟩ := HK6.out w7 (Chg.of_below hb7); clear hb7)
            | (go_at_call 36; refine (HAP.out w7 HB7.out).mono ?_; rintro e w8 ⟨rfl, S8, T8, hh8, hc8, -⟩; have HC8 := hide ((Chg.of_below HB7.out).then hc8); have H8 := hide (HF8.out S8 T8 w8 hh8); clear hh8 hc8 HAP HF8; unfold errR)
            | fail)
          obtain ⟨-, y0', y1', y2'⟩ := HK6.out w8 HC8.out
          clear y0 y1 y2
          go_upto_region 20 with (first
            | (go_at_call 48; refine (HS8.out w8 HC8.out).mono ?_; rintro e w9 ⟨rfl, hb9⟩; have HB9 := hide hb9; clear hb9)
            | fail)
          have H9 := hide (H8.out.quiet HB9.out)
          have HK9 := hide (fun (W : World) (hc : Chg (fun k => S k ∨ T k) w9 W) => HK6.out W ((HC8.out.then (Chg.of_below HB9.out)).then hc))
          have HE9 := hide (fun (W : World) (hw : Below w9.heap.size w9 W) => sgEnd_any X Bd s' T8 W (H9.out.sg.seg.below hw) H9.out.sg.ok)
          rw [HOF.out] at HE9
          have HN9 := hide (fun (W : World) (_ : Below w9.heap.size w9 W) => rnext_any b Ab cb b.recs.length W rfl HG.out.base0 (by have := HG.out.base1; omega) (by have := HG.out.n1; omega))
          unfold batV at HN9
          clear y0' y1' y2' HS8 HK6 H8 HC8 HB9 HSZ HEN HBV HF HF6 HCL
          generalize hss : s.edges = se at *
          refine wp_region_guardU (G := fun a b : World => Below a.heap.size a b) ⟨fun w => Below.refl _ w, fun h k => h.trans (k.mono h.size)⟩ [81, 82, 83, 84, 85, 86, 87, 88, 89, 90, 91, 92, 93, 94, 95, 96, 97, 98, 99, 100, 101, 102, 103, 104, 105, 106, 107, 108, 109, 110, 111] (fun d => match d with
            | 81 => .is .nilIface | 82 => .is (.bool true) | 83 => .is (.bool true) | 84 => .is (.bool false) | 85 => .is (.bool false) | 86 => .is (.bool true) | 87 => .is (.bool false) | 88 => .is (.bool false) | 100 => .is (.bool false) | 101 => .is (.bool false) | 102 => .is (.bool false) | 103 => .is (.bool true) | 104 => .is (.bool true) | 105 => .is (.pointer (some ⟨X, 0, none⟩)) | 106 => .is (.int .i64 (b.base + b.recs.length)) | 107 => .is (.agg #[.int .i64 b.base, .int .i64 b.epoch, .slice Ab b.recs.length cb]) | 108 => .is (.int .i64 (b.base + b.recs.length)) | 109 => .is (.bool false) | 110 => .is (.bool false) | 111 => .is (.bool false) | _ => .is undef) (by kernel_rfl) (by kernel_rfl) (by kernel_rfl) ?_ ?_
          · simp only [StepsGU]
            refine ⟨?_, ?_, ?_, ?_, ?_, ?_, ?_, ?_, ?_, ?_, ?_, ?_, ?_, ?_, ?_, ?_, ?_, ?_, ?_, ?_, ?_, ?_, ?_, ?_, ?_, ?_, ?_, ?_, ?_, ?_, ?_, trivial⟩
            all_goals
              intro ev wb hb hev hd
              have ev8 : ev (.tmp 8) = .pointer (some ⟨X, 0, none⟩) := hev _ (by simp)
              have ev11 : ev (.tmp 11) = .pointer (some ⟨gB, 0, none⟩) := hev _ (by simp)
              have ev12 : ev (.tmp 12) = .int .i64 (u : Nat) := hev _ (by simp)
              have ev13 : ev (.tmp 13) = .nilIface := hev _ (by simp)
              have ev14 : ev (.tmp 14) = .bool true := hev _ (by simp)
              have evf : ∀ f, ev (.func f) = .func (.func f) #[] #[] := fun f => hev _ (by simp)
              have evc : ∀ c, ev (.const c) = c := fun c => hev _ (by simp)
              have HBb := hide (show Below w9.heap.size w9 wb from (Below.refl _ _).drew.trans hb)
              obtain ⟨-, v0, v1, v2⟩ := HK9.out wb (Chg.of_below HBb.out)
              clear hev hb
              simp [DepsG, Held.is, undef] at hd
              try (simp [OpGuardU, undef, OpRuns, execOp, go_sem, Held.is, Below.refl, *]; done)
            · simp [OpGuardU, undef, OpRuns, execOp, go_sem, Held.is, Below.refl, *]
              exact HE9.out wb HBb.out
            · simp [OpGuardU, undef, OpRuns, execOp, go_sem, Held.is, Below.refl, *]
              exact HN9.out wb HBb.out
          · intro f wd hb hf
            have e111 : f 111 = .bool false := hf 111 (by simp)
            have HBd := hide (show Below w9.heap.size w9 wd from (Below.refl _ _).drew.trans hb)
            clear hf hb
            simp only [puts, Act.put, List.setIfInBounds_toArray, List.set_cons_succ, List.set_cons_zero]
            rw [e111]
            clear e111
            generalize f 81 = q81
            generalize f 82 = q82
            generalize f 83 = q83
            generalize f 84 = q84
            generalize f 85 = q85
            generalize f 86 = q86
            generalize f 87 = q87
            generalize f 88 = q88
            generalize f 89 = q89
            generalize f 90 = q90
            generalize f 91 = q91
            generalize f 92 = q92
            generalize f 93 = q93
            generalize f 94 = q94
            generalize f 95 = q95
            generalize f 96 = q96
            generalize f 97 = q97
            generalize f 98 = q98
            generalize f 99 = q99
            generalize f 100 = q100
            generalize f 101 = q101
            generalize f 102 = q102
            generalize f 103 = q103
            generalize f 104 = q104
            generalize f 105 = q105
            generalize f 106 = q106
            generalize f 107 = q107
            generalize f 108 = q108
            generalize f 109 = q109
            generalize f 110 = q110
            clear f
            go_wp2_with fail
            go_roundw
            case rel => exact ⟨k + 1, _, _, _, _, _, by omega, by go_num, H9.out.quiet HBd.out⟩
            case measure => simp [intOf]; omega
        · have he := HF6.out.md.full b HG.out HFO.out (by rw [← HU.out, ← HLL.out]; omega)
          have HAP := hide (fun (W : World) (hw : Below w6.heap.size w6 W) => sgAppend_any w1 W S T (k + 3) Bd X d s p b Ab cb b.recs.length (HF6.out.sg.grow hw) HS1.out HT1.out (by omega) (by rw [HF6.out.md.len]; have := HF6.out.len; omega) (by rw [HF6.out.md.pos, ← HU.out]; omega) (fun W2 hcW => (HK6.out W2 ((Chg.of_below hw).then hcW)).1) rfl (fun _ => by rw [← HLL.out]; omega))
          rw [he] at HAP
          simp only at HAP
          have HF8 := hide (fun (S8 T8 : Nat → Prop) (W : World) (hh : SgW w1 S8 T8 (k + 3 + 1) Bd d X s W) => (show Fu w1 S8 T8 Bd X room x (k + 1) d s bs W from by
            obtain ⟨a', hoff, ha⟩ := HF6.out.off
            exact ⟨by rw [show k + 1 + 3 = k + 3 + 1 by omega]; exact hh, HF6.out.md, by have := HF6.out.len; omega, ⟨a', hoff, by omega⟩, HF6.out.ep, HF6.out.small⟩))
          have dfit : decide ((u : Int) + (L : Int) ≤ room) = false := decide_eq_false hfits
          have HOF : Hid ((Sg.last s.edges).off = b.base) := hide (by
            have h := HFO.out
            unfold Sg.follows at h
            simp only [Bool.and_eq_true, decide_eq_true_eq] at h
            exact h.1.symm)
          have HS8 := hide (fun (W : World) (hc : Chg (fun k => S k ∨ T k) w6 W) => rsize1_any b Ab cb b.recs.length W (HK6.out W hc).1 HG.out rfl)
          rw [← HLL.out] at HS8
          unfold batV at HS8
          have hwu : IntKind.i64.wrap ((u : Int) + (L : Int)) = (u : Int) + (L : Int) := by rw [IntKind.wrap_i64]; omega
          clear he
          have hne := eql_nil (p 8)
          simp only [errV] at hne
          unfold batV at HAP
          go_upto_region 20 with (first
            | (go_at_call 26; refine (HSZ.out w6 (Below.refl _ _)).mono ?_; rintro e w7 ⟨rfl, hb7⟩; have HB7 := hide hb7; obtain ⟨-, y0, y1, y2⟩ := HK6.out w7 (Chg.of_below hb7); clear hb7)
            | (go_at_call 36; refine (HAP.out w7 HB7.out).mono ?_; rintro e w8 ⟨rfl, S8, T8, hh8, hc8, -⟩; have HC8 := hide ((Chg.of_below HB7.out).then hc8); have H8 := hide (HF8.out S8 T8 w8 hh8); obtain ⟨-, y0', y1', y2'⟩ := HK6.out w8 HC8.out; clear hh8 hc8 HAP HF8; unfold errR errV)
            | (go_at_call 48; refine (HS8.out w8 HC8.out).mono ?_; rintro e w9 ⟨rfl, hb9⟩; have HB9 := hide hb9; clear hb9)
            | fail)
          have H9 := hide (H8.out.quiet HB9.out)
          have HK9 := hide (fun (W : World) (hc : Chg (fun k => S k ∨ T k) w9 W) => HK6.out W ((HC8.out.then (Chg.of_below HB9.out)).then hc))
          have HE9 := hide (fun (W : World) (hw : Below w9.heap.size w9 W) => sgEnd_any X Bd s T8 W (H9.out.sg.seg.below hw) H9.out.sg.ok)
          have HZ9 := hide (fun (W : World) (hw : Below w9.heap.size w9 W) => sgSize_any X Bd s T8 W (H9.out.sg.seg.below hw) H9.out.sg.ok)
          rw [HOF.out] at HE9
          rw [H9.out.md.pos, ← HU.out] at HZ9
          clear HS8 HK6 H8 HC8 HB9 HSZ HEN HBV HF HF6 HCL y0 y1 y2 y0' y1' y2'
          refine wp_region_guardU (G := fun a b : World => Below a.heap.size a b) ⟨fun w => Below.refl _ w, fun h k => h.trans (k.mono h.size)⟩ [81, 82, 83, 84, 85, 86, 87, 88, 89, 90, 91, 92, 93, 94, 95, 96, 97, 98, 99, 100, 101, 102, 103, 104, 105, 106, 107, 108, 109, 110, 111] (fun d => match d with
            | 81 => .is (.iface 260 (.pointer (some (p 8)))) | 82 => .is (.bool false) | 83 => .is (.bool false) | 84 => .is (.bool false) | 85 => .is (.bool false) | 86 => .is (.bool false) | 87 => .is (.bool true) | 88 => .is (.bool true) | 89 => .is (.pointer (some ⟨X, 0, none⟩)) | 90 => .is (.int .i64 (u : Nat)) | 91 => .is (.int .i64 (u : Nat)) | 92 => .is (.bool false) | 93 => .is (.bool false) | 94 => .is (.pointer (some ⟨X, 0, none⟩)) | 95 => .is (.int .i64 b.base) | 96 => .is (.pointer (some ⟨gB, 0, none⟩)) | 97 => .is (.int .i64 b.base) | 98 => .is (.bool false) | 99 => .is (.bool false) | 100 => .is (.bool false) | 101 => .is (.bool false) | 102 => .is (.bool false) | 103 => .is (.bool false) | 104 => .is (.bool false) | 110 => .is (.bool false) | 111 => .is (.bool false) | _ => .is undef) (by kernel_rfl) (by kernel_rfl) (by kernel_rfl) ?_ ?_
          · simp only [StepsGU]
            refine ⟨?_, ?_, ?_, ?_, ?_, ?_, ?_, ?_, ?_, ?_, ?_, ?_, ?_, ?_, ?_, ?_, ?_, ?_, ?_, ?_, ?_, ?_, ?_, ?_, ?_, ?_, ?_, ?_, ?_, ?_, ?_, trivial⟩
            all_goals
              intro ev wb hb hev hd
              have ev8 : ev (.tmp 8) = .pointer (some ⟨X, 0, none⟩) := hev _ (by simp)
              have ev11 : ev (.tmp 11) = .pointer (some ⟨gB, 0, none⟩) := hev _ (by simp)
              have ev12 : ev (.tmp 12) = .int .i64 (u : Nat) := hev _ (by simp)
              have ev13 : ev (.tmp 13) = (.iface 260 (.pointer (some (p 8)))) := hev _ (by simp)
              have ev14 : ev (.tmp 14) = .bool false := hev _ (by simp)
              have evf : ∀ f, ev (.func f) = .func (.func f) #[] #[] := fun f => hev _ (by simp)
              have evc : ∀ c, ev (.const c) = c := fun c => hev _ (by simp)
              have HBb := hide (show Below w9.heap.size w9 wb from (Below.refl _ _).drew.trans hb)
              obtain ⟨-, v0, v1, v2⟩ := HK9.out wb (Chg.of_below HBb.out)
              clear hev hb
              simp [DepsG, Held.is, undef] at hd
              try (simp [OpGuardU, undef, OpRuns, execOp, go_sem, Held.is, Below.refl, *]; done)
            · simp [OpGuardU, undef, OpRuns, execOp, go_sem, Held.is, Below.refl, *]
              exact HZ9.out wb HBb.out
            · simp [OpGuardU, undef, OpRuns, execOp, go_sem, Held.is, Below.refl, *]
              exact HE9.out wb HBb.out
          · intro f wd hb hf
            have e111 : f 111 = .bool false := hf 111 (by simp)
            have HBd := hide (show Below w9.heap.size w9 wd from (Below.refl _ _).drew.trans hb)
            clear hf hb
            simp only [puts, Act.put, List.setIfInBounds_toArray, List.set_cons_succ, List.set_cons_zero]
            rw [e111]
            clear e111
            generalize f 81 = q81
            generalize f 82 = q82
            generalize f 83 = q83
            generalize f 84 = q84
            generalize f 85 = q85
            generalize f 86 = q86
            generalize f 87 = q87
            generalize f 88 = q88
            generalize f 89 = q89
            generalize f 90 = q90
            generalize f 91 = q91
            generalize f 92 = q92
            generalize f 93 = q93
            generalize f 94 = q94
            generalize f 95 = q95
            generalize f 96 = q96
            generalize f 97 = q97
            generalize f 98 = q98
            generalize f 99 = q99
            generalize f 100 = q100
            generalize f 101 = q101
            generalize f 102 = q102
            generalize f 103 = q103
            generalize f 104 = q104
            generalize f 105 = q105
            generalize f 106 = q106
            generalize f 107 = q107
            generalize f 108 = q108
            generalize f 109 = q109
            generalize f 110 = q110
            clear f
            go_wp2_with fail
            go_roundw
            case rel => exact ⟨k + 1, _, _, _, _, _, by omega, by go_num, H9.out.quiet HBd.out⟩
            case measure => simp [intOf]; omega
    · obtain rfl : k = nz := by omega
      have hm := HF.out.md
      have hub := HF.out.bytes
      obtain ⟨d3', hsy, -⟩ := hm.has.sync (Nm.seg 0) x hm.nm
      have hraw := hm.bytes
      have hlen0 := hm.has.len (Nm.seg 0) x hm.nm
      rw [hraw] at hlen0
      have hrd0 := hm.has.read (Nm.seg 0) x _ hm.nm rfl
      rw [hraw] at hrd0
      have hfind := hm.has.find (Nm.seg 0) x hm.nm
      have htk := Sg.take_adds bs (Sg.begin (Nm.seg 0) 0 10) hm.zero hm.chain hm.good [] Sg.rcode_nil
      rw [List.append_nil] at htk
      have hpos := hm.pos
      rw [hm.seg] at hpos
      have hop := sgOpen_good w1 wr S (k + 3) Bd d 0 10 p HF.out.sg.disk HS1.out (by omega) (by omega) (by omega) HT1.out HP1.out (bs.flatMap Rc.bytes) _ ((bs.flatMap Rc.bytes).length : Nat) d d3' (by rw [hfind]) hlen0 hrd0 (by omega) htk hpos (by omega) (if_neg (by omega)) hsy
      rw [← hm.seg] at hop
      obtain ⟨u, hu⟩ : ∃ u : Nat, u = (bs.flatMap Rc.bytes).length := ⟨_, rfl⟩
      rw [← hu, Int.sub_self] at hop
      have hps := hm.pos
      rw [← hu] at hps
      have HOP := hide hop
      have HPS := hide hps
      have dn : decide ((k : Int) < k) = false := decide_eq_false (by omega)
      obtain ⟨E, hE⟩ : ∃ E, E = (Sg.last s.edges).off := ⟨_, rfl⟩
      have HE := hide hE
      clear hm hsy hraw hlen0 hrd0 hfind htk hpos hop hps hE
      go_upto_region 23 with (first
        | (go_at_call 42; refine HOP.out.mono ?_; rintro e w9 ⟨X2, S9, T9, rfl, hh9, hc9, -⟩; have H9 := hide hh9; have HC9 := hide hc9; clear hh9 hc9 HOP)
        | fail)
      have hsg : SegAt w9 X Bd s T := HF.out.sg.seg.same fun j hj hl => HC9.out.block j hl (HF.out.sg.apart j hj)
      have HXE := hide (fun (W : World) (hw : Below w9.heap.size w9 W) => sgEnd_any X2 Bd _ T9 W (H9.out.seg.below hw) H9.out.ok)
      have HXS := hide (fun (W : World) (hw : Below w9.heap.size w9 W) => sgSize_any X2 Bd _ T9 W (H9.out.seg.below hw) H9.out.ok)
      have HYE := hide (fun (W : World) (hw : Below w9.heap.size w9 W) => sgEnd_any X Bd s T W (hsg.below hw) HF.out.sg.ok)
      have HYS := hide (fun (W : World) (hw : Below w9.heap.size w9 W) => sgSize_any X Bd s T W (hsg.below hw) HF.out.sg.ok)
      simp only at HXE HXS
      rw [← HE.out] at HXE HYE
      rw [HPS.out] at HXS HYS
      have HB9 := hide (HB1.out.trans (H9.out.below.mono HB1.out.size))
      clear hsg HE HPS HF HC9
      go_wp2_with (first
        | (go_at_call 25; refine (HXE.out w9 (Below.refl _ _)).mono ?_; rintro e w10 ⟨rfl, hb10⟩; have HB10 := hide hb10; clear hb10)
        | (have _t := HB10; go_at_call 25; refine (HYE.out w10 HB10.out).mono ?_; rintro e w11 ⟨rfl, hb11⟩; have HB11 := hide (HB10.out.trans (hb11.mono HB10.out.size)); clear hb11)
        | (have _t := HB11; go_at_call 26; refine (HXS.out w11 HB11.out).mono ?_; rintro e w12 ⟨rfl, hb12⟩; have HB12 := hide (HB11.out.trans (hb12.mono HB11.out.size)); clear hb12)
        | (have _t := HB12; go_at_call 26; refine (HYS.out w12 HB12.out).mono ?_; rintro e w13 ⟨rfl, hb13⟩; have HB13 := hide (HB12.out.trans (hb13.mono HB12.out.size)); clear hb13)
        | fail)
      go_ret
      exact ⟨by simp, HB9.out.trans (HB13.out.mono HB9.out.size)⟩
end Go.Proofs.YtdbmlohpnlgjfaaGreatDoor
