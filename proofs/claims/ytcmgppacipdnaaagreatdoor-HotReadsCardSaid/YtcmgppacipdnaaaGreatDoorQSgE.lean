/-
  Package seg: Append.
  Package seg: take.
  Package seg: what a segment made of batches comes to.
  Package seg: the bytes and the edges of a segment made of batches.
  Package seg: the order of the edges; which of them a test counts; when a read finds what it is to be told.
-/
import Derived.Test.YtcmgppacipdnaaaGreatDoorQNsC
import Derived.Test.YtcmgppacipdnaaaGreatDoorQSgR
import Derived.Test.YtcmgppacipdnaaaGreatDoorQSgW
namespace Go.Proofs.YtcmgppacipdnaaaGreatDoor
open Go.RowKit Go.Maps Go.Sort

theorem Rc.foldmax_bd (lo hi : Int) : ∀ (rs : List Rc.Rec) (t : Int), lo ≤ t ∧ t ≤ hi → (∀ r ∈ rs, lo ≤ r.t ∧ r.t ≤ hi) → lo ≤ rs.foldl (fun m r => max m r.t) t ∧ rs.foldl (fun m r => max m r.t) t ≤ hi
  | [], t, h, _ => h
  | r :: rs, t, h, hr => Rc.foldmax_bd lo hi rs (max t r.t) (by have := hr r List.mem_cons_self; omega) fun x hx => hr x (List.mem_cons_of_mem _ hx)
theorem Rc.maxT_bd (rs : List Rc.Rec) (h : ∀ r ∈ rs, -1099511627776 ≤ r.t ∧ r.t ≤ 1099511627776) : -1099511627776 ≤ Rc.maxT rs ∧ Rc.maxT rs ≤ 1099511627776 := by
  cases rs with
  | nil => exact ⟨by decide, by decide⟩
  | cons r rs => exact Rc.foldmax_bd _ _ rs r.t (h r List.mem_cons_self) fun x hx => h x (List.mem_cons_of_mem _ hx)
/-- What Append answers, and leaves. -/
def sgApp (d : Dk.St) (s : Sg.St) (b : Rc.Bat) : Option Nat × Dk.St × Sg.St :=
  if Rc.bad b ≠ 0 then (some (Rc.bad b - 101), d, s)
  else if Sg.follows s.edges b = false then (some 2, d, s)
  else ((d.append s.file (Rc.bytes b)).1, (d.append s.file (Rc.bytes b)).2, if (d.append s.file (Rc.bytes b)).1 = none then s.add b (Rc.bytes b).length else s)
theorem Sg.Ok.add {s : Sg.St} (h : Sg.Ok s) (b : Rc.Bat) (size : Nat) (hg : Rc.Good b) (hl : s.edges.length ≤ 90000) (hs : size ≤ 1000000) (hp : (Sg.last s.edges).pos ≤ 900000000) : Sg.Ok (s.add b size) := by
  have hm := Sg.last_mem h.ne
  have h0 := h.pos _ hm
  have ht := h.time _ hm
  have g0 := hg.base0
  have g1 := hg.base1
  have hmt : -1099511627776 ≤ Rc.maxT b.recs ∧ Rc.maxT b.recs ≤ 1099511627776 := Rc.maxT_bd b.recs fun r hr => ⟨(hg.recs r hr).1, (hg.recs r hr).2.1⟩
  have key : ∀ (P : Sg.Edge → Prop), (∀ e ∈ s.edges, P e) → P (Sg.step (Sg.last s.edges) b size) → ∀ e ∈ (s.add b size).edges, P e := fun P h1 h2 e he => by
    rcases List.mem_append.1 he with he | he
    · exact h1 e he
    · rw [List.mem_singleton] at he; subst he; exact h2
  refine ⟨by simp [Sg.St.add], by simp only [Sg.St.add, List.length_append, List.length_singleton]; omega, key _ h.off ?_, key _ h.pos ?_, key _ h.ep ⟨hg.ep0, hg.ep1⟩, key _ h.time ?_, h.every⟩
  · simp only [Sg.step]; omega
  · simp only [Sg.step]; omega
  · simp only [Sg.step]
    split
    · omega
    · exact hmt

set_option maxRecDepth 100000 in
set_option maxHeartbeats 400000 in
theorem sgAppend_anyQ (q : Nat) (hq : 1 ≤ q ∧ q ≤ 100) (w0 w : World) (S T : Nat → Prop) (n Bd X : Nat) (d : Dk.St) (s : Sg.St) (p : Nat → Addr) (b : Rc.Bat) (A : Option Addr) (cap m : Nat) (h : SgW w0 S T n Bd d X s w) (hs : SentsG w0 p) (ht : Tabs w0) (hn : n ≤ 1000) (hl : s.edges.length ≤ 90000) (hp : (Sg.last s.edges).pos ≤ 900000000)
    (hb : ∀ W, Chg (fun k => S k ∨ T k) w W → IsBat W A cap b) (hm : b.recs.length = m) (hlen : Rc.bad b = 0 → (Rc.bytes b).length ≤ 1000 * q) :
    Calls Tryz.prog 63 #[.pointer (some ⟨X, 0, none⟩), batV b.base b.epoch A m cap] w fun e w' => e = .returned (errR p (sgApp d s b).1) ∧ SgPost w0 S T (n + q) Bd (sgApp d s b).2.1 X (sgApp d s b).2.2 w w' := by
  have HH := hide h
  have HHB := hide h.below
  have HBT := hide hb
  have HS : Hid (∀ W, Below w.heap.size w W → SentsG W p) := hide (fun W hw => hs.below (h.below.trans (hw.mono h.below.size)))
  have HT : Hid (∀ W, Below w.heap.size w W → Tabs W) := hide (fun W hw => ht.below (h.below.trans (hw.mono h.below.size)) (Nat.le_refl _))
  have hW1 : Below w.heap.size w (w.alloc (.cells #[.int .i64 b.base, .int .i64 b.epoch, .slice A m cap] 36)) := balloc (Below.refl _ _) _
  have HW1 := hide hW1
  have y0 : (w.alloc (.cells #[.int .i64 b.base, .int .i64 b.epoch, .slice A m cap] 36)).cell? ⟨w.heap.size, 0, none⟩ = some (.int .i64 b.base) := by rw [World.cell?_alloc_mark]; rfl
  have y1 : (w.alloc (.cells #[.int .i64 b.base, .int .i64 b.epoch, .slice A m cap] 36)).cell? ⟨w.heap.size, 1, none⟩ = some (.int .i64 b.epoch) := by rw [World.cell?_alloc_mark]; rfl
  have y2 : (w.alloc (.cells #[.int .i64 b.base, .int .i64 b.epoch, .slice A m cap] 36)).cell? ⟨w.heap.size, 2, none⟩ = some (.slice A m cap) := by rw [World.cell?_alloc_mark]; rfl
  have hBz : w.heap.size < (w.alloc (.cells #[.int .i64 b.base, .int .i64 b.epoch, .slice A m cap] 36)).heap.size := by simp
  have HIB := hide (fun (W : World) (hw : Below w.heap.size w W) => HBT.out W (Chg.of_below hw))
  obtain ⟨R, hR⟩ : ∃ R, R = sgApp d s b := ⟨_, rfl⟩
  rw [← hR]
  have HR := hide hR
  have HSD := hide hs.d
  clear h hb hs ht hW1 hR
  by_cases hbad : Rc.bad b ≠ 0
  · have HRR : Hid (R = (some (Rc.bad b - 101), d, s)) := hide (by rw [HR.out]; unfold sgApp; rw [if_pos hbad])
    have HBY := hide (fun (W : World) (hw : Below w.heap.size w W) => batBytes_bad b A cap m W p (HIB.out W hw) (HS.out W hw).two hm hbad)
    have hnn := neq_nilD (p (Rc.bad b - 101))
    unfold errV at hnn HBY
    generalize hbb : Rc.bad b - 101 = bb at *
    generalize b.base = ba at *
    generalize b.epoch = ep at *
    unfold batV at *
    go_enter Tryz.func63, Tryz.ntmps63
    go_wp2_with (first
      | (go_at_call 106; refine (HBY.out _ HW1.out).mono ?_; rintro e w2 ⟨rfl, hb2⟩; have HB2 := hide (HW1.out.trans (hb2.mono HW1.out.size)); clear hb2)
      | fail)
    go_ret
    rw [HRR.out]
    exact ⟨rfl, SgPost.of_grow (HH.out.mono (Nat.le_add_right n q)) HB2.out⟩
  · have hb0 : Rc.bad b = 0 := by omega
    have hg := (Rc.bad_good b).1 hb0
    have HG := hide hg
    have HBY := hide (fun (W : World) (hw : Below w.heap.size w W) => batBytes_any b A cap m W p (HIB.out W hw) (HS.out W hw).two (HT.out W hw) hm hg)
    have hlen0 := hlen hb0
    have HFW := hide (fun (W : World) (hw : Below w.heap.size w W) => sgFollows_any X Bd s T b.base b.epoch A m cap W (HH.out.seg.below hw) HH.out.ok)
    have HFQ : Hid (Sg.follows s.edges b = (decide (b.base = (Sg.last s.edges).off) && decide ((Sg.last s.edges).ep ≤ b.epoch))) := hide rfl
    rw [← HFQ.out] at HFW
    clear hbad hlen
    cases hf : Sg.follows s.edges b with
    | false =>
      have HRR : Hid (R = (some 2, d, s)) := hide (by rw [HR.out]; unfold sgApp; rw [if_neg (by omega), if_pos hf])
      rw [hf] at HFW
      generalize b.base = ba at *
      generalize b.epoch = ep at *
      unfold batV at *
      go_enter Tryz.func63, Tryz.ntmps63
      go_wp2_with (first
        | (go_at_call 106; refine (HBY.out _ HW1.out).mono ?_; rintro e w2 ⟨v2, rfl, ho2, hb2⟩; have HB2 := hide (HW1.out.trans (hb2.mono HW1.out.size)); obtain ⟨A2, c2, rfl, ha2⟩ := ho2.arg; have z0 := (hb2.cell (p := ⟨w.heap.size, 0, none⟩) hBz).trans y0; have z1 := (hb2.cell (p := ⟨w.heap.size, 1, none⟩) hBz).trans y1; have z2 := (hb2.cell (p := ⟨w.heap.size, 2, none⟩) hBz).trans y2; clear hb2 ho2 ha2)
        | (go_at_call 107; refine (HFW.out _ HB2.out).mono ?_; rintro e w3 ⟨rfl, hb3⟩; have HB3 := hide (HB2.out.trans (hb3.mono HB2.out.size)); have g2 : w3.cell? ⟨2, 0, none⟩ = some (errV (p 2)) := (HS.out _ HB3.out).cell 2 (by omega); clear hb3)
        | fail)
      go_ret
      rw [HRR.out]
      exact ⟨rfl, SgPost.of_grow (HH.out.mono (Nat.le_add_right n q)) HB3.out⟩
    | true =>
      rw [hf] at HFW
      have HAP := hide (fun (W : World) (hw : Below w.heap.size w W) (A2 : Option Addr) (c2 : Nat) (ha : Arg W A2 c2 (Rc.bytes b)) (hA : ∀ x o, A2 = some ⟨x, o, none⟩ → w.heap.size ≤ x) => (HH.out.disk.grow hw).appendQ q hq p HSD.out hn s.file HH.out.nm A2 c2 (Rc.bytes b).length (Rc.bytes b) ha rfl (by omega) (fun x o e _ hS => by have := hA x o e; have := (HH.out.disk.lo x hS).2; omega))
      cases hr : d.append s.file (Rc.bytes b) with
      | mk r d' =>
        rw [hr] at HAP
        simp only at HAP
        have HADD := hide (fun (W : World) (hsg : SegAt W X Bd s T) (hib : IsBat W A cap b) => sgAdd_any X Bd s T b A cap m (Rc.bytes b).length W hsg HH.out.ok hl hib hm hg.base0 (by have := hg.base1; omega) (by omega))
        have HOK := hide (HH.out.ok.add b (Rc.bytes b).length hg hl (by omega) hp)
        have HRR : Hid (R = (r, d', if r = none then s.add b (Rc.bytes b).length else s)) := hide (by rw [HR.out]; unfold sgApp; rw [if_neg (by omega), if_neg (by rw [hf]; simp), hr])
        clear hr
        generalize b.base = ba at *
        generalize b.epoch = ep at *
        obtain ⟨v0, hsl⟩ := HH.out.seg
        have HSL := hide hsl
        clear hsl
        generalize hfe : encStr s.file = fv at *
        unfold batV at *
        cases r with
        | none =>
          rw [if_pos rfl] at HRR
          go_enter Tryz.func63, Tryz.ntmps63
          go_upto_region 6 with (first
            | (go_at_call 106; refine (HBY.out _ HW1.out).mono ?_; rintro e w2 ⟨v2, rfl, ho2, hb2⟩; have HB2 := hide (HW1.out.trans (hb2.mono HW1.out.size)); have hfar := ho2.lt; obtain ⟨A2, c2, rfl, ha2⟩ := ho2.arg; have HFAR : Hid (∀ x o, A2 = some ⟨x, o, none⟩ → w.heap.size ≤ x) := hide (fun x o e => by have h1 := (hfar x (by rw [e]; rfl)).1; have h2 := HW1.out.size; omega); have HA2 := hide ha2; have z0 := (hb2.cell (p := ⟨w.heap.size, 0, none⟩) hBz).trans y0; have z1 := (hb2.cell (p := ⟨w.heap.size, 1, none⟩) hBz).trans y1; have z2 := (hb2.cell (p := ⟨w.heap.size, 2, none⟩) hBz).trans y2; have hz2 : w.heap.size < w2.heap.size := Nat.lt_of_lt_of_le hBz hb2.size; clear hb2 ho2 ha2 hfar)
            | (go_at_call 107; refine (HFW.out _ HB2.out).mono ?_; rintro e w3 ⟨rfl, hb3⟩; have HB3 := hide (HB2.out.trans (hb3.mono HB2.out.size)); have HA3 := hide (HA2.out.below hb3 (Nat.le_refl _)); have q0 := (hb3.cell (p := ⟨w.heap.size, 0, none⟩) hz2).trans z0; have q1 := (hb3.cell (p := ⟨w.heap.size, 1, none⟩) hz2).trans z1; have q2 := (hb3.cell (p := ⟨w.heap.size, 2, none⟩) hz2).trans z2; clear hb3)
            | fail)
          have x0 : w3.cell? ⟨X, 0, none⟩ = some (.pointer (some ⟨Bd, 0, none⟩)) := box_cell (HSL.out.below HB3.out).box 0
          have x1 : w3.cell? ⟨X, 1, none⟩ = some fv := hfe ▸ box_cell (HSL.out.below HB3.out).box 1
          have HW3 := hide (HH.out.grow HB3.out)
          have HA3' := hide (HA3.out.below (Below.refl w3.heap.size w3).drew (Nat.le_refl _))
          go_still_tail 9, (by kernel_rfl)
          change wpList _ _ _ _ _ w3.drew
          go_wp2_with (first
            | (go_at_call 108; refine (HAP.out _ HB3.out.drew A2 c2 HA3'.out HFAR.out).mono ?_; rintro e w4 ⟨rfl, hd4, hc4⟩; have HP4 := hide (HW3.out.toldP (w' := w4) hd4 ((Chg.of_below (Below.refl w3.heap.size w3).drew).then hc4)); have hcw : Chg S w3 w4 := (Chg.of_below (Below.refl w3.heap.size w3).drew).then hc4; have hnS : ¬ S w.heap.size := fun hS => Nat.lt_irrefl _ (HH.out.disk.lo _ hS).2; have t0 := hcw.cell q0 hnS; have t1 := hcw.cell q1 hnS; have t2 := hcw.cell q2 hnS; have HIB4 := hide (HBT.out w4 ((Chg.of_below HB3.out).then (hcw.mono fun k hk => .inl hk))); clear hd4 hc4 hcw hnS; unfold errR)
            | (go_at_call 109; refine (HADD.out _ HP4.out.1.seg HIB4.out).mono ?_; rintro e w5 ⟨rfl, hs5, hc5⟩; have HP5 := hide (SgPost.of_seg HP4.out.1 hs5 hc5 HOK.out rfl); clear hs5 hc5)
            | fail)
          go_ret
          rw [HRR.out]
          exact ⟨rfl, SgPost.ahead HB3.out (SgPost.trans HP4.out HP5.out)⟩
        | some j =>
          rw [if_neg (by simp)] at HRR
          have hnn := neq_nilD (p j)
          unfold errV at hnn
          go_enter Tryz.func63, Tryz.ntmps63
          go_upto_region 6 with (first
            | (go_at_call 106; refine (HBY.out _ HW1.out).mono ?_; rintro e w2 ⟨v2, rfl, ho2, hb2⟩; have HB2 := hide (HW1.out.trans (hb2.mono HW1.out.size)); have hfar := ho2.lt; obtain ⟨A2, c2, rfl, ha2⟩ := ho2.arg; have HFAR : Hid (∀ x o, A2 = some ⟨x, o, none⟩ → w.heap.size ≤ x) := hide (fun x o e => by have h1 := (hfar x (by rw [e]; rfl)).1; have h2 := HW1.out.size; omega); have HA2 := hide ha2; have z0 := (hb2.cell (p := ⟨w.heap.size, 0, none⟩) hBz).trans y0; have z1 := (hb2.cell (p := ⟨w.heap.size, 1, none⟩) hBz).trans y1; have z2 := (hb2.cell (p := ⟨w.heap.size, 2, none⟩) hBz).trans y2; have hz2 : w.heap.size < w2.heap.size := Nat.lt_of_lt_of_le hBz hb2.size; clear hb2 ho2 ha2 hfar)
            | (go_at_call 107; refine (HFW.out _ HB2.out).mono ?_; rintro e w3 ⟨rfl, hb3⟩; have HB3 := hide (HB2.out.trans (hb3.mono HB2.out.size)); have HA3 := hide (HA2.out.below hb3 (Nat.le_refl _)); have q0 := (hb3.cell (p := ⟨w.heap.size, 0, none⟩) hz2).trans z0; have q1 := (hb3.cell (p := ⟨w.heap.size, 1, none⟩) hz2).trans z1; have q2 := (hb3.cell (p := ⟨w.heap.size, 2, none⟩) hz2).trans z2; clear hb3)
            | fail)
          have x0 : w3.cell? ⟨X, 0, none⟩ = some (.pointer (some ⟨Bd, 0, none⟩)) := box_cell (HSL.out.below HB3.out).box 0
          have x1 : w3.cell? ⟨X, 1, none⟩ = some fv := hfe ▸ box_cell (HSL.out.below HB3.out).box 1
          have HW3 := hide (HH.out.grow HB3.out)
          have HA3' := hide (HA3.out.below (Below.refl w3.heap.size w3).drew (Nat.le_refl _))
          go_still_tail 9, (by kernel_rfl)
          change wpList _ _ _ _ _ w3.drew
          go_wp2_with (first
            | (go_at_call 108; refine (HAP.out _ HB3.out.drew A2 c2 HA3'.out HFAR.out).mono ?_; rintro e w4 ⟨rfl, hd4, hc4⟩; have HP4 := hide (HW3.out.toldP (w' := w4) hd4 ((Chg.of_below (Below.refl w3.heap.size w3).drew).then hc4)); have hcw : Chg S w3 w4 := (Chg.of_below (Below.refl w3.heap.size w3).drew).then hc4; have hnS : ¬ S w.heap.size := fun hS => Nat.lt_irrefl _ (HH.out.disk.lo _ hS).2; have t0 := hcw.cell q0 hnS; have t1 := hcw.cell q1 hnS; have t2 := hcw.cell q2 hnS; have HIB4 := hide (HBT.out w4 ((Chg.of_below HB3.out).then (hcw.mono fun k hk => .inl hk))); clear hd4 hc4 hcw hnS; unfold errR errV)
            | fail)
          go_ret
          rw [HRR.out]
          exact ⟨rfl, SgPost.ahead HB3.out ⟨_, _, HP4.out⟩⟩
theorem sgAppend_any (w0 w : World) (S T : Nat → Prop) (n Bd X : Nat) (d : Dk.St) (s : Sg.St) (p : Nat → Addr) (b : Rc.Bat) (A : Option Addr) (cap m : Nat) (h : SgW w0 S T n Bd d X s w) (hs : SentsG w0 p) (ht : Tabs w0) (hn : n ≤ 1000) (hl : s.edges.length ≤ 90000) (hp : (Sg.last s.edges).pos ≤ 900000000)
    (hb : ∀ W, Chg (fun k => S k ∨ T k) w W → IsBat W A cap b) (hm : b.recs.length = m) (hlen : Rc.bad b = 0 → (Rc.bytes b).length ≤ 1000) :
    Calls Tryz.prog 63 #[.pointer (some ⟨X, 0, none⟩), batV b.base b.epoch A m cap] w fun e w' => e = .returned (errR p (sgApp d s b).1) ∧ SgPost w0 S T (n + 1) Bd (sgApp d s b).2.1 X (sgApp d s b).2.2 w w' :=
  sgAppend_anyQ 1 ⟨Nat.le_refl _, by omega⟩ w0 w S T n Bd X d s p b A cap m h hs ht hn hl hp hb hm hlen
end Go.Proofs.YtcmgppacipdnaaaGreatDoor

namespace Go.Proofs.YtcmgppacipdnaaaGreatDoor
open Go.RowKit Go.Shelf Go.Sort

namespace Sg
/-- Where a segment's batches end in its bytes. -/
def St.at_ (s : St) : Nat := (last s.edges).pos.toNat
/-- The batch that stands there and follows, with its size. -/
def next (l : List UInt8) (s : St) : Option (Rc.Bat × Nat) :=
  if Rc.rcode (l.drop s.at_) = 0 ∧ follows s.edges (Rc.parse (Rc.rbody (l.drop s.at_))) = true then some (Rc.parse (Rc.rbody (l.drop s.at_)), Rc.rsize (l.drop s.at_)) else none
def takeGo (l : List UInt8) : Nat → St → St
  | 0, s => s
  | f + 1, s => match next l s with
    | some (b, n) => takeGo l f (s.add b n)
    | none => s
/-- What take leaves. -/
def take (l : List UInt8) (s : St) : St := takeGo l (l.length + 1 - s.at_) s
end Sg
end Go.Proofs.YtcmgppacipdnaaaGreatDoor

namespace Go.Proofs.YtcmgppacipdnaaaGreatDoor.Sg

/-- The segment with these batches behind it. -/
def adds (s : St) (bs : List Rc.Bat) : St := bs.foldl (fun s b => s.add b (Rc.bytes b).length) s
theorem adds_nil (s : St) : adds s [] = s := rfl
theorem adds_cons (s : St) (b : Rc.Bat) (bs : List Rc.Bat) : adds s (b :: bs) = adds (s.add b (Rc.bytes b).length) bs := rfl
theorem adds_append (s : St) (bs cs : List Rc.Bat) : adds s (bs ++ cs) = adds (adds s bs) cs := by unfold adds; rw [List.foldl_append]
theorem adds_file (bs : List Rc.Bat) : ∀ s : St, (adds s bs).file = s.file ∧ (adds s bs).every = s.every ∧ (adds s bs).synced = s.synced := by
  induction bs with
  | nil => exact fun s => ⟨rfl, rfl, rfl⟩
  | cons b bs ih => exact fun s => ih (s.add b (Rc.bytes b).length)
theorem add_len (s : St) (b : Rc.Bat) (n : Nat) : (s.add b n).edges.length = s.edges.length + 1 := by simp [St.add]
theorem adds_len (bs : List Rc.Bat) : ∀ s : St, (adds s bs).edges.length = s.edges.length + bs.length := by
  induction bs with
  | nil => exact fun s => rfl
  | cons b bs ih => exact fun s => by rw [adds_cons, ih, add_len, List.length_cons]; omega
theorem add_last (s : St) (b : Rc.Bat) (n : Nat) : last (s.add b n).edges = step (last s.edges) b n := last_snoc _ _
theorem adds_pos (bs : List Rc.Bat) : ∀ s : St, (last (adds s bs).edges).pos = (last s.edges).pos + ((bs.flatMap Rc.bytes).length : Int) := by
  induction bs with
  | nil => exact fun s => by simp [adds]
  | cons b bs ih => exact fun s => by rw [adds_cons, ih, add_last, List.flatMap_cons, List.length_append]; simp only [step]; omega
theorem add_ed (s : St) (b : Rc.Bat) (n k : Nat) (hk : k < s.edges.length) : ed (s.add b n).edges k = ed s.edges k := by
  unfold ed St.add
  simp only [List.getD_eq_getElem?_getD]
  rw [List.getElem?_append_left hk]
theorem adds_ed (bs : List Rc.Bat) : ∀ (s : St) (k : Nat), k < s.edges.length → ed (adds s bs).edges k = ed s.edges k := by
  induction bs with
  | nil => exact fun s k _ => rfl
  | cons b bs ih => exact fun s k hk => by rw [adds_cons, ih _ k (by rw [add_len]; omega), add_ed s b _ k hk]
/-- An edge is what the batches ahead of it come to. -/
theorem adds_ed_at (s : St) (bs : List Rc.Bat) (k : Nat) (hk : k < bs.length) : ed (adds s bs).edges (s.edges.length + k) = last (adds s (bs.take (k + 1))).edges := by
  have e : bs = bs.take (k + 1) ++ bs.drop (k + 1) := (List.take_append_drop _ _).symm
  have hl : (adds s (bs.take (k + 1))).edges.length = s.edges.length + (k + 1) := by rw [adds_len, List.length_take, Nat.min_eq_left (by omega)]
  conv => lhs; rw [e, adds_append, adds_ed _ _ _ (by omega)]
  unfold last
  rw [hl]
  rfl
/-- Batches that follow each other. -/
def Chain (s : St) : List Rc.Bat → Prop
  | [] => True
  | b :: bs => follows s.edges b = true ∧ Chain (s.add b (Rc.bytes b).length) bs
theorem Chain.append {bs cs : List Rc.Bat} : ∀ {s : St}, Chain s (bs ++ cs) ↔ Chain s bs ∧ Chain (adds s bs) cs := by
  induction bs with
  | nil => exact fun {s} => ⟨fun h => ⟨trivial, h⟩, fun h => h.2⟩
  | cons b bs ih => exact fun {s} => ⟨fun h => ⟨⟨h.1, (ih.1 h.2).1⟩, (ih.1 h.2).2⟩, fun h => ⟨h.1.1, ih.2 ⟨h.1.2, h.2⟩⟩⟩
theorem Ok.adds {bs : List Rc.Bat} : ∀ {s : St}, Ok s → (∀ b ∈ bs, Rc.Good b ∧ (Rc.bytes b).length ≤ 1000000) → s.edges.length + bs.length ≤ 90000 → (last s.edges).pos + ((bs.flatMap Rc.bytes).length : Int) ≤ 900000000 → Ok (adds s bs) := by
  induction bs with
  | nil => exact fun {s} h _ _ _ => h
  | cons b bs ih =>
    intro s h hg hl hp
    rw [List.length_cons] at hl
    rw [List.flatMap_cons, List.length_append] at hp
    obtain ⟨g1, g2⟩ := hg b List.mem_cons_self
    rw [adds_cons]
    exact ih (h.add b _ g1 (by omega) g2 (by omega)) (fun x hx => hg x (List.mem_cons_of_mem _ hx)) (by rw [add_len]; omega) (by rw [add_last]; simp only [step]; omega)
end Go.Proofs.YtcmgppacipdnaaaGreatDoor.Sg

namespace Go.Proofs.YtcmgppacipdnaaaGreatDoor
namespace Sg
theorem allGo_bytes (l : List UInt8) (bs : List Rc.Bat) : ∀ (at_ : Nat) (acc : List Rc.Bat), at_ ≤ l.length → (∀ b ∈ bs, Rc.Good b) → l.drop at_ = bs.flatMap Rc.bytes → Rc.allGo l (l.length - at_) at_ acc = (acc ++ bs, l.length, 0) := by
  induction bs with
  | nil =>
    intro at_ acc hat _ hd
    have h := congrArg List.length hd
    rw [List.length_drop] at h
    simp only [List.flatMap_nil, List.length_nil] at h
    obtain rfl : at_ = l.length := by omega
    rw [Nat.sub_self, List.append_nil]
    rfl
  | cons b bs ih =>
    intro at_ acc hat hg hd
    have g := hg b List.mem_cons_self
    rw [List.flatMap_cons] at hd
    have hl8 := Rc.bytes_len b
    have hlen := congrArg List.length hd
    rw [List.length_drop, List.length_append] at hlen
    obtain ⟨r0, -, r2⟩ := Rc.bytes_read b g (bs.flatMap Rc.bytes)
    have r3 := Rc.bytes_rsize b g (bs.flatMap Rc.bytes)
    rw [show l.length - at_ = (l.length - at_ - 1) + 1 by omega, Rc.allGo, if_pos (by omega), hd, if_pos r0, r2, r3, (Rc.body_read b g).1]
    rw [Rc.allGo_fuel l _ (l.length - (at_ + (Rc.bytes b).length)) _ _ (by omega) (by omega)]
    rw [ih (at_ + (Rc.bytes b).length) (acc ++ [b]) (by omega) (fun x hx => hg x (List.mem_cons_of_mem _ hx)) (by rw [← List.drop_drop, hd, List.drop_left])]
    rw [List.append_assoc]
    rfl
theorem all_bytes (bs : List Rc.Bat) (hg : ∀ b ∈ bs, Rc.Good b) : Rc.all (bs.flatMap Rc.bytes) = (bs, (bs.flatMap Rc.bytes).length, 0) := by
  have h := allGo_bytes (bs.flatMap Rc.bytes) bs 0 [] (Nat.zero_le _) hg (List.drop_zero)
  rw [Nat.sub_zero, List.nil_append] at h
  exact h

/-- An edge of a segment made of batches, by the batches ahead of it. -/
theorem ed_last (s : St) (h1 : s.edges.length = 1) (bs : List Rc.Bat) (k : Nat) (hk : k ≤ bs.length) : ed (adds s bs).edges k = last (adds s (bs.take k)).edges := by
  cases k with
  | zero =>
    rw [adds_ed bs s 0 (by omega), List.take_zero, adds_nil]
    unfold last
    rw [h1]
  | succ k =>
    have h := adds_ed_at s bs k (by omega)
    rw [h1, Nat.add_comm] at h
    exact h
theorem ed_pos (s : St) (h1 : s.edges.length = 1) (h0 : (last s.edges).pos = 0) (bs : List Rc.Bat) (k : Nat) (hk : k ≤ bs.length) : (ed (adds s bs).edges k).pos = (((bs.take k).flatMap Rc.bytes).length : Int) := by
  rw [ed_last s h1 bs k hk, adds_pos, h0]
  omega
theorem ed_next (s : St) (h1 : s.edges.length = 1) (bs : List Rc.Bat) (k : Nat) (hk : k < bs.length) : (ed (adds s bs).edges (k + 1)).off = bs[k].base + bs[k].recs.length := by
  rw [ed_last s h1 bs (k + 1) (by omega), List.take_succ_eq_append_getElem hk, adds_append, adds_cons, adds_nil, add_last]
  rfl
theorem ed_base (s : St) (h1 : s.edges.length = 1) (bs : List Rc.Bat) (hc : Chain s bs) (k : Nat) (hk : k < bs.length) : bs[k].base = (ed (adds s bs).edges k).off := by
  rw [ed_last s h1 bs k (by omega)]
  have e : bs = bs.take k ++ bs.drop k := (List.take_append_drop _ _).symm
  rw [e] at hc
  have h := (Chain.append.1 hc).2
  rw [List.drop_eq_getElem_cons hk] at h
  have hf := h.1
  unfold follows at hf
  simp only [Bool.and_eq_true, decide_eq_true_eq] at hf
  exact hf.1
end Sg
theorem lies_adds (s : Sg.St) (h1 : s.edges.length = 1) (bs : List Rc.Bat) (hc : Sg.Chain s bs) (i j : Nat) (hij : i ≤ j) (hj : j ≤ bs.length) : Lies (Sg.adds s bs) ((bs.drop i).take (j - i)) i j := by
  refine ⟨by rw [List.length_take, List.length_drop]; omega, by rw [Sg.adds_len, h1]; omega, fun k hk => ?_⟩
  rw [List.length_take, List.length_drop] at hk
  have e : ((bs.drop i).take (j - i))[k]'(by rw [List.length_take, List.length_drop]; omega) = bs[i + k] := by simp
  rw [e]
  exact ⟨Sg.ed_base s h1 bs hc (i + k) (by omega), (Sg.ed_next s h1 bs (i + k) (by omega)).symm⟩
/-- What lies in the file between two edges. -/
theorem raw_adds (d : Dk.St) (s : Sg.St) (h1 : s.edges.length = 1) (h0 : (Sg.last s.edges).pos = 0) (bs : List Rc.Bat) (x : Nat) (hf : d.find s.file = (none, some x)) (hb : (d.files x).bytes = bs.flatMap Rc.bytes) (i j : Nat) (hij : i ≤ j) (hj : j ≤ bs.length) :
    sgRaw d (Sg.adds s bs) i j = (none, ((bs.drop i).take (j - i)).flatMap Rc.bytes) := by
  have p1 := Sg.ed_pos s h1 h0 bs i (by omega)
  have p2 := Sg.ed_pos s h1 h0 bs j hj
  have e1 : bs.take j = bs.take i ++ (bs.drop i).take (j - i) := by
    conv => lhs; rw [show j = i + (j - i) by omega, List.take_add]
  have e2 : bs.flatMap Rc.bytes = (bs.take i).flatMap Rc.bytes ++ (((bs.drop i).take (j - i)).flatMap Rc.bytes ++ (bs.drop j).flatMap Rc.bytes) := by
    conv => lhs; rw [← List.take_append_drop j bs, e1, List.flatMap_append, List.flatMap_append, List.append_assoc]
  rw [e1, List.flatMap_append, List.length_append] at p2
  unfold sgRaw
  rw [(Sg.adds_file bs s).1, p1, p2]
  unfold Dk.St.readOf
  rw [hf]
  simp only
  rw [hb]
  have hl := congrArg List.length e2
  rw [List.length_append, List.length_append] at hl
  rw [if_neg (by omega), e2, Int.toNat_natCast, List.drop_left, show ((((bs.take i).flatMap Rc.bytes).length + (((bs.drop i).take (j - i)).flatMap Rc.bytes).length : Nat) : Int) - (((bs.take i).flatMap Rc.bytes).length : Int) = ((((bs.drop i).take (j - i)).flatMap Rc.bytes).length : Int) by omega, Int.toNat_natCast, List.take_left]
end Go.Proofs.YtcmgppacipdnaaaGreatDoor

namespace Go.Proofs.YtcmgppacipdnaaaGreatDoor
namespace Sg
theorem flat_take_le (bs : List Rc.Bat) (a b : Nat) (h : a ≤ b) : ((bs.take a).flatMap Rc.bytes).length ≤ ((bs.take b).flatMap Rc.bytes).length := by
  have e : bs.take b = bs.take a ++ (bs.drop a).take (b - a) := by
    conv => lhs; rw [show b = a + (b - a) by omega, List.take_add]
  rw [e, List.flatMap_append, List.length_append]
  omega
theorem pos_mono (s : St) (h1 : s.edges.length = 1) (h0 : (last s.edges).pos = 0) (bs : List Rc.Bat) (a b : Nat) (hab : a ≤ b) (hb : b < (adds s bs).edges.length) : (ed (adds s bs).edges a).pos ≤ (ed (adds s bs).edges b).pos := by
  rw [adds_len, h1] at hb
  rw [ed_pos s h1 h0 bs a (by omega), ed_pos s h1 h0 bs b (by omega)]
  have := flat_take_le bs a b hab
  omega
theorem off_mono (s : St) (h1 : s.edges.length = 1) (bs : List Rc.Bat) (hc : Chain s bs) (a b : Nat) (hab : a ≤ b) (hb : b < (adds s bs).edges.length) : (ed (adds s bs).edges a).off ≤ (ed (adds s bs).edges b).off := by
  rw [adds_len, h1] at hb
  obtain ⟨n, rfl⟩ : ∃ n, b = a + n := ⟨b - a, by omega⟩
  clear hab
  induction n with
  | zero => exact Int.le_refl _
  | succ n ih =>
    have h := ih (by omega)
    have e1 := ed_base s h1 bs hc (a + n) (by omega)
    have e2 := ed_next s h1 bs (a + n) (by omega)
    rw [show a + (n + 1) = a + n + 1 by omega, e2]
    omega
/-- A test that holds from the k-th edge on. -/
theorem cnt_eq (l : List Edge) (P : Edge → Bool) (k : Nat) (hk : k ≤ l.length) (h1 : ∀ i, i < k → P (ed l i) = false) (h2 : ∀ i, k ≤ i → i < l.length → P (ed l i) = true) : cnt l P = k := by
  unfold cnt
  have e : List.range l.length = List.range k ++ (List.range (l.length - k)).map (k + ·) := by
    conv => lhs; rw [show l.length = k + (l.length - k) by omega, List.range_add]
  rw [e, List.countP_append]
  have a1 : (List.range k).countP (fun i => !P (ed l i)) = k := by
    have h := List.countP_eq_length (p := fun i => !P (ed l i)) (l := List.range k)
    rw [List.length_range] at h
    exact h.2 fun i hi => by rw [h1 i (List.mem_range.1 hi)]; rfl
  have a2 : ((List.range (l.length - k)).map (k + ·)).countP (fun i => !P (ed l i)) = 0 := by
    refine List.countP_eq_zero.2 fun i hi => ?_
    obtain ⟨j, hj, rfl⟩ := List.mem_map.1 hi
    have := List.mem_range.1 hj
    rw [h2 (k + j) (by omega) (by omega)]
    simp
  rw [a1, a2, Nat.add_zero]
end Sg

/-- When Read finds what it is to be told: the batch that has the offset, and how far the bytes go. -/
theorem read_adds (d : Dk.St) (s : Sg.St) (h1 : s.edges.length = 1) (h0 : (Sg.last s.edges).pos = 0) (bs : List Rc.Bat) (hc : Sg.Chain s bs) (hg : ∀ b ∈ bs, Rc.Good b) (hl : (bs.flatMap Rc.bytes).length ≤ 1000000) (x : Nat) (hf : d.find s.file = (none, some x)) (hb : (d.files x).bytes = bs.flatMap Rc.bytes)
    (o most : Int) (k q f fin : Nat) (hk : k < bs.length) (hq : o = bs[k].base + q) (hql : q < bs[k].recs.length) (hbad : Rc.bad (cutB bs[k] o q) = 0) (hsz : (Rc.bytes (cutB bs[k] o q)).length ≤ 1000000)
    (hf1 : Sg.cnt (Sg.adds s bs).edges (fun e => decide (most < e.pos - ((Sg.ed (Sg.adds s bs).edges (k + 1)).pos - (Rc.bytes (cutB bs[k] o q)).length))) = f) (hfin : (fin : Int) = max ((k : Int) + 1) ((f : Int) - 1)) (hfl : fin ≤ bs.length) :
    ReadH d (Sg.adds s bs) o most k q f fin bs[k] ((bs.drop (k + 1)).take (fin - (k + 1))) := by
  have hlen : (Sg.adds s bs).edges.length = bs.length + 1 := by rw [Sg.adds_len, h1]; omega
  have hom := Sg.off_mono s h1 bs hc
  have e0 := Sg.ed_base s h1 bs hc k hk
  have e1 := Sg.ed_next s h1 bs k hk
  have hlast : (Sg.last (Sg.adds s bs).edges).off = (Sg.ed (Sg.adds s bs).edges bs.length).off := by unfold Sg.last; rw [hlen]; rfl
  have m0 := hom 0 k (Nat.zero_le _) (by omega)
  have m1 := hom (k + 1) bs.length (by omega) (by omega)
  have hk1 : k + 1 ≤ fin := by omega
  have hone : (bs.drop k).take (k + 1 - k) = [bs[k]] := by
    rw [show k + 1 - k = 1 by omega, List.drop_eq_getElem_cons hk]
    rfl
  have hsub : ∀ i j, (((bs.drop i).take (j - i)).flatMap Rc.bytes).length ≤ (bs.flatMap Rc.bytes).length := fun i j => by
    have e : bs = bs.take i ++ ((bs.drop i).take (j - i) ++ (bs.drop i).drop (j - i)) := by rw [List.take_append_drop, List.take_append_drop]
    conv => rhs; rw [e, List.flatMap_append, List.flatMap_append, List.length_append, List.length_append]
    omega
  have hmem : ∀ i j, ∀ b ∈ (bs.drop i).take (j - i), Rc.Good b := fun i j b hb => hg b (List.mem_of_mem_drop (List.mem_of_mem_take hb))
  refine ⟨by omega, by rw [hlast]; omega, hom, Sg.pos_mono s h1 h0 bs, ?_, ?_, ?_, hq, hql, hbad, hsz, hf1, hfin, ?_, ?_⟩
  · refine Sg.cnt_eq _ _ (k + 1) (by omega) (fun i hi => decide_eq_false ?_) (fun i hi hil => decide_eq_true ?_)
    · have := hom i k (by omega) (by omega)
      omega
    · have := hom (k + 1) i hi hil
      omega
  · refine ⟨_, raw_adds d s h1 h0 bs x hf hb k (k + 1) (by omega) (by omega), ?_, by have := hsub k (k + 1); omega⟩
    rw [Sg.all_bytes _ (hmem k (k + 1)), hone]
  · have h := lies_adds s h1 bs hc k (k + 1) (by omega) (by omega)
    rwa [hone] at h
  · exact ⟨_, raw_adds d s h1 h0 bs x hf hb (k + 1) fin hk1 hfl, Sg.all_bytes _ (hmem (k + 1) fin), by have := hsub (k + 1) fin; omega⟩
  · exact lies_adds s h1 bs hc (k + 1) fin hk1 hfl
end Go.Proofs.YtcmgppacipdnaaaGreatDoor
