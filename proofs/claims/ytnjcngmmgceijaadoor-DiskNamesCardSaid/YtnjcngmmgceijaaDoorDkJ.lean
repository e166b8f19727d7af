/-
  The names of a disk fall back to a copy of the durable ones.
  What a crash keeps of each file, over a list that grows at its end.
  A crash: the names fall back, each file keeps what was synced and what a pick adds.
-/
import Derived.Test.YtnjcngmmgceijaaDoorDkO
namespace Go.Proofs.YtnjcngmmgceijaaDoor
open Go.RowKit Go.Maps Go.Sort Go.Shelf

/-- The names are a new map: a copy of the durable ones. -/
theorem DiskL.renamed {w w' : World} {Bd nb db : Nat} {sv : Value} {ids : List Nat} {row : Nat → Value} {s : Dk.St} {S : Nat → Prop} (h : DiskL w Bd nb db sv ids row s S) (nb2 : Nat)
    (hbox : w'.heap[Bd]? = some (.cells (diskCells s nb2 db sv) 58 (0, 0))) (hn : NamesAt w' nb2 s.calls.toNat s.dur) (hk : ∀ k, k < w.heap.size → k ≠ Bd → w'.heap[k]? = w.heap[k]?) (hnb : w.heap.size ≤ nb2) :
    DiskL w' Bd nb2 db sv ids row { s with names := s.dur } (Up S w w') := by
  have lt : ∀ {k : Nat} {o : Obj}, w.heap[k]? = some o → k < w.heap.size := fun h => (Array.getElem?_eq_some_iff.1 h).1
  obtain ⟨m, hd, hm⟩ := h.dur
  have kc : ∀ {k : Nat} {c : Array Value} {t : TypeId}, w.heap[k]? = some (.cells c t (0, 0)) → t ≠ 58 → w'.heap[k]? = w.heap[k]? := fun h1 h2 => hk _ (lt h1) (types_ne h1 h.box h2)
  refine { box := hbox, names := hn, dur := ⟨m, hd.same (hk _ hd.lt (map_ne hd h.box)), hm⟩, ne := by have := hd.lt; omega, since := ownsRow_same h.since fun g hg => ?_, nodup := h.nodup, file := fun i hi => ?_, apart := h.apart, nref := h.dref, dref := h.dref, sref := h.sref, calls := h.calls, mBd := .inl h.mBd, mnb := .inr ⟨hnb, hn.lt⟩, mdb := .inl h.mdb, msv := fun g hg => .inl (h.msv g hg), mid := fun i hi => .inl (h.mid i hi), mrow := fun i hi g hg => .inl (h.mrow i hi g hg) }
  · obtain ⟨cur, h2⟩ := rowBlock_at h.since hg
    exact kc h2 (by decide)
  · have hfi := h.file i hi
    refine hfi.same (kc hfi.box (by decide)) fun g hg => ?_
    obtain ⟨cur, h4⟩ := ownBlock_lt hfi.row hg
    exact kc h4 (by decide)

end Go.Proofs.YtnjcngmmgceijaaDoor

namespace Go.Proofs.YtnjcngmmgceijaaDoor

/-- One file is kept so far. -/
def Dk.St.keepOne (picks : List Int) (i f : Nat) (s : Dk.St) : Dk.St :=
  { s.setFile f ((s.files f).keep ((s.files f).synced + Dk.pick picks i ((s.files f).bytes.length - (s.files f).synced))) with used := s.used + (((s.files f).synced + Dk.pick picks i ((s.files f).bytes.length - (s.files f).synced) : Nat) : Int) }
theorem keepAll_snoc (picks : List Int) : ∀ (l : List Nat) (i f : Nat) (s : Dk.St), Dk.St.keepAll picks i (l ++ [f]) s = (Dk.St.keepAll picks i l s).keepOne picks (i + l.length) f := by
  intro l
  induction l with
  | nil => intro i f s; simp [Dk.St.keepAll, Dk.St.keepOne]
  | cons x l ih =>
    intro i f s
    simp only [List.cons_append, Dk.St.keepAll, List.length_cons]
    rw [ih]
    congr 1
    omega
theorem keepAll_take (picks : List Int) (ys : List Nat) (j : Nat) (hj : j < ys.length) (s : Dk.St) : Dk.St.keepAll picks 1 (ys.take (j + 1)) s = (Dk.St.keepAll picks 1 (ys.take j) s).keepOne picks (1 + j) (ys.getD j 0) := by
  have e : ys.take (j + 1) = ys.take j ++ [ys.getD j 0] := by
    rw [List.take_add_one, List.getElem?_eq_getElem hj, Option.toList_some]
    simp [List.getD, hj]
  rw [e, keepAll_snoc, List.length_take, Nat.min_eq_left (by omega)]
/-- A row of files, read. -/
structure FileRow (w : World) (base : Nat) (A : Option Addr) (c : Nat) (ys : List Nat) : Prop where
  le : ys.length ≤ c
  max : c ≤ 9223372036854775807
  nil : A = none → c = 0
  get : ∀ j, j < ys.length → ∃ g, base ≤ g ∧ A = some ⟨g, 0, none⟩ ∧ w.cell? ⟨g, j, none⟩ = some (fileE (ys.getD j 0))
theorem files_read {w : World} {base : Nat} {v : Value} {ys : List Nat} (h : w.ownsRow base 63 1 v ys.length (ys.map fileE)) : ∃ A c, v = .slice A ys.length c ∧ FileRow w base A c ys := by
  rcases h.2 with ⟨e, h0⟩ | ⟨g, cap, cur, e, hg, hh, hle, hmax, -, -⟩
  · exact ⟨none, 0, by rw [e, h0], by omega, by omega, fun _ => rfl, fun j hj => by omega⟩
  · subst e
    refine ⟨_, _, rfl, hle, by unfold maxLen at hmax; omega, fun e => (by cases e), fun j hj => ⟨g, hg, rfl, ?_⟩⟩
    rw [h.cellAt j (by omega)]
    simp [List.getD, hj]
end Go.Proofs.YtnjcngmmgceijaaDoor

namespace Go.Proofs.YtnjcngmmgceijaaDoor
open Go.RowKit Go.Maps Go.Sort Go.Shelf

set_option maxRecDepth 100000 in
set_option maxHeartbeats 1000000 in
theorem crash_any (Bd : Nat) (s : Dk.St) (S : Nat → Prop) (A : Option Addr) (c n : Nat) (zs : List Int) (w : World) (h : IsDisk w Bd s S) (hft : Dk.Fit s) (hc6 : s.calls ≤ 1000000) (hz : IntsArg w A c zs) (hn : zs.length = n) (hzS : ∀ x o, A = some ⟨x, o, none⟩ → zs ≠ [] → ¬ S x ∧ x < w.heap.size) :
    Calls Tryd.prog 15 #[.pointer (some ⟨Bd, 0, none⟩), .slice A n c] w fun e w' => e = .returned (.tuple #[]) ∧ ∃ ys, (Dk.Order (s.settle (Dk.pick zs 0 s.since.length)) (s.settle (Dk.pick zs 0 s.since.length)).dur ys ∧ ys.length ≤ 1000000) ∧ IsDisk w' Bd (s.crash zs ys) (Up S w w') ∧ Chg S w w' := by
  obtain ⟨nb, db, sv, ids, row, h⟩ := h
  obtain ⟨Av, cv, hsv⟩ : ∃ Av cv, sv = .slice Av s.since.length cv := by
    rcases h.since.2 with ⟨e, h0⟩ | ⟨g, cap, cur, e, _⟩
    · exact ⟨none, 0, by rw [e, h0]⟩
    · exact ⟨_, _, e⟩
  have c3 : w.cell? ⟨Bd, 3, none⟩ = some sv := box_cell h.box 3
  rw [hsv] at c3
  have hsl : s.since.length ≤ 1000000 := by obtain ⟨m, _, hm⟩ := h.dur; have := h.calls; omega
  have HPK := hide (pick_any A c n zs 0 s.since.length w hz hn (by omega) (by omega))
  have HSE := hide (settle_any Bd nb db sv ids row s S (Dk.pick zs 0 s.since.length) w h (by omega) (Dk.pick_le _ _ _))
  obtain ⟨t, ht⟩ : ∃ t, t = s.settle (Dk.pick zs 0 s.since.length) := ⟨_, rfl⟩
  have HT := hide ht
  have HFT := hide hft
  have HZ := hide hz
  have HN := hide hn
  have HZS := hide hzS
  have HD := hide h
  rw [← ht] at HSE
  have htc : t.calls = s.calls := by rw [ht]; rfl
  have HTC := hide htc
  have HC6 := hide hc6
  clear h hft hz hn hzS ht hsv htc hc6
  go_enter Tryd.func15, Tryd.ntmps15
  go_upto_region 3 with (first
    | (go_at_call 36; refine HPK.out.mono ?_; rintro e w ⟨rfl, rfl⟩)
    | (go_at_call 35; refine HSE.out.mono ?_; rintro e w2 ⟨rfl, hd2, hc2⟩; have HD2 := hide hd2; have HC2 := hide hc2; have d2 : w2.cell? ⟨Bd, 2, none⟩ = some (.map (some db)) := box_cell hd2.box 2; have d1 : w2.cell? ⟨Bd, 1, none⟩ = some (.map (some nb)) := box_cell hd2.box 1; have f1 := box_free hd2.box 1; obtain ⟨mm, hdn, hmm⟩ := hd2.dur; have HCL := hide (mapClone_any db mm t.dur w2 hdn); have HMM := hide hmm; clear hd2 hc2 hdn hmm)
    | (go_at_call 37; refine HCL.out.mono ?_; rintro e w3 ⟨rfl, hn3, hb3, hz3⟩; have HN3 := hide hn3; have HB3 := hide hb3; have HZ3 := hide hz3; have hbx3 := (hb3.block Bd (Array.getElem?_eq_some_iff.1 HD2.out.box).1).trans HD2.out.box; have HBX3 := hide hbx3; have e1 : w3.cell? ⟨Bd, 1, none⟩ = some (.map (some nb)) := box_cell hbx3 1; have g1 := box_free hbx3 1; have e4 : w3.cell? ⟨Bd, 4, none⟩ = some (.int .i64 t.used) := box_cell hbx3 4; have g4 := box_free hbx3 4; clear hn3 hb3 hz3 hbx3 d1 d2 f1)
    | fail)
  have hb5a := heap_setCell_same w3 Bd 1 _ _ (.map (some w2.heap.size)) HBX3.out
  have hb5 := heap_setCell_same _ Bd 4 _ _ (.int .i64 0) hb5a
  have ho5 : ∀ k, k ≠ Bd → ((w3.setCell ⟨Bd, 1, none⟩ (.map (some w2.heap.size))).setCell ⟨Bd, 4, none⟩ (.int .i64 0)).heap[k]? = w3.heap[k]? := fun k hk => by
    rw [Below.heap_setCell _ _ _ _ (by exact hk), Below.heap_setCell _ _ _ _ (by exact hk)]
  have hc5 : Chg (fun b => b = Bd) w3 ((w3.setCell ⟨Bd, 1, none⟩ (.map (some w2.heap.size))).setCell ⟨Bd, 4, none⟩ (.int .i64 0)) := (Chg.setCell (S := fun b => b = Bd) _ _ _ _ rfl).then (Chg.setCell (S := fun b => b = Bd) _ _ _ _ rfl)
  have hz5 : ((w3.setCell ⟨Bd, 1, none⟩ (.map (some w2.heap.size))).setCell ⟨Bd, 4, none⟩ (.int .i64 0)).heap.size = w3.heap.size := by simp
  generalize (w3.setCell ⟨Bd, 1, none⟩ (.map (some w2.heap.size))).setCell ⟨Bd, 4, none⟩ (.int .i64 0) = w5 at *
  have lt : ∀ {w : World} {k : Nat} {o : Obj}, w.heap[k]? = some o → k < w.heap.size := fun h => (Array.getElem?_eq_some_iff.1 h).1
  have hnB : w2.heap.size ≠ Bd := fun e => by have := lt HD2.out.box; omega
  have hD5 := (HD2.out.set 4 (.int .i64 0) { t with used := 0 } rfl rfl rfl rfl rfl (Int.le_refl _))
  have hd5 : DiskL w5 Bd w2.heap.size db (.slice none 0 0) ids row { t with names := t.dur, used := 0 } (Up S w2 w5) := by
    have h0 : DiskL (w2.setCell ⟨Bd, 4, none⟩ (.int .i64 0)) Bd nb db (.slice none 0 0) ids row { t with used := 0 } S := hD5
    have h1 := h0.renamed (w' := w5) w2.heap.size (by rw [hb5]; rfl) ((HN3.out.same (ho5 _ hnB)).mono (by show mm ≤ t.calls.toNat; have := HMM.out; omega)) (fun k hk hkB => by
      rw [World.size_setCell] at hk
      rw [ho5 k hkB, HB3.out.block k hk, Below.heap_setCell _ _ _ _ (by exact hkB)]) (by rw [World.size_setCell]; exact Nat.le_refl _)
    exact h1.mono fun k hk => by
      rcases hk with hk | hk
      · exact .inl hk
      · rw [World.size_setCell] at hk; exact .inr hk
  have HD5 := hide hd5
  have HC5 : Hid (Chg S w w5) := hide (((HC2.out.mono fun b e => by rcases e with e | e; exact e ▸ HD.out.mBd; exact e ▸ HD.out.mdb).then (Chg.of_below HB3.out)).then (hc5.mono fun b e => e ▸ HD.out.mBd))
  have k1 : w5.cell? ⟨Bd, 1, none⟩ = some (.map (some w2.heap.size)) := box_cell hd5.box 1
  have HEF := hide (elderFirst_any w2.heap.size _ t.dur (fun i => (t.files i).born) w5 hd5.names (by show t.calls.toNat ≤ _; have := HTC.out; have := HC6.out; omega) (fun k i hk => box_cell (hd5.file i (hd5.nref k i hk).1).box 0))
  clear hd5 hD5 hb5a hb5 hc5 e1 g1 e4 g4 lt
  go_upto_region 4 with (first
    | (go_at_call 38; refine HEF.out.mono ?_; rintro e w6 ⟨v, ys, rfl, ⟨hvals, hyl⟩, hpw, hrow, hb6⟩; obtain ⟨Ay, cy, rfl, hfr⟩ := files_read hrow; have HFR := hide hfr; have HVL := hide hvals; have HYL := hide hyl; have HPW := hide hpw; have HB6 := hide hb6; have hle6 := hfr.le; have hmx6 := hfr.max; have hA6 := hfr.nil; clear hfr hvals hyl hpw hrow hb6)
    | fail)
  have hyn : ys.length ≤ 1000000 := by have h1 : ys.length ≤ t.calls.toNat := HYL.out; have := HTC.out; have := HC6.out; omega
  have HD6 : Hid (DiskL w6 Bd w2.heap.size db (.slice none 0 0) ids row { t with names := t.dur, used := 0 } (Up S w2 w5)) := hide (HD5.out.kept fun k _ hk => HB6.out.block k hk)
  have hyi : ∀ j, j < ys.length → ys.getD j 0 ∈ ids := fun j hj => by
    obtain ⟨xs, hv, hp⟩ := HVL.out
    have hm : ys.getD j 0 ∈ ys := by rw [show ys.getD j 0 = ys[j] from by simp [List.getD, hj]]; exact List.getElem_mem _
    obtain ⟨k, hk⟩ := vals_mem hv _ (hp.mem_iff.1 hm)
    exact (HD5.out.nref k _ hk).1
  have HYI := hide hyi
  clear hyi k1
  generalize hyl0 : ys.length = L at *
  have HL := hide hyl0
  have HLN := hide hyn
  clear hyl0
  go_loopw [32] (fun i wr => ∃ (j : Nat) (rw_ : Nat → Value), j ≤ L ∧ i = .int .i64 j ∧ DiskL wr Bd w2.heap.size db (.slice none 0 0) ids rw_ (Dk.St.keepAll zs 1 (ys.take j) { t with names := t.dur, used := 0 }) (Up S w2 w5) ∧ (0 ≤ (Dk.St.keepAll zs 1 (ys.take j) { t with names := t.dur, used := 0 }).used ∧ (Dk.St.keepAll zs 1 (ys.take j) { t with names := t.dur, used := 0 }).used ≤ (j : Int) * 1000000000) ∧ (∀ i, ((Dk.St.keepAll zs 1 (ys.take j) { t with names := t.dur, used := 0 }).files i).bytes.length ≤ 1000000000) ∧ Chg (fun b => b = Bd ∨ b ∈ ids) w6 wr ∧ wr.heap.size = w6.heap.size) (fun i _ => L - (intOf i).toNat)
  case atStart => exact ⟨0, row, Nat.zero_le _, rfl, HD6.out, ⟨Int.le_refl _, (by show (0 : Int) ≤ _; simp)⟩, fun i => by have := HFT.out.file i; rw [HT.out] at *; exact this, Chg.refl _ _, rfl⟩
  case round =>
    obtain ⟨j, rj, hj, rfl, hdj, huj, hfj, hcj, hzj⟩ := hrel
    by_cases hlt : j < L
    · obtain ⟨g, hbg, rfl, hcg⟩ := HFR.out.get j (by rw [HL.out]; exact hlt)
      have hst := keepAll_take zs ys j (by rw [HL.out]; exact hlt) { t with names := t.dur, used := 0 }
      have hii := HYI.out j hlt
      generalize ys.getD j 0 = x at *
      generalize Dk.St.keepAll zs 1 (ys.take j) { t with names := t.dur, used := 0 } = u at *
      have hfi := hdj.file x hii
      have hfx := hfj x
      have hsy := hfi.sync
      obtain ⟨Ax, cx, hrv, -⟩ := hfi.row.arg
      have c1x : wr.cell? ⟨x, 1, none⟩ = some (rj x) := box_cell hfi.box 1
      rw [hrv] at c1x
      have c2x : wr.cell? ⟨x, 2, none⟩ = some (.int .i64 ((u.files x).synced : Int)) := box_cell hfi.box 2
      have lt5 : ∀ {k : Nat} {o : Obj}, w5.heap[k]? = some o → k < w5.heap.size := fun h => (Array.getElem?_eq_some_iff.1 h).1
      have hgn : ¬ (g = Bd ∨ g ∈ ids) := fun e => by
        rcases e with e | e
        · have := lt5 HD5.out.box; omega
        · have := lt5 (HD5.out.file g e).box; omega
      have cg := hcj.cell hcg hgn
      have HZR : Hid (IntsArg wr.drew A c zs) := hide ⟨HZ.out.le, HZ.out.max, HZ.out.nil, fun k hk => by
        obtain ⟨b, off, e, hb⟩ := HZ.out.get k hk
        obtain ⟨hnS, hbl⟩ := HZS.out b off e (by intro e0; subst e0; simp at hk)
        have h1 := HC5.out.cell hb hnS
        have h2 := (HB6.out.cell (p := ⟨b, off + k, none⟩) (Nat.lt_of_lt_of_le hbl HC5.out.size)).trans h1
        exact ⟨b, off, e, hcj.cell h2 fun e => by
          rcases e with e | e
          · exact hnS (e ▸ HD.out.mBd)
          · exact hnS (HD.out.mid b e)⟩, HZ.out.fit⟩
      have hpl := Dk.pick_le zs (1 + j) ((u.files x).bytes.length - (u.files x).synced)
      have HPR := hide (pick_any A c n zs (1 + j) ((u.files x).bytes.length - (u.files x).synced) wr.drew HZR.out HN.out (by omega) (by omega))
      generalize hlen : (u.files x).bytes.length = len at *
      generalize hsyn : (u.files x).synced = syn at *
      have hw1 : IntKind.i64.wrap ((len : Int) - (syn : Int)) = ((len - syn : Nat) : Int) := by rw [IntWalk.i64_in _ (by omega)]; omega
      have hw2 : IntKind.i64.wrap ((j : Int) + 1) = ((1 + j : Nat) : Int) := by rw [IntWalk.i64_in _ (by omega)]; omega
      generalize hpk : Dk.pick zs (1 + j) (len - syn) = pk at *
      have hw3 : IntKind.i64.wrap ((syn : Int) + (pk : Int)) = ((syn + pk : Nat) : Int) := by rw [IntWalk.i64_in _ (by omega)]; omega
      have HDJ := hide hdj
      have HFI := hide hfi
      have HCJ := hide hcj
      clear hdj hfi hcj hcg hgn hrv
      go_upto_region 6 with fail
      go_still_tail 20, (by kernel_rfl)
      still_call (HPR.out)
      repeat still_step
      refine wpStill_nil ?_
      change wpList _ _ _ _ _ wr.drew
      have HDQ : Hid (DiskL wr.drew Bd w2.heap.size db (.slice none 0 0) ids rj u (Up S w2 w5)) := hide (HDJ.out.kept fun _ _ _ => rfl)
      have HKP := hide (keep_any x (rj x) (u.files x) (syn + pk) wr.drew (HDQ.out.file x hii) (by rw [hlen]; omega))
      have HCQ : Hid (Chg (fun b => b = Bd ∨ b ∈ ids) w6 wr.drew) := hide ⟨HCJ.out.os, HCJ.out.tape, HCJ.out.output, HCJ.out.size, HCJ.out.block⟩
      have HZQ : Hid (wr.drew.heap.size = w6.heap.size) := hide hzj
      have HST := hide hst
      clear c1x c2x cg hzj hst
      generalize wr.drew = wq at *
      go_upto_region 7 with (first
        | (go_at_call 39; refine HKP.out.mono ?_; rintro e w7 ⟨rfl, v', hf7, hv7, hc7, hz7⟩)
        | fail)
      have hd7 := HDQ.out.file_ x hii v' _ hf7 (fun b hb hbi _ => hc7.block b hb hbi) (fun g hg => .inl (hv7 g hg)) (by omega)
      have hd7 := hd7.mono (up_same hz7)
      obtain ⟨A7, c7, rfl, -⟩ := hf7.row.arg
      have hkl : ((u.files x).keep (syn + pk)).bytes.length = syn + pk := by simp only [Dk.File.keep, List.length_take]; omega
      have c71 : w7.cell? ⟨x, 1, none⟩ = some (.slice A7 ((u.files x).keep (syn + pk)).bytes.length c7) := box_cell hf7.box 1
      rw [hkl] at c71
      have c74 : w7.cell? ⟨Bd, 4, none⟩ = some (.int .i64 u.used) := box_cell hd7.box 4
      have f74 := box_free hd7.box 4
      have hw4 : IntKind.i64.wrap (u.used + ((syn + pk : Nat) : Int)) = u.used + ((syn + pk : Nat) : Int) := IntWalk.i64_in _ (by have h8 : (j : Int) ≤ 1000000 := (by omega); omega)
      generalize hsp : syn + pk = sp at *
      have hd8 := (hd7.kept (w' := w7.drew) fun _ _ _ => rfl).set 4 (.int .i64 (u.used + (sp : Int))) { u.setFile x ((u.files x).keep sp) with used := u.used + (sp : Int) } rfl rfl rfl rfl rfl (Int.le_refl _)
      have HD8 := hide hd8
      have HC7 := hide hc7
      have HZ7 := hide hz7
      clear hf7 hv7 hc7 hz7 hd7 hd8
      go_still_tail 10, (by kernel_rfl)
      change wpList _ _ _ _ _ w7.drew
      have x74 : w7.drew.cell? ⟨Bd, 4, none⟩ = some (.int .i64 u.used) := c74
      have y74 : w7.drew.frozen? ⟨Bd, 4, none⟩ = false := f74
      have HC8 : Hid (Chg (fun b => b = Bd ∨ b ∈ ids) w6 w7.drew) := hide ((HCQ.out.then (HC7.out.mono fun b e => .inr (e ▸ hii))).then ⟨rfl, rfl, rfl, Nat.le_refl _, fun _ _ _ => rfl⟩)
      have HZ8 : Hid (w7.drew.heap.size = w6.heap.size) := hide (HZ7.out.trans HZQ.out)
      clear c71 c74 f74
      generalize w7.drew = w8 at *
      have hone : u.keepOne zs (1 + j) x = { u.setFile x ((u.files x).keep sp) with used := u.used + (sp : Int) } := by
        unfold Dk.St.keepOne
        rw [hlen, hsyn, hpk, hsp]
      have HONE := hide hone
      clear hone
      go_wp2_with fail
      refine ⟨⟨j + 1, _, by omega, by congr 1; omega, by rw [HST.out, HONE.out]; exact HD8.out, ?_, ?_, HC8.out.then (Chg.setCell _ _ _ _ (.inl rfl)), by rw [World.size_setCell]; exact HZ8.out⟩, by simp [intOf]; omega⟩
      · rw [HST.out, HONE.out]
        show 0 ≤ u.used + (sp : Int) ∧ u.used + (sp : Int) ≤ _
        omega
      · intro i
        rw [HST.out, HONE.out]
        show ((u.setFile x ((u.files x).keep sp)).files i).bytes.length ≤ _
        by_cases e : i = x
        · subst e
          rw [Dk.setFile_same]
          simp only [Dk.File.keep, List.length_take]
          omega
        · rw [Dk.setFile_other _ _ _ _ e]
          exact hfj i
    · obtain rfl : j = L := by omega
      have z6 : wr.cell? ⟨Bd, 6, none⟩ = some (.int .i64 _) := box_cell hdj.box 6
      have z7 : wr.cell? ⟨Bd, 7, none⟩ = some (.bool _) := box_cell hdj.box 7
      have y6 := box_free hdj.box 6
      have y7 := box_free hdj.box 7
      have hall : ys.take j = ys := List.take_of_length_le (by rw [HL.out]; exact Nat.le_refl _)
      rw [hall] at hdj
      have HDJ := hide (begin_set hdj 0 false)
      have HCJ := hide hcj
      clear hdj hcj huj hfj
      generalize Dk.St.keepAll zs 1 (ys.take j) { t with names := t.dur, used := 0 } = u1 at *
      go_wp2_with fail
      go_end0
      have hcr : s.crash zs ys = { Dk.St.keepAll zs 1 ys { t with names := t.dur, used := 0 } with armed := 0, down := false } := by
        unfold Dk.St.crash
        rw [← HT.out]
      obtain ⟨xs, hv, hp⟩ := HVL.out
      have hcS : Chg S w6 wr := HCJ.out.mono fun b e => by
        rcases e with e | e
        · exact e ▸ HD.out.mBd
        · exact HD.out.mid b e
      refine ⟨rfl, ys, ⟨by rw [← HT.out]; exact ⟨xs, hv, hp, HPW.out⟩, by rw [HL.out]; exact HLN.out⟩, ⟨w2.heap.size, db, .slice none 0 0, ids, rj, hcr ▸ HDJ.out.mono fun k hk => ?_⟩, (((HC5.out.then (Chg.of_below HB6.out)).then hcS).then (Chg.setCell _ _ _ _ HD.out.mBd)).then (Chg.setCell _ _ _ _ HD.out.mBd)⟩
      rcases hk with hk | hk
      · exact .inl hk
      · refine .inr ?_
        have h1 := HC2.out.size
        have h2 := HB6.out.size
        simp only [World.size_setCell]
        omega
end Go.Proofs.YtnjcngmmgceijaaDoor
