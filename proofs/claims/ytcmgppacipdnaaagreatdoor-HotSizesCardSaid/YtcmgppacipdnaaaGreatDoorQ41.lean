/-
  Package seg: Create, whatever the disk says; where its numbers may not be.
  A log of segments, plainly: its groups of batches; the disk that has them.
  The law of a region that draws its order, with guards that themselves were passed over: such an operation is passed over, too. Not of any one program.
-/
import Derived.Test.YtcmgppacipdnaaaGreatDoorQ37
import Derived.Test.YtcmgppacipdnaaaGreatDoorQ40
import Derived.Test.YtcmgppacipdnaaaGreatDoorQ20
namespace Go.Proofs.YtcmgppacipdnaaaGreatDoor
open Go.RowKit Go.Maps Go.Sort

/-- What Create makes of the disk, and its error. -/
def sgCrt (d : Dk.St) (f : Dk.Nm) (x : Nat) : Option Nat × Dk.St :=
  if (d.create f x).1 ≠ none then d.create f x
  else if ((d.create f x).2.sync f).1 ≠ none then (d.create f x).2.sync f
  else ((d.create f x).2.sync f).2.syncDir
/-- What Create leaves, and answers. -/
def CrPost (w0 : World) (S : Nat → Prop) (n Bd : Nat) (p : Nat → Addr) (s0 : Sg.St) (w : World) (r : Option Nat × Dk.St) (e : Ending) (w' : World) : Prop :=
  match r.1 with
  | none => ∃ X S' T', e = .returned (.tuple #[.pointer (some ⟨X, 0, none⟩), .nilIface]) ∧ SgW w0 S' T' (n + 3) Bd r.2 X s0 w' ∧ Chg S w w' ∧ (∀ k, (S' k ∨ T' k) → Up S w w' k)
  | some j => ∃ S', e = .returned (.tuple #[.pointer none, errV (p j)]) ∧ SessS S' w0 (n + 3) Bd r.2 w' ∧ Chg S w w' ∧ (∀ k, S' k → Up S w w' k)
set_option maxRecDepth 100000 in
set_option maxHeartbeats 1000000 in
theorem sgCreate_any (w0 w : World) (S : Nat → Prop) (n Bd : Nat) (d : Dk.St) (base every : Int) (p : Nat → Addr) (h : SessS S w0 n Bd d w) (hs : SentsG w0 p) (hn : n ≤ 990) (h0 : 0 ≤ base ∧ base ≤ 1099511627776) (h1 : 1 ≤ every ∧ every ≤ 1048576) (ht : PowTab w0) :
    Calls Tryz.prog 126 #[.pointer (some ⟨Bd, 0, none⟩), .int .i64 base, .int .i64 every] w fun e w' => ∃ x, w.heap.size ≤ x ∧ CrPost w0 S n Bd p (Sg.begin (Nm.seg base) base every) w (sgCrt d (Nm.seg base) x) e w' := by
  have HB := hide (sgBegin_any Bd base every w h0 h1 (ht.below h.below))
  have HH := hide h
  have HSD := hide hs.d
  have HLN : Hid ((Nm.seg base).length ≤ 1000) := hide (by rw [seg_name h0]; omega)
  have HOK := hide (Sg.begin_ok (Nm.seg base) h0 h1)
  have HFL : Hid ((Sg.begin (Nm.seg base) base every).file = Nm.seg base) := hide rfl
  clear h hs ht
  generalize Sg.begin (Nm.seg base) base every = s0 at *
  generalize Nm.seg base = f at *
  have HC := hide (fun (W : World) (hw : Below w.heap.size w W) => (HH.out.grow hw).create p HSD.out (by omega) f HLN.out W.heap.size rfl)
  have HY := hide (fun (W : World) (S' : Nat → Prop) (dx : Dk.St) (hW : SessS S' w0 (n + 1) Bd dx W) => hW.sync p HSD.out (by omega) f HLN.out)
  have HD := hide (fun (W : World) (S' : Nat → Prop) (dx : Dk.St) (hW : SessS S' w0 (n + 2) Bd dx W) => hW.syncDir p HSD.out (by omega))
  generalize hfe : encStr f = fv at *
  go_enter Tryz.func126, Tryz.ntmps126
  go_upto_region 4 with (first
    | (go_at_call 157; refine HB.out.mono ?_; rintro e w1 ⟨X, rfl, hsg, hb1⟩; have HB1 := hide hb1; obtain ⟨v1, hl1⟩ := hsg; have HL1 := hide hl1; have c1 : w1.cell? ⟨X, 1, none⟩ = some fv := (by rw [← hfe, ← HFL.out]; exact box_cell hl1.box 1); clear hb1 hl1)
    | fail)
  have z1 := HB1.out.size
  have n1 : ∀ k, (w.heap.size ≤ k ∧ k < w1.heap.size) → ¬ S k := fun k hk hS => by have := (HH.out.lo k hS).2; omega
  have hc1 := HC.out w1 HB1.out
  obtain ⟨x, hx⟩ : ∃ x, x = w1.heap.size := ⟨_, rfl⟩
  rw [← hx] at hc1
  obtain ⟨r1, d1, e1⟩ : ∃ r1 d1, d.create f x = (r1, d1) := ⟨_, _, rfl⟩
  rw [e1] at hc1
  simp only at hc1
  have HC1 := hide hc1
  have HXX := hide hx
  have HE1 := hide e1
  clear hc1 HC hx e1
  cases r1 with
  | some j =>
    have hr : sgCrt d f x = (some j, d1) := by unfold sgCrt; rw [HE1.out, if_pos (by simp)]
    have hnn := neq_nilD (p j)
    unfold errR errV at *
    go_wp2_with (first
      | (go_at_call 165; refine HC1.out.mono ?_; rintro e w2 ⟨rfl, hd2, hc2⟩; have HD2 := hide hd2; have HC2 := hide hc2; clear hd2 hc2)
      | fail)
    go_ret2
    refine ⟨x, by rw [HXX.out]; exact z1, ?_⟩
    rw [hr]
    have z2 := HC2.out.size
    refine ⟨_, rfl, HD2.out.mono (by omega), (Chg.of_below HB1.out).then HC2.out, fun k hk => ?_⟩
    rcases hk with hk | hk
    · exact .inl hk
    · exact .inr (by omega)
  | none =>
    unfold errR at HC1
    go_upto_region 7 with (first
      | (go_at_call 165; refine HC1.out.mono ?_; rintro e w2 ⟨rfl, hd2, hc2⟩; have HD2 := hide hd2; have HC2 := hide hc2; have HL2 := hide (HL1.out.same fun k hk hl => hc2.block k hl (n1 k hk)); have c2 : w2.cell? ⟨X, 1, none⟩ = some fv := (by rw [← hfe, ← HFL.out]; exact box_cell HL2.out.box 1); clear hd2 hc2)
      | fail)
    have z2 := HC2.out.size
    have n2 : ∀ k, (w.heap.size ≤ k ∧ k < w1.heap.size) → ¬ Up S w1 w2 k := fun k hk hu => by rcases hu with hu | hu; exact n1 k hk hu; omega
    have hy1 := HY.out w2 _ _ HD2.out
    obtain ⟨r2, d2, e2⟩ : ∃ r2 d2, d1.sync f = (r2, d2) := ⟨_, _, rfl⟩
    rw [e2] at hy1
    simp only at hy1
    have HY1 := hide hy1
    have HE2 := hide e2
    clear hy1 HY e2
    cases r2 with
    | some j =>
      have hr : sgCrt d f x = (some j, d2) := by unfold sgCrt; rw [HE1.out, if_neg (by simp), HE2.out, if_pos (by simp)]
      have hnn := neq_nilD (p j)
      unfold errR errV at *
      go_wp2_with (first
        | (go_at_call 110; refine HY1.out.mono ?_; rintro e w3 ⟨rfl, hd3, hc3⟩; have HD3 := hide hd3; have HC3 := hide hc3; clear hd3 hc3)
        | fail)
      go_ret2
      refine ⟨x, by rw [HXX.out]; exact z1, ?_⟩
      rw [hr]
      have z3 := HC3.out.size
      refine ⟨_, rfl, HD3.out.mono (by omega), (Chg.of_below HB1.out).then (HC2.out.up HC3.out), fun k hk => ?_⟩
      rcases hk with (hk | hk) | hk
      · exact .inl hk
      · exact .inr (by omega)
      · exact .inr (by omega)
    | none =>
      unfold errR at HY1
      go_upto_region 10 with (first
        | (go_at_call 110; refine HY1.out.mono ?_; rintro e w3 ⟨rfl, hd3, hc3⟩; have HD3 := hide hd3; have HC3 := hide hc3; clear hd3 hc3)
        | fail)
      have z3 := HC3.out.size
      have n3 : ∀ k, (w.heap.size ≤ k ∧ k < w1.heap.size) → ¬ Up (Up S w1 w2) w2 w3 k := fun k hk hu => by rcases hu with hu | hu; exact n2 k hk hu; omega
      have hq1 := HD.out w3 _ _ HD3.out
      obtain ⟨r3, d3, e3⟩ : ∃ r3 d3, d2.syncDir = (r3, d3) := ⟨_, _, rfl⟩
      rw [e3] at hq1
      simp only at hq1
      have HQ1 := hide hq1
      have HE3 := hide e3
      clear hq1 HD e3
      have hr : sgCrt d f x = (r3, d3) := by unfold sgCrt; rw [HE1.out, if_neg (by simp), HE2.out, if_neg (by simp)]; exact HE3.out
      have HRR := hide hr
      clear hr
      cases r3 with
      | some j =>
        have hnn := neq_nilD (p j)
        unfold errR errV at *
        go_wp2_with (first
          | (go_at_call 125; refine HQ1.out.mono ?_; rintro e w4 ⟨rfl, hd4, hc4⟩; have HD4 := hide hd4; have HC4 := hide hc4; clear hd4 hc4)
          | fail)
        go_ret2
        refine ⟨x, by rw [HXX.out]; exact z1, ?_⟩
        rw [HRR.out]
        have z4 := HC4.out.size
        refine ⟨_, rfl, HD4.out, (Chg.of_below HB1.out).then ((HC2.out.up HC3.out).trans HC4.out fun i hi ht => by
          rcases ht with (ht | ht) | ht
          · exact ht
          · omega
          · omega), fun k hk => ?_⟩
        rcases hk with ((hk | hk) | hk) | hk
        · exact .inl hk
        · exact .inr (by omega)
        · exact .inr (by omega)
        · exact .inr (by omega)
      | none =>
        unfold errR at HQ1
        go_wp2_with (first
          | (go_at_call 125; refine HQ1.out.mono ?_; rintro e w4 ⟨rfl, hd4, hc4⟩; have HD4 := hide hd4; have HC4 := hide hc4; clear hd4 hc4)
          | fail)
        go_ret2
        refine ⟨x, by rw [HXX.out]; exact z1, ?_⟩
        rw [HRR.out]
        have z4 := HC4.out.size
        have n4 : ∀ k, (w.heap.size ≤ k ∧ k < w1.heap.size) → ¬ Up (Up (Up S w1 w2) w2 w3) w3 w4 k := fun k hk hu => by rcases hu with hu | hu; exact n3 k hk hu; omega
        have hsb := HH.out.below.size
        refine ⟨X, _, _, rfl, ⟨HD4.out, ⟨v1, (HL2.out.same fun k hk hl => HC3.out.block k hl (n2 k hk)).same fun k hk hl => HC4.out.block k hl (n3 k hk)⟩, n4, fun k hk => by omega, HOK.out, by rw [HFL.out]; exact HLN.out⟩, ?_, fun k hk => ?_⟩
        · exact (Chg.of_below HB1.out).then ((HC2.out.up HC3.out).trans HC4.out fun i hi ht => by
            rcases ht with (ht | ht) | ht
            · exact ht
            · omega
            · omega)
        · rcases hk with ((((hk | hk) | hk) | hk) | hk)
          · exact .inl hk
          · exact .inr (by omega)
          · exact .inr (by omega)
          · exact .inr (by omega)
          · exact .inr (by omega)
end Go.Proofs.YtcmgppacipdnaaaGreatDoor

namespace Go.Proofs.YtcmgppacipdnaaaGreatDoor
namespace Ht

abbrev Gr := Int × List Rc.Bat
def size (bs : List Rc.Bat) : Nat := (bs.flatMap Rc.bytes).length
theorem size_snoc (bs : List Rc.Bat) (b : Rc.Bat) : size (bs ++ [b]) = size bs + (Rc.bytes b).length := by simp [size]
/-- Has the last segment no room for it? -/
def big (sz : Int) (bs : List Rc.Bat) (b : Rc.Bat) : Bool := decide (0 < size bs) && decide (sz < (size bs : Int) + (Rc.bytes b).length)
/-- One batch more. -/
def add (sz : Int) (gs : List Gr) (b : Rc.Bat) : List Gr :=
  if big sz (gs.getLastD (0, [])).2 b = true then gs ++ [(b.base, [b])] else gs.dropLast ++ [((gs.getLastD (0, [])).1, (gs.getLastD (0, [])).2 ++ [b])]
theorem add_big {sz : Int} {g0 : List Gr} {o : Int} {bs : List Rc.Bat} {b : Rc.Bat} (h : big sz bs b = true) : add sz (g0 ++ [(o, bs)]) b = g0 ++ [(o, bs)] ++ [(b.base, [b])] := by
  simp [add, h]
theorem add_small {sz : Int} {g0 : List Gr} {o : Int} {bs : List Rc.Bat} {b : Rc.Bat} (h : big sz bs b = false) : add sz (g0 ++ [(o, bs)]) b = g0 ++ [(o, bs ++ [b])] := by
  simp [add, h]
/-- Where each batch begins, and its epoch. -/
def pr (b : Rc.Bat) : Int × Int := (b.base, b.epoch)
def bats (gs : List Gr) : List (Int × Int) := gs.flatMap fun g => g.2.map pr
def all (gs : List Gr) : List Rc.Bat := gs.flatMap fun g => g.2
theorem bats_all (gs : List Gr) : bats gs = (all gs).map pr := by
  unfold bats all
  induction gs with
  | nil => rfl
  | cons g gs ih => simp only [List.flatMap_cons, List.map_append, ih]
theorem all_add {sz : Int} {gs : List Gr} {b : Rc.Bat} (h : gs ≠ []) : all (add sz gs b) = all gs ++ [b] := by
  obtain ⟨g0, ⟨o, bs⟩, rfl⟩ : ∃ g0 g, gs = g0 ++ [g] := ⟨gs.dropLast, gs.getLast h, (List.dropLast_concat_getLast h).symm⟩
  cases hb : big sz bs b
  · rw [add_small hb]; simp [all]
  · rw [add_big hb]; simp [all]
theorem add_ne {sz : Int} {gs : List Gr} {b : Rc.Bat} : add sz gs b ≠ [] := by unfold add; split <;> simp
def used (gs : List Gr) : Int := (size (all gs) : Int)

/-- A disk that has these segments and nothing else. -/
structure G (d : Dk.St) (room used ev : Int) (names : Dk.Dir) (qs : List HQ) : Prop where
  has : Dk.Has d room used names
  mz : ∀ q ∈ qs, Mz d q.s room used names q.base ev q.x q.bs
  nm : ∀ k x, names k = some x → ∃ q ∈ qs, k = Nm.seg q.base
  inj : qs.Pairwise fun a b => a.x ≠ b.x
  rise : qs.Pairwise fun a b => a.base < b.base
  bd : ∀ q ∈ qs, 0 ≤ q.base ∧ q.base ≤ 1099511627776
section
variable {d : Dk.St} {room used ev : Int} {names : Dk.Dir} {qs0 qs : List HQ} {q : HQ}
theorem G.new (room ev : Int) : G (Dk.St.new room) room 0 ev (fun _ => none) [] :=
  ⟨Dk.Has.new room, fun q hq => (by cases hq), fun k x h => (by cases h), List.Pairwise.nil, List.Pairwise.nil, fun q hq => (by cases hq)⟩
theorem G.last (h : G d room used ev names (qs0 ++ [q])) : Mz d q.s room used names q.base ev q.x q.bs := h.mz q (by simp)
theorem G.others (h : G d room used ev names (qs0 ++ [q])) (a : HQ) (ha : a ∈ qs0) : a.x ≠ q.x := (List.pairwise_append.1 h.inj).2.2 a ha q (by simp)
theorem G.put (h : G d room used ev names (qs0 ++ [q])) {d' : Dk.St} {used' : Int} {s' : Sg.St} {bs' : List Rc.Bat} (hm : Mz d' s' room used' names q.base ev q.x bs') (hy : ∀ y, y ≠ q.x → (d'.files y).bytes = (d.files y).bytes) (T' : Nat → Prop) :
    G d' room used' ev names (qs0 ++ [{ q with T := T', s := s', bs := bs' }]) := by
  have h1 := List.pairwise_append.1 h.inj
  have h2 := List.pairwise_append.1 h.rise
  refine ⟨hm.has, fun a ha => ?_, fun k x hk => ?_, List.pairwise_append.2 ⟨h1.1, by simp, fun a ha b hb => ?_⟩, List.pairwise_append.2 ⟨h2.1, by simp, fun a ha b hb => ?_⟩, fun a ha => ?_⟩
  · rcases List.mem_append.1 ha with ha | ha
    · exact (h.mz a (List.mem_append_left _ ha)).beside hm.has (h.mz a (List.mem_append_left _ ha)).nm (hy _ (h.others a ha))
    · rw [List.mem_singleton.1 ha]; exact hm
  · obtain ⟨a, ha, e⟩ := h.nm k x hk
    rcases List.mem_append.1 ha with ha | ha
    · exact ⟨a, List.mem_append_left _ ha, e⟩
    · rw [List.mem_singleton.1 ha] at e; exact ⟨_, List.mem_append_right _ (List.mem_singleton.2 rfl), e⟩
  · rw [List.mem_singleton.1 hb]; exact h1.2.2 a ha q (by simp)
  · rw [List.mem_singleton.1 hb]; exact h2.2.2 a ha q (by simp)
  · rcases List.mem_append.1 ha with ha | ha
    · exact h.bd a (List.mem_append_left _ ha)
    · rw [List.mem_singleton.1 ha]; exact h.bd q (by simp)
/-- A batch in the last segment. -/
theorem G.add (h : G d room used ev names (qs0 ++ [q])) (b : Rc.Bat) (hg : Rc.Good b) (hf : Sg.follows q.s.edges b = true) (hr : ((Rc.bytes b).length : Int) ≤ room - used) :
    ∃ d', sgApp d q.s b = (none, d', q.s.add b (Rc.bytes b).length) ∧ ∀ T', G d' room (used + (Rc.bytes b).length) ev names (qs0 ++ [{ q with T := T', s := q.s.add b (Rc.bytes b).length, bs := q.bs ++ [b] }]) := by
  obtain ⟨d', e, hm, hy⟩ := h.last.add b hg hf hr
  exact ⟨d', e, fun T' => h.put hm (fun y hy2 => by rw [hy y hy2]) T'⟩
end
end Ht
theorem Mz.syncTo {d : Dk.St} {s : Sg.St} {room used base every : Int} {names : Dk.Dir} {x : Nat} {bs : List Rc.Bat} (h : Mz d s room used names base every x bs) (z : Int) : Mz d { s with synced := z } room used names base every x bs := by
  obtain ⟨y, h⟩ := h
  refine ⟨z, h.has, rfl, rfl, h.nm, h.bytes, ?_, h.chain.sync z, h.good⟩
  have e := h.seg
  rw [Sg.adds_sync] at e
  rw [Sg.adds_sync, e]
namespace Ht
section
variable {d : Dk.St} {room used ev : Int} {names : Dk.Dir} {qs0 qs : List HQ} {q : HQ}
/-- The last segment synced. -/
theorem G.sync (h : G d room used ev names (qs0 ++ [q])) :
    ∃ d', sgSync d q.s = (none, d', { q.s with synced := (Sg.last q.s.edges).pos }) ∧ ∀ T', G d' room used ev names (qs0 ++ [{ q with T := T', s := { q.s with synced := (Sg.last q.s.edges).pos }, bs := q.bs }]) := by
  obtain ⟨d', e, hh, hb, hy⟩ := h.has.sync (Nm.seg q.base) q.x h.last.nm
  refine ⟨d', ?_, fun T' => h.put ((h.last.beside hh h.last.nm hb).syncTo _) (fun y hy2 => by rw [hy y hy2]) T'⟩
  unfold sgSync
  rw [h.last.file, e]
  simp [h.last.file]
/-- A segment more. -/
theorem G.create (h : G d room used ev names qs) (base : Int) (hb : 0 ≤ base ∧ base ≤ 1099511627776) (hl : ∀ q ∈ qs, q.base < base) :
    ∃ d3 : Nat → Dk.St, (∀ x, sgCrt d (Nm.seg base) x = (none, d3 x)) ∧ ∀ x, (∀ q ∈ qs, q.x ≠ x) → ∀ X T, G (d3 x) room used ev (Dk.upd names (Nm.seg base) (some x)) (qs ++ [⟨X, T, Sg.begin (Nm.seg base) base ev, base, x, []⟩]) := by
  have hn : names (Nm.seg base) = none := by
    cases hx : names (Nm.seg base) with
    | none => rfl
    | some x =>
      obtain ⟨q, hq, e⟩ := h.nm _ x hx
      have := seg_inj hb (h.bd q hq) e
      have := hl q hq
      omega
  obtain ⟨d1, d2, d3, e1, e2, e3, h3⟩ := h.has.begin_ (Nm.seg base) (seg_valid hb) hn
  refine ⟨d3, fun x => ?_, fun x hx X T => ?_⟩
  · unfold sgCrt
    simp [e1, e2, e3]
  · obtain ⟨hh, hf, hy⟩ := h3 x
    have hne : ∀ q ∈ qs, Nm.seg q.base ≠ Nm.seg base := fun q hq e => by
      have := seg_inj (h.bd q hq) hb e
      have := hl q hq
      omega
    refine ⟨hh, fun a ha => ?_, fun k y hk => ?_, List.pairwise_append.2 ⟨h.inj, by simp, fun a ha b hb2 => ?_⟩, List.pairwise_append.2 ⟨h.rise, by simp, fun a ha b hb2 => ?_⟩, fun a ha => ?_⟩
    · rcases List.mem_append.1 ha with ha | ha
      · have hm := h.mz a ha
        exact hm.beside hh (by rw [Dk.upd_other _ _ _ _ (hne a ha)]; exact hm.nm) (by rw [hy _ (hx a ha)])
      · rw [List.mem_singleton.1 ha]
        exact ⟨0, hh, rfl, rfl, by simp [Sg.begin, Dk.upd_same], by simp [hf], rfl, trivial, fun b hb2 => by cases hb2⟩
    · by_cases e : k = Nm.seg base
      · exact ⟨_, List.mem_append_right _ (List.mem_singleton.2 rfl), e⟩
      · rw [Dk.upd_other _ _ _ _ e] at hk
        obtain ⟨a, ha, e⟩ := h.nm k y hk
        exact ⟨a, List.mem_append_left _ ha, e⟩
    · rw [List.mem_singleton.1 hb2]; exact hx a ha
    · rw [List.mem_singleton.1 hb2]; exact hl a ha
    · rcases List.mem_append.1 ha with ha | ha
      · exact h.bd a ha
      · rw [List.mem_singleton.1 ha]; exact hb
end
end Ht
end Go.Proofs.YtcmgppacipdnaaaGreatDoor

namespace Go.Proofs.YtcmgppacipdnaaaGreatDoor
open Go Go.RowKit

def OpGuardU (P : Program) (ev : Operand → Value) (o : Oper) (dj : Nat → Nat) (w1 : World) (Post : Value → World → Prop) : Prop :=
  match o.guard with
  | none => OpRuns P ev o w1 Post
  | some (j, b) => (∃ c, ev (.tmp (dj j)) = .bool c ∧ (c = b → OpRuns P ev o w1 Post) ∧ (c ≠ b → Post undef w1)) ∨ (ev (.tmp (dj j)) = undef ∧ Post undef w1)

end Go.Proofs.YtcmgppacipdnaaaGreatDoor
