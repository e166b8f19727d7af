/-
  What a row's reading says of an argument of things done to a lineage (three numbers each).
  EpochPlays, walked.
  EpochPlays: P9.1, P9.2, P9.3, for every argument: New as the document's, then any calls, one behind the other, on a lineage and on the document's; at each turn the two are one, a clone of before is as it was, and all that is asked is answered alike. Conditions: none but those of the given row.
-/
import Derived.Test.YtplpakdbahlgaaaDoorE3
import Derived.Deep.Slices
import Derived.Deep.Fields
import Derived.ChangeSame
import Derived.Test.YtplpakdbahlgaaaDoorE14
import Derived.Test.YtplpakdbahlgaaaDoorE7
namespace Go.Proofs.YtplpakdbahlgaaaDoor
open Go.RowKit Go.ChangeShapes Go.WideShapes Go.ChangeAt

structure Do9V where
  kind : Int
  ep : Int
  off : Int
instance : Inhabited Do9V := ⟨⟨0, 0, 0⟩⟩
structure Do9Ok (x : Do9V) : Prop where
  ep : i64ok x.ep
  off : i64ok x.off
/-- Where such a thing lies. -/
structure Do9At (W : World) (b off : Nat) (x : Do9V) : Prop where
  c0 : W.cell? ⟨b, off, none⟩ = some (.int .i64 x.kind)
  c1 : W.cell? ⟨b, off + 1, none⟩ = some (.int .i64 x.ep)
  c2 : W.cell? ⟨b, off + 2, none⟩ = some (.int .i64 x.off)
def Does9 (W : World) (a : Option Addr) (xs : List Do9V) : Prop :=
  xs = [] ∨ ∃ b off, a = some ⟨b, off, none⟩ ∧ b < W.heap.size ∧ ∀ k, k < xs.length → Do9At W b (off + k * 3) (xs.getD k default)
theorem Does9.below {W W' : World} {a : Option Addr} {xs : List Do9V} (h : Does9 W a xs) (hb : Below W.heap.size W W') : Does9 W' a xs := by
  rcases h with h | ⟨b, off, e, hl, h⟩
  · exact .inl h
  · exact .inr ⟨b, off, e, Nat.lt_of_lt_of_le hl hb.size, fun k hk => ⟨(hb.cell (p := ⟨b, _, none⟩) hl).trans (h k hk).c0, (hb.cell (p := ⟨b, _, none⟩) hl).trans (h k hk).c1, (hb.cell (p := ⟨b, _, none⟩) hl).trans (h k hk).c2⟩⟩

theorem do9_cells : Tryd.prog.cellsOf 36 = 3 := by kernel_rfl
theorem do9_fields : ∃ f0 f1 f2 : Field, Tryd.prog.underlying 36 = some (.struct #[f0, f1, f2]) ∧ (f0.type = 3 ∧ f0.offset = 0) ∧ (f1.type = 3 ∧ f1.offset = 1) ∧ (f2.type = 2 ∧ f2.offset = 2) :=
  ⟨_, _, _, Tryd.underlying36, ⟨rfl, rfl⟩, ⟨rfl, rfl⟩, ⟨rfl, rfl⟩⟩

theorem does9_of {H : Type} {enc : TypeId × Value → H} {W : World} {base : Nat} {held : Bool} {a : Option Addr} {len cap : Nat} {d : DataW H} {p : List MemPlace}
    (h : DataW.Trod enc Tryd.prog W base (fun _ => true) held 23 (.slice a len cap) d p) : ∃ xs : List Do9V, xs.length = len ∧ len ≤ cap ∧ cap ≤ 9223372036854775807 ∧ Does9 W a xs ∧ ∀ k, k < xs.length → Do9Ok (xs.getD k default) := by
  obtain ⟨fuel, hf⟩ := h
  rcases Go.Deep.open_slice Tryd.underlying23 hf with ⟨hcs, _⟩ | ⟨x, l, c, m, n, D, Pl, hcs, _, hl, hm, hmm, _, hi⟩
  · simp [Value.cells] at hcs
    obtain ⟨rfl, rfl, rfl⟩ := hcs
    exact ⟨[], rfl, Nat.le_refl _, by omega, .inl rfl, fun k hk => by simp at hk⟩
  · simp [Value.cells] at hcs
    obtain ⟨rfl, rfl, rfl⟩ := hcs
    have hmc : m = cap := by simpa using hmm
    have one : ∀ i, i < len → ∃ v : Do9V, Do9Ok v ∧ W.cell? (x.add (i * 3)) = some (.int .i64 v.kind) ∧ W.cell? (x.add (i * 3 + 1)) = some (.int .i64 v.ep) ∧ W.cell? (x.add (i * 3 + 2)) = some (.int .i64 v.off) := by
      intro i hil
      obtain ⟨cs', hc, ht'⟩ := hi i (by omega)
      rw [do9_cells] at hc
      obtain ⟨f0, f1, f2, hu, ⟨a0, b0⟩, ⟨a1, b1⟩, ⟨a2, b2⟩⟩ := do9_fields
      obtain ⟨ys, n', _, _, _, hyl, hfd⟩ := DataW.trod_struct hu ht'
      obtain ⟨_, hcl, hat⟩ := World.cells?_some hc
      have hs : ∀ j, j < 3 → (ys[j]?).isSome = true := fun j hj => by
        have : j < ys.length := by rw [hyl]; exact hj
        simp [this]
      have g0 := hfd 0 f0 rfl
      have g1 := hfd 1 f1 rfl
      have g2 := hfd 2 f2 rfl
      rw [a0, b0] at g0
      rw [a1, b1] at g1
      rw [a2, b2] at g2
      obtain ⟨z0, e0, _⟩ := field_num1 0 Tryd.underlying3 cells1_int (hs 0 (by omega)) g0
      obtain ⟨z1, e1, w1⟩ := field_num1 1 Tryd.underlying3 cells1_int (hs 1 (by omega)) g1
      obtain ⟨z2, e2, w2⟩ := field_num1 2 Tryd.underlying2 cells1_i64 (hs 2 (by omega)) g2
      have h0 := hat 0 (by omega)
      have h1 := hat 1 (by omega)
      have h2 := hat 2 (by omega)
      rw [Go.Deep.add_add] at h0 h1 h2
      exact ⟨⟨z0, z1, z2⟩, ⟨bounds_i64 w1, bounds_i64 w2⟩, h0.trans e0, h1.trans e1, h2.trans e2⟩
    obtain ⟨V, hV⟩ := Go.Deep.choose_lt one
    have hg : ∀ k, k < len → ((List.range len).map V).getD k default = V k := fun k hk => by simp [List.getD, hk]
    refine ⟨(List.range len).map V, by simp, hl, by simpa [maxLen] using hm, ?_, fun k hk => ?_⟩
    · by_cases h0 : len = 0
      · subst h0; exact .inl (by simp)
      · obtain ⟨b, off, spot⟩ := x
        have hc := (hV 0 (by omega)).2.1
        have hspot : spot = none := by simpa [Addr.add] using World.cell?_spot hc
        subst hspot
        refine .inr ⟨b, off, rfl, ?_, fun k hk => ?_⟩
        · rcases Nat.lt_or_ge b W.heap.size with h | h
          · exact h
          · exfalso
            simp [World.cell?, Addr.add, Array.getElem?_eq_none h] at hc
        · have hk' : k < len := by simpa using hk
          obtain ⟨_, r0, r1, r2⟩ := hV k hk'
          rw [Addr.add_lit] at r0 r1 r2
          rw [hg k hk']
          exact ⟨r0, r1, r2⟩
    · have hk' : k < len := by simpa using hk
      rw [hg k hk']
      exact (hV k hk').1
end Go.Proofs.YtplpakdbahlgaaaDoor

namespace Go.Proofs.YtplpakdbahlgaaaDoor
open Go.RowKit

set_option maxRecDepth 100000 in
set_option maxHeartbeats 8000000 in
theorem plays9_any (w : World) (p : Nat → Addr) (hs : Sents w p) (hs4 : Sents4B w p) (A0 Ad Aq : Option Addr) (c0 cd cq n0 nd nq : Nat) (l0 q : List Ep.Pr) (ds : List Do9V) (o z e : Int) (hn0 : l0.length = n0) (hnd : ds.length = nd) (hnq : q.length = nq) (h0 : ArgP w A0 c0 l0) (hd : Does9 w Ad ds) (hdl : nd ≤ cd) (hq : ArgP w Aq cq q) :
    Calls Tryd.prog 3 #[.slice A0 n0 c0, .slice Ad nd cd, .int .i64 o, .int .i64 z, .int .i64 e, .slice Aq nq cq] w fun r w' => r = .returned (.bool true) ∧ Below w.heap.size w w' := by
  have hs3 : Sents3 w p := hs.mono fun j hj => by omega
  have HF := hide (first9_any w p hs3)
  have hle0 := hn0 ▸ h0.at_.le
  have hleq := hnq ▸ hq.at_.le
  by_cases q0 : 300 < n0
  · have d0 : decide ((300 : Int) < n0) = true := decide_eq_true (by omega)
    clear h0 hd hq hs hs3 hs4
    go_enter Tryd.func3, Tryd.ntmps3
    go_wp2_with (first
      | (go_at_call 10; refine HF.out.mono ?_; rintro _ w1 ⟨rfl, hb⟩; have B1 := hide hb; clear hb)
      | fail)
    go_ret
    exact ⟨rfl, B1.out⟩
  have d0 : decide ((300 : Int) < n0) = false := decide_eq_false (by omega)
  by_cases q1 : 40 < nd
  · have d1 : decide ((40 : Int) < nd) = true := decide_eq_true (by omega)
    clear h0 hd hq hs hs3 hs4
    go_enter Tryd.func3, Tryd.ntmps3
    go_wp2_with (first
      | (go_at_call 10; refine HF.out.mono ?_; rintro _ w1 ⟨rfl, hb⟩; have B1 := hide hb; clear hb)
      | fail)
    go_ret
    exact ⟨rfl, B1.out⟩
  have d1 : decide ((40 : Int) < nd) = false := decide_eq_false (by omega)
  by_cases q2 : 30 < nq
  · have d2 : decide ((30 : Int) < nq) = true := decide_eq_true (by omega)
    clear h0 hd hq hs hs3 hs4
    go_enter Tryd.func3, Tryd.ntmps3
    go_wp2_with (first
      | (go_at_call 10; refine HF.out.mono ?_; rintro _ w1 ⟨rfl, hb⟩; have B1 := hide hb; clear hb)
      | fail)
    go_ret
    exact ⟨rfl, B1.out⟩
  have d2 : decide ((30 : Int) < nq) = false := decide_eq_false (by omega)
  have HV := hide (fun V (hb : Below w.heap.size w V) => refValid_any A0 c0 l0 V (h0.at_.below hb))
  rw [hn0] at HV
  have HS := hide hs
  have HS4 := hide hs4
  cases hbad : Ep.bad l0 with
  | some j =>
    have hj : j < 19 := by
      have h := hbad
      unfold Ep.bad at h
      split at h
      · simp at h; omega
      split at h
      · simp at h; omega
      split at h
      · simp at h; omega
      · simp at h
    have HNW := hide (fun V (hb : Below w.heap.size w V) => epNew_bad A0 c0 n0 j l0 V p hn0 (hs3.below hb) (h0.at_.below hb) h0.nil hbad)
    have HIS := hide (fun V (hb : Below w.heap.size w V) => is_errR V p (hs.below hb) (some j) (fun j' e => by injection e with e; omega))
    rw [hbad] at HV
    simp only [codeR, errR] at HV HIS
    unfold errV at HNW HIS
    have hj0 : (((101 : Int) + (j : Nat)) != 0) = true := by simp; omega
    clear h0 hd hq hs hs3 hs4 hbad
    go_enter Tryd.func3, Tryd.ntmps3
    go_wp2_with (first
      | (go_at_call 10; refine HF.out.mono ?_; rintro _ w1 ⟨rfl, hb⟩; have B1 := hide hb; clear hb)
      | (go_at_call 11; refine (HNW.out _ B1.out).mono ?_; rintro _ w2 ⟨rfl, hb⟩; have B2 := hide (B1.out.trans (hb.mono B1.out.size)); clear hb)
      | (go_at_call 12; refine (HV.out _ B2.out).mono ?_; rintro _ w3 ⟨rfl, hb⟩; have B3 := hide (B2.out.trans (hb.mono B2.out.size)); clear hb)
      | (go_at_call 13; refine (HIS.out _ B3.out).mono ?_; rintro _ w4 ⟨rfl, hb⟩; have B4 := hide (B3.out.trans (hb.mono B3.out.size)); clear hb)
      | fail)
    go_ret
    exact ⟨rfl, B4.out⟩
  | none =>
    have hok0 := Ep.bad_none.1 hbad
    rw [hbad] at HV
    simp only [codeR] at HV
    have HNW := hide (fun V (hb : Below w.heap.size w V) => epNew_ok A0 c0 n0 l0 V p hn0 (hs3.below hb) (h0.at_.below hb) h0.nil hok0)
    have HPR := hide (fun V (hb : Below w.heap.size w V) => refPairs_any A0 c0 n0 l0 V hn0 (by omega) (h0.at_.below hb))
    have HOK0 := hide hok0
    have HAQ := hide hq.at_
    have HS3 := hide hs3
    have HNQ := hide hnq
    have HDS : Hid (∀ V, Below w.heap.size w V → ∀ k, k < nd → ∃ b f, Ad = some ⟨b, f, none⟩ ∧ Do9At V b (f + k * 3) (ds.getD k default)) := hide fun V hb k hk => by
      rcases hd.below hb with h | ⟨b, f, e, -, h⟩
      · rw [h] at hnd; simp at hnd; omega
      · exact ⟨b, f, e, h k (by omega)⟩
    have hn3 : n0 ≤ 300 := by omega
    have hn4 : nd ≤ 40 := by omega
    clear h0 hd hq hs hs3 hs4 hbad hok0 hn0 hnd hnq q0 q1 q2
    go_enter Tryd.func3, Tryd.ntmps3
    go_wp2_with (first
      | (go_at_call 10; refine HF.out.mono ?_; rintro _ w1 ⟨rfl, hb⟩; have B1 := hide hb; clear hb)
      | (go_at_call 11; refine (HNW.out _ B1.out).mono ?_; rintro _ w2 ⟨X, rfl, hx, hb⟩; have I2 : Hid (Lns w [(X, l0)] [] w2) := hide ((Lns.nil B1.out).add hb hx HOK0.out); clear hb hx)
      | (go_at_call 12; refine (HV.out _ I2.out.bel).mono ?_; rintro _ w3 ⟨rfl, hb⟩; have I3 := hide (I2.out.below hb); clear hb)
      | (go_at_call 14; refine (HPR.out _ I3.out.bel).mono ?_; rintro _ w4 ⟨v4, rfl, ho, hb⟩; have hrow := I3.out.addRow hb ho; obtain ⟨A4, c4, rfl, -, h4⟩ := hrow; have I4 := hide h4; clear hb ho h4)
      | fail)
    clear HNW HPR HV HF I2 I3
    go_loopw [17, 18] (fun rv iv wr => ∃ (l : List Ep.Pr) (A : Option Addr) (c : Nat) (iz : Int), rv = .slice A l.length c ∧ iv = .int .i64 iz ∧ (iz = -1 ∨ ∃ i : Nat, iz = i ∧ i ≤ nd) ∧ Lns w [(X, l)] [(A, c, l)] wr) (fun _ iv _ => ((nd : Int) - intOf iv).toNat)
    case atStart => exact ⟨l0, A4, c4, -1, rfl, rfl, .inl rfl, I4.out⟩
    case round =>
      obtain ⟨l, A, c, iz, rfl, rfl, hiz, hI⟩ := hrel
      have I0 := hide hI
      have hlen : l.length ≤ 256 := (hI.ok 0 _ rfl).len
      have HOK := hide (hI.ok 0 _ rfl)
      have HW0 := hide hI.bel
      clear hI
      have HL0 := hide (show l.length ≤ 100000 by omega)
      by_cases hm : iz = -1
      · subst hm
        have f1 : decide ((-1 : Int) < nd) = true := decide_eq_true (by omega)
        have f2 : decide ((0 : Int) ≤ -1) = false := rfl
        obtain ⟨l', hl'⟩ : ∃ l', l' = l := ⟨_, rfl⟩
        have HL5 := HL0
        go_upto_region 18 with (first
          | (go_at_call 15; refine (I0.out.clone (i := 0) rfl).mono ?_; rintro _ w1 ⟨Y, rfl, h⟩; have I1 : Hid (Lns w [(X, l), (Y, l)] [(A, c, l)] w1) := hide h; clear h)
          | (go_at_call 16; have _t := I1; refine (I1.out.pairs (i := 1) (X := Y) (l := l) rfl).mono ?_; rintro _ w2 ⟨Aw, cw, rfl, -, h⟩; have I2 : Hid (Lns w [(X, l), (Y, l)] [(A, c, l), (Aw, cw, l)] w2) := hide h; clear h I1 I0)
          | fail)
        have I5 : Hid (Lns w [(X, l), (Y, l)] [(A, c, l), (Aw, cw, l), (A, c, l)] w2) := hide (I2.out.rows fun r hr => by simp at hr ⊢; rcases hr with h | h | h <;> simp [h])
        clear hl' I2
        go_wp2_with (first
          | (go_at_call 16; have _t := I5; refine (I5.out.pairs (i := 0) (X := X) (l := l) rfl).mono ?_; rintro _ w6 ⟨A6, c6, rfl, -, h⟩; have I6 := hide h; clear h I5)
          | (go_at_call 23; have _t := I6; refine (I6.out.same (j := 2) rfl (I6.out.row 3 rfl) rfl HL5.out).mono ?_; rintro _ w7 ⟨rfl, h⟩; have I7 := hide h; clear h I6)
          | (go_at_call 16; have _t := I7; refine (I7.out.pairs (i := 1) (X := Y) (l := l) rfl).mono ?_; rintro _ w8 ⟨A8, c8, rfl, -, h⟩; have I8 := hide h; clear h I7)
          | (go_at_call 23; have _t := I8; refine (I8.out.same (j := 1) rfl (I8.out.row 4 rfl) rfl HL0.out).mono ?_; rintro _ w9 ⟨rfl, h⟩; have I9 := hide h; clear h I8)
          | (go_at_call 24; have _t := I9; refine (I9.out.asks (i := 0) (j := 2) p HS3.out rfl rfl rfl HNQ.out HAQ.out o z e).mono ?_; rintro _ wa ⟨rfl, h⟩; have Ia := hide h; clear h I9)
          | fail)
        go_roundw
        case rel => exact ⟨l, A, c, 0, rfl, by go_num, .inr ⟨0, rfl, Nat.zero_le _⟩, (Ia.out.fewer (L := [(X, l)]) (x := (Y, l))).rows fun r hr => by simp at hr ⊢; simp [hr]⟩
        case measure => simp [intOf]
      obtain ⟨i, rfl, hi⟩ : ∃ i : Nat, iz = i ∧ i ≤ nd := by
        rcases hiz with h | h
        · exact absurd h hm
        · exact h
      have f2 : decide ((0 : Int) ≤ (i : Int)) = true := decide_eq_true (by omega)
      by_cases hin : i < nd
      · have f1 : decide ((i : Int) < nd) = true := decide_eq_true (by omega)
        go_upto_region 19 with (first
          | (go_at_call 15; refine (I0.out.clone (i := 0) rfl).mono ?_; rintro _ w1 ⟨Y, rfl, h⟩; have I1 : Hid (Lns w [(X, l), (Y, l)] [(A, c, l)] w1) := hide h; clear h)
          | (go_at_call 16; have _t := I1; refine (I1.out.pairs (i := 1) (X := Y) (l := l) rfl).mono ?_; rintro _ w2 ⟨Aw, cw, rfl, -, h⟩; have I2 : Hid (Lns w [(X, l), (Y, l)] [(A, c, l), (Aw, cw, l)] w2) := hide h; clear h I1 I0)
          | fail)
        obtain ⟨bd, fd, rfl, hy⟩ := HDS.out w2 I2.out.bel i hin
        generalize ds.getD i default = dv at *
        obtain ⟨kd, ed, od⟩ := dv
        have y0 := hy.c0
        have y1 := hy.c1
        have y2 := hy.c2
        simp only at y0 y1 y2
        obtain ⟨W3, hW3⟩ : ∃ W3, W3 = w2.alloc (.cells #[.int .i64 kd, .int .i64 ed, .int .i64 od] 36) := ⟨_, rfl⟩
        have I3 : Hid (Lns w [(X, l), (Y, l)] [(A, c, l), (Aw, cw, l), (some ⟨w2.heap.size, 1, none⟩, 1, [⟨ed, od⟩])] W3) := hide (by rw [hW3]; exact I2.out.box kd ed od _)
        have x0 : W3.cell? ⟨w2.heap.size, 0, none⟩ = some (.int .i64 kd) := by rw [hW3, World.cell?_alloc_mark]; rfl
        obtain ⟨x1, x2⟩ := I3.out.boxed (j := 2) rfl
        generalize hbx : w2.heap.size = bx at *
        go_upto_region 20 with fail
        rw [← hW3]
        clear hW3 hy y0 y1 y2 I2 hbx
        by_cases e1 : kd = 1
        · subst e1
          have f3 : ((1 : Int) == 1) = true := rfl
          obtain ⟨rl, hrl⟩ : ∃ rl, rl = Ep.begin l ed od := ⟨_, rfl⟩
          have HRB := hide (fun V (h : Lns w [(X, l), (Y, l)] [(A, c, l), (Aw, cw, l), (some ⟨bx, 1, none⟩, 1, [⟨ed, od⟩])] V) => h.refBegin (j := 0) rfl HOK.out rfl ed od)
          have HPB := hide (fun V R (h : Lns w [(X, l), (Y, l)] R V) => h.begin (i := 0) p HS4.out rfl ed od)
          have hlt9 := begin_lt l ed od
          have hok' := HOK.out.begin ed od
          rw [← hrl] at HRB HPB hlt9 hok'
          obtain ⟨r', l'⟩ := rl
          simp only at HRB HPB hlt9 hok'
          have HIS := hide (fun V (hb : Below w.heap.size w V) => is_errR V p (HS.out.below hb) r' hlt9)
          have HL5 : Hid (l'.length ≤ 100000) := hide (by have := hok'.len; omega)
          clear hrl hlt9 hok'
          go_wp2_with (first
            | (go_at_call 17; refine (HRB.out _ I3.out).mono ?_; rintro _ w4 ⟨A', c', rfl, h⟩; obtain ⟨x1', x2'⟩ := Lns.boxed (j := 2) h rfl; have I4 := hide h; clear h I3)
            | (go_at_call 18; refine (HPB.out _ _ I4.out).mono ?_; rintro _ w4b ⟨rfl, h⟩; have I4b : Hid (Lns w [(X, l'), (Y, l)] _ w4b) := hide h; clear h I4)
            | (go_at_call 13; refine (HIS.out _ I4b.out.bel).mono ?_; rintro _ w5 ⟨rfl, hb⟩; have I5 := hide (I4b.out.below hb); clear hb I4b)
            | (go_at_call 16; have _t := I5; refine (I5.out.pairs (i := 0) (X := X) (l := l') rfl).mono ?_; rintro _ w6 ⟨A6, c6, rfl, -, h⟩; have I6 := hide h; clear h I5)
            | (go_at_call 23; have _t := I6; refine (I6.out.same (j := 3) rfl (I6.out.row 4 rfl) rfl HL5.out).mono ?_; rintro _ w7 ⟨rfl, h⟩; have I7 := hide h; clear h I6)
            | (go_at_call 16; have _t := I7; refine (I7.out.pairs (i := 1) (X := Y) (l := l) rfl).mono ?_; rintro _ w8 ⟨A8, c8, rfl, -, h⟩; have I8 := hide h; clear h I7)
            | (go_at_call 23; have _t := I8; refine (I8.out.same (j := 1) rfl (I8.out.row 5 rfl) rfl HL0.out).mono ?_; rintro _ w9 ⟨rfl, h⟩; have I9 := hide h; clear h I8)
            | (go_at_call 24; have _t := I9; refine (I9.out.asks (i := 0) (j := 3) p HS3.out rfl rfl rfl HNQ.out HAQ.out o z e).mono ?_; rintro _ wa ⟨rfl, h⟩; have Ia := hide h; clear h I9)
            | fail)
          go_roundw
          case rel => exact ⟨l', A', c', (i : Int) + 1, rfl, by go_num, .inr ⟨i + 1, by omega, by omega⟩, (Ia.out.fewer (L := [(X, l')]) (x := (Y, l))).rows fun r hr => by simp at hr ⊢; simp [hr]⟩
          case measure => simp [intOf]; omega
        have f3 : (kd == 1) = false := by simp; exact e1
        clear e1
        by_cases e2 : kd = 2
        · subst e2
          have f4 : ((2 : Int) == 2) = true := rfl
          have f3' : ((2 : Int) == 1) = false := rfl
          have hok' := HOK.out.cutEnd od
          have HRB := hide (fun V R (h : Lns w [(X, Ep.cutEnd l od), (Y, l)] ((A, c, l) :: R) V) => h.refCutEnd (j := 0) rfl HOK.out rfl od)
          have HPB := hide (fun V R (h : Lns w [(X, l), (Y, l)] R V) => h.cutEnd (i := 0) rfl od)
          generalize Ep.cutEnd l od = l' at *
          have HL5 : Hid (l'.length ≤ 100000) := hide (by have := hok'.len; omega)
          clear hok'
          go_wp2_with (first
            | (go_at_call 19; refine (HPB.out _ _ I3.out).mono ?_; rintro _ w4 ⟨rfl, h⟩; have I4 : Hid (Lns w [(X, l'), (Y, l)] [(A, c, l), (Aw, cw, l), (some ⟨bx, 1, none⟩, 1, [⟨ed, od⟩])] w4) := hide h; obtain ⟨x1', x2'⟩ := I4.out.boxed (j := 2) rfl; clear h I3)
            | (go_at_call 20; refine (HRB.out _ _ I4.out).mono ?_; rintro _ w5 ⟨A', c', rfl, h⟩; have I5 : Hid (Lns w [(X, l'), (Y, l)] [(A, c, l), (Aw, cw, l), (some ⟨bx, 1, none⟩, 1, [⟨ed, od⟩]), (A', c', l')] w5) := hide h; clear h I4)
            | (go_at_call 16; have _t := I5; refine (I5.out.pairs (i := 0) (X := X) (l := l') rfl).mono ?_; rintro _ w6 ⟨A6, c6, rfl, -, h⟩; have I6 := hide h; clear h I5)
            | (go_at_call 23; have _t := I6; refine (I6.out.same (j := 3) rfl (I6.out.row 4 rfl) rfl HL5.out).mono ?_; rintro _ w7 ⟨rfl, h⟩; have I7 := hide h; clear h I6)
            | (go_at_call 16; have _t := I7; refine (I7.out.pairs (i := 1) (X := Y) (l := l) rfl).mono ?_; rintro _ w8 ⟨A8, c8, rfl, -, h⟩; have I8 := hide h; clear h I7)
            | (go_at_call 23; have _t := I8; refine (I8.out.same (j := 1) rfl (I8.out.row 5 rfl) rfl HL0.out).mono ?_; rintro _ w9 ⟨rfl, h⟩; have I9 := hide h; clear h I8)
            | (go_at_call 24; have _t := I9; refine (I9.out.asks (i := 0) (j := 3) p HS3.out rfl rfl rfl HNQ.out HAQ.out o z e).mono ?_; rintro _ wa ⟨rfl, h⟩; have Ia := hide h; clear h I9)
            | fail)
          go_roundw
          case rel => exact ⟨l', A', c', (i : Int) + 1, rfl, by go_num, .inr ⟨i + 1, by omega, by omega⟩, (Ia.out.fewer (L := [(X, l')]) (x := (Y, l))).rows fun r hr => by simp at hr ⊢; simp [hr]⟩
          case measure => simp [intOf]; omega
        have f4 : (kd == 2) = false := by simp; exact e2
        clear e2
        have hok' := HOK.out.cutStart od
        have HRB := hide (fun V R (h : Lns w [(X, Ep.cutStart l od), (Y, l)] ((A, c, l) :: R) V) => h.refCutStart (j := 0) rfl HOK.out rfl od)
        have HPB := hide (fun V R (h : Lns w [(X, l), (Y, l)] R V) => h.cutStart (i := 0) rfl od)
        generalize Ep.cutStart l od = l' at *
        have HL5 : Hid (l'.length ≤ 100000) := hide (by have := hok'.len; omega)
        clear hok'
        go_wp2_with (first
          | (go_at_call 21; refine (HPB.out _ _ I3.out).mono ?_; rintro _ w4 ⟨rfl, h⟩; have I4 : Hid (Lns w [(X, l'), (Y, l)] [(A, c, l), (Aw, cw, l), (some ⟨bx, 1, none⟩, 1, [⟨ed, od⟩])] w4) := hide h; obtain ⟨x1', x2'⟩ := I4.out.boxed (j := 2) rfl; clear h I3)
          | (go_at_call 22; refine (HRB.out _ _ I4.out).mono ?_; rintro _ w5 ⟨A', c', rfl, h⟩; have I5 : Hid (Lns w [(X, l'), (Y, l)] [(A, c, l), (Aw, cw, l), (some ⟨bx, 1, none⟩, 1, [⟨ed, od⟩]), (A', c', l')] w5) := hide h; clear h I4)
          | (go_at_call 16; have _t := I5; refine (I5.out.pairs (i := 0) (X := X) (l := l') rfl).mono ?_; rintro _ w6 ⟨A6, c6, rfl, -, h⟩; have I6 := hide h; clear h I5)
          | (go_at_call 23; have _t := I6; refine (I6.out.same (j := 3) rfl (I6.out.row 4 rfl) rfl HL5.out).mono ?_; rintro _ w7 ⟨rfl, h⟩; have I7 := hide h; clear h I6)
          | (go_at_call 16; have _t := I7; refine (I7.out.pairs (i := 1) (X := Y) (l := l) rfl).mono ?_; rintro _ w8 ⟨A8, c8, rfl, -, h⟩; have I8 := hide h; clear h I7)
          | (go_at_call 23; have _t := I8; refine (I8.out.same (j := 1) rfl (I8.out.row 5 rfl) rfl HL0.out).mono ?_; rintro _ w9 ⟨rfl, h⟩; have I9 := hide h; clear h I8)
          | (go_at_call 24; have _t := I9; refine (I9.out.asks (i := 0) (j := 3) p HS3.out rfl rfl rfl HNQ.out HAQ.out o z e).mono ?_; rintro _ wa ⟨rfl, h⟩; have Ia := hide h; clear h I9)
          | fail)
        go_roundw
        case rel => exact ⟨l', A', c', (i : Int) + 1, rfl, by go_num, .inr ⟨i + 1, by omega, by omega⟩, (Ia.out.fewer (L := [(X, l')]) (x := (Y, l))).rows fun r hr => by simp at hr ⊢; simp [hr]⟩
        case measure => simp [intOf]; omega
      · obtain rfl : i = nd := by omega
        have f1 : decide ((i : Int) < i) = false := decide_eq_false (by omega)
        clear hiz hm
        go_wp2_with fail
        go_ret
        exact ⟨rfl, HW0.out⟩
end Go.Proofs.YtplpakdbahlgaaaDoor

namespace Go.Proofs.YtplpakdbahlgaaaDoor.PlaysLaw9
open Go.Proofs.YtplpakdbahlgaaaDoor
open Go.RowKit Go.ChangeShapes Go.WideShapes Go.ChangeAt

set_option maxRecDepth 100000 in
theorem lifted (os : Os) (started : os.Started) (H : Type) (enc : TypeId × Value → H) :
    ReturnsInHanded {} Tryd.checked os 3 .any (fun w args => (Rows.epochPlaysSpec.pre enc Tryd.prog Tryd.f3 [] false w args ∧ laidMetH Tryd.prog laidErr w) ∧ sizedMet enc Tryd.prog Tryd.f3 (OpenSpec.ofChange Rows.epochPlaysSpec) false w args)
      (Rows.epochPlaysSpec.post enc Tryd.prog Tryd.f3 false true false false) := by
  refine returnsInHanded_of_change_and (C := Tryd.checked) (X := fun w _ => laidMetH Tryd.prog laidErr w) (fun _ _ _ hh h => h.of_heap hh) own started (by kernel_rfl) Tryd.func3
    (ChangeSpec.witness_shaped (enc := enc) (C := Tryd.checked) (os := os) (X := fun w _ => laidMetH Tryd.prog laidErr w) false (World.doorLaid Tryd.prog 400 os) #[.slice none 0 0, .slice none 0 0, .int .i64 0, .int .i64 0, .int .i64 0, .slice none 0 0] 8 rfl (World.shaped_of_RefB (by kernel_rfl) (by kernel_rfl)) (by kernel_rfl) (by kernel_rfl) (by kernel_rfl) (door_met_err os _)) ?_
  intro W base args ds gs before hval0 hW _ _ hL _
  have hval : ∀ (j : Nat) t v, Tryd.f3.params[j]? = some t → args[j]? = some v → Value.okWide Tryd.prog W .any base t v := hval0
  have hW' := hW
  obtain ⟨p, q, hA0, hV, rfl, hfz, hnd⟩ := hW
  have hA : DataW.TrodAll enc Tryd.prog W 0 (fun _ => true) true Tryd.f3.params.toList args.toList ds p := hA0
  rw [Tryd.params3] at hA hval
  obtain ⟨v0, vs0, d0, ds0, p0, q0, hargs, rfl, rfl, h0, r0⟩ := trodAll_cons hA
  obtain ⟨v1, vs1, d1, ds1, p1, q1, rfl, rfl, rfl, h1, r1⟩ := trodAll_cons r0
  obtain ⟨v2, vs2, d2, ds2, p2, q2, rfl, rfl, rfl, h2, r2⟩ := trodAll_cons r1
  obtain ⟨v3, vs3, d3, ds3, p3, q3, rfl, rfl, rfl, h3, r3⟩ := trodAll_cons r2
  obtain ⟨v4, vs4, d4, ds4, p4, q4, rfl, rfl, rfl, h4, r4⟩ := trodAll_cons r3
  obtain ⟨v5, vs5, d5, ds5, p5, q5, rfl, rfl, rfl, h5, r5⟩ := trodAll_cons r4
  obtain ⟨rfl, rfl, rfl⟩ := trodAll_nil r5
  obtain rfl : args = #[v0, v1, v2, v3, v4, v5] := by cases args; simp_all
  obtain ⟨rfl, rfl⟩ := trodVars_none hV
  obtain ⟨a0, len0, cap0, rfl⟩ := okWide_slice Tryd.underlying22 (hval 0 22 v0 rfl rfl)
  have k0 := h0
  have lt0 : ∀ x ∈ p0, x.block < W.heap.size := by obtain ⟨m, hm⟩ := k0; exact DataW.trod_lt m _ _ _ hm
  obtain ⟨l0, rfl, pa0⟩ := pairs_of h0
  obtain ⟨a1, len1, cap1, rfl⟩ := okWide_slice Tryd.underlying23 (hval 1 23 v1 rfl rfl)
  have k1 := h1
  have lt1 : ∀ x ∈ p1, x.block < W.heap.size := by obtain ⟨m, hm⟩ := k1; exact DataW.trod_lt m _ _ _ hm
  obtain ⟨xs1, rfl, le1, mx1, w1, z1⟩ := does9_of h1
  obtain ⟨a2, rfl, rfl, rfl, w2⟩ := open_int Tryd.underlying2 (hval 2 2 v2 rfl rfl) h2
  have hb2 := bounds_i64 w2
  obtain ⟨a3, rfl, rfl, rfl, w3⟩ := open_int Tryd.underlying2 (hval 3 2 v3 rfl rfl) h3
  have hb3 := bounds_i64 w3
  obtain ⟨a4, rfl, rfl, rfl, w4⟩ := open_int Tryd.underlying3 (hval 4 3 v4 rfl rfl) h4
  have hb4 := bounds_i64 w4
  obtain ⟨a5, len5, cap5, rfl⟩ := okWide_slice Tryd.underlying22 (hval 5 22 v5 rfl rfl)
  have k5 := h5
  have lt5 : ∀ x ∈ p5, x.block < W.heap.size := by obtain ⟨m, hm⟩ := k5; exact DataW.trod_lt m _ _ _ hm
  obtain ⟨l5, rfl, pa5⟩ := pairs_of h5
  clear hA0 hval0
  obtain ⟨ps, hsent⟩ := sents_of_err hL
  refine (plays9_any W ps hsent (hsent.mono fun j hj => by omega) a0 a1 a5 cap0 cap1 cap5 l0.length xs1.length l5.length l0 l5 xs1 a2 a3 a4 rfl rfl rfl pa0 w1 le1 pa5).mono fun e W' ⟨he, bel⟩ => ?_
  subst he
  exact ⟨_, rfl, _, _, _, [], _, [], hW', trodAll_mk1 (shut_bool Tryd.underlying4 _), (trodAll_cons_mk (Below.trod laidOut (by kernel_rfl) (of_decide_eq_true (by kernel_rfl)) k0 bel lt0) (trodAll_cons_mk (Below.trod laidOut (by kernel_rfl) (of_decide_eq_true (by kernel_rfl)) k1 bel lt1) (trodAll_cons_mk (shut_int Tryd.underlying2 w2) (trodAll_cons_mk (shut_int Tryd.underlying2 w3) (trodAll_cons_mk (shut_int Tryd.underlying3 w4) (trodAll_cons_mk (Below.trod laidOut (by kernel_rfl) (of_decide_eq_true (by kernel_rfl)) k5 bel lt5) trodAll_mk0)))))), rfl, bel.frame _, fun h => by cases h⟩

theorem row : Rows.EpochPlaysSaid :=
  OpenClaim.holds_of_wide 3 Tryd.f3 rfl rfl rfl rfl rfl rfl rfl ⟨rfl, rfl, rfl, rfl, rfl⟩ rfl rfl rfl rfl rfl (by kernel_rfl) Tryd.func3 (by kernel_rfl)
    (of_decide_eq_true (by kernel_rfl)) (by unfold Func.isWrapper; first | (rw [if_pos (by decide +kernel)]; kernel_rfl) | (rw [if_neg (by decide +kernel)]; exact ⟨rfl, rfl⟩))
    (fun os started H enc _ => lifted os started H enc)

theorem proved : Rows.EpochPlaysCardSaid :=
  Claim7.holds_tied_plain_at .later [] _ true _ true
    row (fun _ h => by cases h) (by kernel_rfl) (fun _ h => by cases h) epochPlays_row_tie rfl ⟨rfl, rfl⟩ (by kernel_rfl) rfl
    (fun f fn hf hfn => by
      obtain rfl : f = 3 := Option.some.inj ((show Tryd.prog.funcNamed "cordwood/cordwoodlaw9.EpochPlays" = some 3 by kernel_rfl).symm.trans hf) |>.symm
      obtain rfl : fn = Tryd.f3 := (Option.some.inj (Tryd.func3.symm.trans hfn)).symm
      exact ⟨by kernel_rfl, fun j t ht => by
        rw [Tryd.params3] at ht
        have hm : t ∈ [22, 23, 2, 2, 3, 22] := by simpa using Array.mem_of_getElem? ht
        have hall : ([22, 23, 2, 2, 3, 22].all fun u => !Tryd.prog.wantsStandIn u) = true := by kernel_rfl
        exact (show Tryd.prog.wantsStandIn t = false by simpa using List.all_eq_true.1 hall t hm)⟩)
    (by kernel_rfl)
end Go.Proofs.YtplpakdbahlgaaaDoor.PlaysLaw9
