/-
  What EpochPlays asks at each turn.
  Lineages and rows beside the reference's calls.
-/
import Derived.Test.YtplpakdbahlgaaaDoorE13
import Derived.Test.YtplpakdbahlgaaaDoorE8
import Derived.Test.YtplpakdbahlgaaaDoorE4
namespace Go.Proofs.YtplpakdbahlgaaaDoor
open Go.RowKit

set_option maxRecDepth 100000 in
set_option maxHeartbeats 8000000 in
theorem asks9_any (X : Nat) (l q : List Ep.Pr) (S : Nat → Prop) (A Aq : Option Addr) (c n cq nq : Nat) (o z e : Int) (w : World) (p : Nat → Addr) (hs : Sents3 w p) (h : EpAt w X l S) (hok : Ep.Ok l) (hn : l.length = n) (hp : PrAt w A c l) (hnq : q.length = nq) (hq : PrAt w Aq cq q) :
    Calls Tryd.prog 24 #[.pointer (some ⟨X, 0, none⟩), .slice A n c, .int .i64 o, .int .i64 z, .int .i64 e, .slice Aq nq cq] w fun r w' => r = .returned (.bool true) ∧ Below w.heap.size w w' := by
  have hle := hn ▸ hp.le
  have hlen := hn ▸ hok.len
  have H1 := hide (fun V (hb : Below w.heap.size w V) => epAt_any X l S o V (h.below hb) hok)
  have H2 := hide (fun V (hb : Below w.heap.size w V) => refAt_any A c n l o V hn hok (hp.below hb))
  have H3 := hide (fun V (hb : Below w.heap.size w V) => epEnd_any X l S e z V (h.below hb) hok)
  have H4 := hide (fun V (hb : Below w.heap.size w V) => refEnd_any A c n l e z V hn hok (hp.below hb))
  have H5 := hide (fun V (hb : Below w.heap.size w V) => epLast_any X l S V (h.below hb) hok)
  have H7 := hide (fun V (hb : Below w.heap.size w V) => epSpan_any X l S o z V (h.below hb) hok)
  have H8 := hide (fun V (hb : Below w.heap.size w V) => refSpan_any A c n l o z V hn hok (hp.below hb))
  have HS : Hid (∀ V v v', OwnP V 0 v (Ep.span l o z) → OwnP V 0 v' (Ep.span l o z) → Calls Tryd.prog 23 #[v, v'] V fun r w' => r = .returned (.bool true) ∧ Below V.heap.size V w') := hide fun V v v' h1 h2 => by
    obtain ⟨A1, c1, rfl, p1, -, -⟩ := pairs_at h1
    obtain ⟨A2, c2, rfl, p2, -, -⟩ := pairs_at h2
    by_cases hz : o < z
    · exact samePairs_eq A1 A2 c1 c2 _ _ V rfl (by rw [Ep.span_len o z hz]; have := Ep.ahead_le l z; omega) p1 p2
    · have hz' : Ep.span l o z = [] := if_pos (by omega)
      exact samePairs_eq A1 A2 c1 c2 _ _ V rfl (by rw [hz']; simp) p1 p2
  have HA := hide (fun V wh (hb : Below w.heap.size w V) => epHas_any X l q S Aq cq nq z wh V p (hs.below hb) (h.below hb) hok hnq (hq.below hb))
  have HB := hide (fun V wh (hb : Below w.heap.size w V) => refHas_any A Aq c cq n nq l q z wh V hn hnq hok (hp.below hb) (hq.below hb))
  have HC := hide (fun V wh (hb : Below w.heap.size w V) => epHas_any X l l S A c n z wh V p (hs.below hb) (h.below hb) hok hn (hp.below hb))
  have HD := hide (fun V wh (hb : Below w.heap.size w V) => refHas_any A A c c n n l l z wh V hn hn hok (hp.below hb) (hp.below hb))
  have HP := hide hp
  rw [hn] at H5
  have HLA : Hid (n = 0 → Ep.last l = ⟨0, 0⟩) := hide fun h0 => by
    have : l = [] := List.eq_nil_of_length_eq_zero (hn.trans h0)
    rw [this]; rfl
  have HLB : Hid (∀ m, n = m + 1 → Ep.last l = Ep.pr l m) := hide fun m h1 => by unfold Ep.last; rw [hn, h1]; rfl
  have HLN := hide hn
  have HZ : Hid (∀ V, Below w.heap.size w V → V.heap.size ≥ w.heap.size) := hide fun V hb => hb.size
  generalize Ep.at_ l o = at9 at *
  obtain ⟨ae, ab⟩ := at9
  generalize Ep.end_ l e z = en9 at *
  obtain ⟨ee, es, eb⟩ := en9
  generalize Ep.span l o z = sp9 at *
  simp only at H1 H2 H3 H4
  have kE : (ae == ae) = true := by simp
  have kE2 : (ee == ee) = true := by simp
  have kE3 : (es == es) = true := by simp
  have kB : (ab == ab) = true := by simp
  have kB2 : (eb == eb) = true := by simp
  clear hs h hok hn hp hnq hq
  have kH := fun x : Bool => show (x == x) = true by simp
  cases n with
  | zero =>
    have hl := HLA.out rfl
    rw [hl] at H5
    unfold prV at H5
    have d0 : decide (0 < 0) = false := rfl
    rw [d0] at H5
    go_enter Tryd.func24, Tryd.ntmps24
    go_wp2_with (first
      | (go_at_call 36; refine (H1.out w (Below.refl _ _)).mono ?_; rintro _ w1 ⟨rfl, hb⟩; have B1 := hide hb; clear hb)
      | (go_at_call 48; refine (H2.out w1 B1.out).mono ?_; rintro _ w2 ⟨rfl, hb⟩; have B2 := hide (B1.out.trans (hb.mono B1.out.size)); clear hb)
      | (go_at_call 37; refine (H3.out w2 B2.out).mono ?_; rintro _ w3 ⟨rfl, hb⟩; have B3 := hide (B2.out.trans (hb.mono B2.out.size)); clear hb)
      | (go_at_call 49; refine (H4.out w3 B3.out).mono ?_; rintro _ w4 ⟨rfl, hb⟩; have B4 := hide (B3.out.trans (hb.mono B3.out.size)); clear hb)
      | (go_at_call 34; refine (H5.out w4 B4.out).mono ?_; rintro _ w5 ⟨rfl, hb⟩; have B5 := hide (B4.out.trans (hb.mono B4.out.size)); clear hb)
      | (go_at_call 47; refine (samePair_eq ⟨0, 0⟩ _).mono ?_; rintro _ w6 ⟨rfl, hb⟩; have B6 := hide ((balloc (balloc B5.out _) _).trans (hb.mono (balloc (balloc B5.out _) _).size)); clear hb)
      | (go_at_call 32; refine (H7.out w6 B6.out).mono ?_; rintro _ w7 ⟨v7, rfl, ho, hb⟩; have O7 := hide (ownP_mono ho (Nat.zero_le _)); have B7 := hide (B6.out.trans (hb.mono B6.out.size)); clear hb ho)
      | (go_at_call 50; refine (H8.out w7 B7.out).mono ?_; rintro _ w8 ⟨v8, rfl, ho, hb⟩; have O8 := hide (ownP_mono ho (Nat.zero_le _)); have O7' := hide (ownP_below O7.out hb); have B8 := hide (B7.out.trans (hb.mono B7.out.size)); clear hb ho)
      | (go_at_call 23; refine (HS.out w8 _ _ O7'.out O8.out).mono ?_; rintro _ w9 ⟨rfl, hb⟩; have B9 := hide (B8.out.trans (hb.mono B8.out.size)); clear hb)
      | (go_at_call 51; have _t := Bc; refine (HD.out wc z Bc.out).mono ?_; rintro _ wd ⟨rfl, hb⟩; have Bd := hide (Bc.out.trans (hb.mono Bc.out.size)); clear hb)
      | (go_at_call 33; have _t := Bb; refine (HC.out wb z Bb.out).mono ?_; rintro _ wc ⟨rfl, hb⟩; have Bc := hide (Bb.out.trans (hb.mono Bb.out.size)); clear hb)
      | (go_at_call 51; have _t := Ba; refine (HB.out wa _ Ba.out).mono ?_; rintro _ wb ⟨rfl, hb⟩; have Bb := hide (Ba.out.trans (hb.mono Ba.out.size)); clear hb)
      | (go_at_call 33; have _t := B9; refine (HA.out w9 _ B9.out).mono ?_; rintro _ wa ⟨rfl, hb⟩; have Ba := hide (B9.out.trans (hb.mono B9.out.size)); clear hb)
      | fail)
    go_ret
    exact ⟨rfl, Bd.out⟩
  | succ m =>
    have hl := HLB.out m rfl
    rw [hl] at H5
    unfold prV at H5
    have d0 : decide (0 < m + 1) = true := by simp
    rw [d0] at H5
    have HPM : Hid (∀ V, Below w.heap.size w V → ∃ g f, A = some ⟨g, f, none⟩ ∧ V.cell? ⟨g, f + m * 2, none⟩ = some (.int .i64 (Ep.pr l m).ep) ∧ V.cell? ⟨g, f + m * 2 + 1, none⟩ = some (.int .i64 (Ep.pr l m).st)) := hide fun V hV => HP.out.stays V hV m (by have := HLN.out; omega)
    generalize Ep.pr l m = lq at *
    obtain ⟨le, ls⟩ := lq
    simp only at H5 HPM
    have hwm : IntKind.i64.wrap ((m : Int) + 1 - 1) = (m : Int) := by rw [IntKind.wrap_i64]; omega
    have hwn : IntKind.i64.wrap (m : Int) = (m : Int) := by rw [IntKind.wrap_i64]; omega
    go_enter Tryd.func24, Tryd.ntmps24
    go_upto_region 8 with (first
      | (go_at_call 36; refine (H1.out w (Below.refl _ _)).mono ?_; rintro _ w1 ⟨rfl, hb⟩; have B1 := hide hb; clear hb)
      | (go_at_call 48; refine (H2.out w1 B1.out).mono ?_; rintro _ w2 ⟨rfl, hb⟩; have B2 := hide (B1.out.trans (hb.mono B1.out.size)); clear hb)
      | (go_at_call 37; refine (H3.out w2 B2.out).mono ?_; rintro _ w3 ⟨rfl, hb⟩; have B3 := hide (B2.out.trans (hb.mono B2.out.size)); clear hb)
      | (go_at_call 49; refine (H4.out w3 B3.out).mono ?_; rintro _ w4 ⟨rfl, hb⟩; have B4 := hide (B3.out.trans (hb.mono B3.out.size)); clear hb)
      | (go_at_call 34; refine (H5.out w4 B4.out).mono ?_; rintro _ w5 ⟨rfl, hb⟩; have B5 := hide (B4.out.trans (hb.mono B4.out.size)); clear hb)
      | fail)
    obtain ⟨W6, hW6⟩ : ∃ W6, W6 = (w5.alloc (.cells #[.int .i64 le, .int .i64 ls] 59)).alloc (.cells #[.int .i64 0, .int .i64 0] 59) := ⟨_, rfl⟩
    have hB6 : Below w.heap.size w W6 := by rw [hW6]; exact balloc (balloc B5.out _) _
    have hx2 : W6.heap[w5.heap.size + 1]? = some (.cells #[.int .i64 0, .int .i64 0] 59 (0, 0)) := by rw [hW6]; have := heap_alloc_new (w5.alloc (.cells #[.int .i64 le, .int .i64 ls] 59)) (.cells #[.int .i64 0, .int .i64 0] 59); simpa using this
    have hx1 : W6.heap[w5.heap.size]? = some (.cells #[.int .i64 le, .int .i64 ls] 59 (0, 0)) := by
      rw [hW6]
      exact ((balloc (Below.refl _ _) _ : Below (w5.alloc (.cells #[.int .i64 le, .int .i64 ls] 59)).heap.size _ _).block w5.heap.size (by simp)).trans (heap_alloc_new _ _)
    rw [← hW6]
    have y0 := box_cell hx2 0
    have y1 := box_cell hx2 1
    have g0 := box_free hx2 0
    have g1 := box_free hx2 1
    have x0 := box_cell hx1 0
    have x1 := box_cell hx1 1
    obtain ⟨gl, fl, rfl, k0, k1⟩ := HPM.out W6 hB6
    have HB6 := hide hB6
    have HX1 := hide hx1
    have HX2 := hide hx2
    have hws := B5.out.size
    clear hW6 hB6 hx1 hx2
    go_upto_region 9 with fail
    obtain ⟨W7, hW7⟩ : ∃ W7, W7 = (W6.setCell ⟨w5.heap.size + 1, 0, none⟩ (.int .i64 le)).setCell ⟨w5.heap.size + 1, 1, none⟩ (.int .i64 ls) := ⟨_, rfl⟩
    rw [← hW7]
    have hB7 : Below w.heap.size w W7 := by rw [hW7]; exact (HB6.out.setCell (show w.heap.size ≤ w5.heap.size + 1 by omega) _).setCell (show w.heap.size ≤ w5.heap.size + 1 by omega) _
    have z0 : W7.cell? ⟨w5.heap.size + 1, 0, none⟩ = some (.int .i64 le) := by
      rw [hW7, World.cell?_setCell_other _ _ _ _ (by simp)]
      exact World.cell?_setCell_same _ _ _ y0
    have z1 : W7.cell? ⟨w5.heap.size + 1, 1, none⟩ = some (.int .i64 ls) := by
      rw [hW7]
      exact World.cell?_setCell_same _ _ _ ((World.cell?_setCell_other _ _ _ _ (by simp)).trans y1)
    have z2 : W7.cell? ⟨w5.heap.size, 0, none⟩ = some (.int .i64 le) := by
      rw [hW7, World.cell?_setCell_other _ _ _ _ (by simp), World.cell?_setCell_other _ _ _ _ (by simp)]
      exact x0
    have z3 : W7.cell? ⟨w5.heap.size, 1, none⟩ = some (.int .i64 ls) := by
      rw [hW7, World.cell?_setCell_other _ _ _ _ (by simp), World.cell?_setCell_other _ _ _ _ (by simp)]
      exact x1
    have B5x := hide hB7
    clear hW7 hB7 x0 x1 y0 y1 g0 g1 k0 k1
    go_wp2_with (first
      | (go_at_call 47; refine (samePair_eq ⟨le, ls⟩ _).mono ?_; rintro _ w6 ⟨rfl, hb⟩; have B6 := hide (B5x.out.trans (hb.mono B5x.out.size)); clear hb)
      | (go_at_call 32; refine (H7.out w6 B6.out).mono ?_; rintro _ w7 ⟨v7, rfl, ho, hb⟩; have O7 := hide (ownP_mono ho (Nat.zero_le _)); have B7 := hide (B6.out.trans (hb.mono B6.out.size)); clear hb ho)
      | (go_at_call 50; refine (H8.out w7 B7.out).mono ?_; rintro _ w8 ⟨v8, rfl, ho, hb⟩; have O8 := hide (ownP_mono ho (Nat.zero_le _)); have O7' := hide (ownP_below O7.out hb); have B8 := hide (B7.out.trans (hb.mono B7.out.size)); clear hb ho)
      | (go_at_call 23; refine (HS.out w8 _ _ O7'.out O8.out).mono ?_; rintro _ w9 ⟨rfl, hb⟩; have B9 := hide (B8.out.trans (hb.mono B8.out.size)); clear hb)
      | (go_at_call 51; have _t := Bc; refine (HD.out wc z Bc.out).mono ?_; rintro _ wd ⟨rfl, hb⟩; have Bd := hide (Bc.out.trans (hb.mono Bc.out.size)); clear hb)
      | (go_at_call 33; have _t := Bb; refine (HC.out wb z Bb.out).mono ?_; rintro _ wc ⟨rfl, hb⟩; have Bc := hide (Bb.out.trans (hb.mono Bb.out.size)); clear hb)
      | (go_at_call 51; have _t := Ba; refine (HB.out wa _ Ba.out).mono ?_; rintro _ wb ⟨rfl, hb⟩; have Bb := hide (Ba.out.trans (hb.mono Ba.out.size)); clear hb)
      | (go_at_call 33; have _t := B9; refine (HA.out w9 _ B9.out).mono ?_; rintro _ wa ⟨rfl, hb⟩; have Ba := hide (B9.out.trans (hb.mono B9.out.size)); clear hb)
      | fail)
    go_ret
    exact ⟨rfl, Bd.out⟩
end Go.Proofs.YtplpakdbahlgaaaDoor

namespace Go.Proofs.YtplpakdbahlgaaaDoor
open Go.RowKit
section
variable {w0 w w' : World} {L : List (Nat × List Ep.Pr)} {R : List (Option Addr × Nat × List Ep.Pr)}
theorem Lns.fewer {x : Nat × List Ep.Pr} (h : Lns w0 (L ++ [x]) R w) : Lns w0 L R w := by
  obtain ⟨S, h1, h2, h3, h4⟩ := h.ex
  have hg : ∀ i y, L[i]? = some y → (L ++ [x])[i]? = some y := fun i y hy => by
    rw [List.getElem?_append_left (List.getElem?_eq_some_iff.1 hy).1]; exact hy
  have hl : ∀ i, i < L.length → i < (L ++ [x]).length := fun i hi => by simp; omega
  exact ⟨⟨S, fun i y hy => h1 i y (hg i y hy), fun i k hi => h2 i k (hl i hi), fun i j k hi hj => h3 i j k (hl i hi) (hl j hj), fun r hr => ⟨(h4 r hr).1, fun g o e => (h4 r hr).2 g o e |>.imp id fun q => ⟨q.1, fun i hi => q.2 i (hl i hi)⟩⟩⟩, fun i y hy => h.ok i y (hg i y hy), h.bel⟩
theorem Lns.refBegin {j n c : Nat} {A : Option Addr} {l : List Ep.Pr} (h : Lns w0 L R w) (hr : R[j]? = some (A, c, l)) (hok : Ep.Ok l) (hn : l.length = n) (e s : Int) :
    Calls Tryd.prog 17 #[.slice A n c, .int .i64 e, .int .i64 s] w fun r w' => ∃ A' c', r = .returned (.tuple #[.slice A' (Ep.begin l e s).2.length c', .int .i64 (codeR (Ep.begin l e s).1)]) ∧ Lns w0 L (R ++ [(A', c', (Ep.begin l e s).2)]) w' := by
  refine (refBegin_any A c n l e s w hn hok (h.row j hr)).mono ?_
  rintro _ w' ⟨v, rfl, hb, ⟨rfl, he⟩ | ho⟩
  · refine ⟨A, c, by rw [he, hn], (h.below hb).rows fun r hr' => ?_⟩
    rcases List.mem_append.1 hr' with h1 | h1
    · exact h1
    · rw [he] at h1
      rw [List.mem_singleton.1 h1]
      exact List.mem_of_getElem? hr
  · obtain ⟨A', c', rfl, -, h1⟩ := h.addRow hb ho
    exact ⟨A', c', rfl, h1⟩
theorem Lns.refCutEnd {j n c : Nat} {A : Option Addr} {l : List Ep.Pr} (h : Lns w0 L R w) (hr : R[j]? = some (A, c, l)) (hok : Ep.Ok l) (hn : l.length = n) (o : Int) :
    Calls Tryd.prog 20 #[.slice A n c, .int .i64 o] w fun r w' => ∃ A' c', r = .returned (.slice A' (Ep.cutEnd l o).length c') ∧ Lns w0 L (R ++ [(A', c', Ep.cutEnd l o)]) w' := by
  refine (refCutEnd_any A c n l o w hn hok (h.row j hr)).mono ?_
  rintro _ w' ⟨v, rfl, ho, hb⟩
  obtain ⟨A', c', rfl, -, h1⟩ := h.addRow hb ho
  exact ⟨A', c', rfl, h1⟩
theorem Lns.refCutStart {j n c : Nat} {A : Option Addr} {l : List Ep.Pr} (h : Lns w0 L R w) (hr : R[j]? = some (A, c, l)) (hok : Ep.Ok l) (hn : l.length = n) (o : Int) :
    Calls Tryd.prog 22 #[.slice A n c, .int .i64 o] w fun r w' => ∃ A' c', r = .returned (.slice A' (Ep.cutStart l o).length c') ∧ Lns w0 L (R ++ [(A', c', Ep.cutStart l o)]) w' := by
  refine (refCutStart_any A c n l o w hn hok (h.row j hr)).mono ?_
  rintro _ w' ⟨v, rfl, ho, hb⟩
  obtain ⟨A', c', rfl, -, h1⟩ := h.addRow hb ho
  exact ⟨A', c', rfl, h1⟩
theorem Lns.asks {i j n c nq cq X : Nat} {A Aq : Option Addr} {l q : List Ep.Pr} (h : Lns w0 L R w) (p : Nat → Addr) (hs : Sents3 w0 p) (hx : L[i]? = some (X, l)) (hr : R[j]? = some (A, c, l)) (hn : l.length = n) (hnq : q.length = nq) (hq : PrAt w0 Aq cq q) (o z e : Int) :
    Calls Tryd.prog 24 #[.pointer (some ⟨X, 0, none⟩), .slice A n c, .int .i64 o, .int .i64 z, .int .i64 e, .slice Aq nq cq] w fun r w' => r = .returned (.bool true) ∧ Lns w0 L R w' := by
  obtain ⟨S, hS, hok⟩ := h.get hx
  refine (asks9_any X l q S A Aq c n cq nq o z e w p (hs.below h.bel) hS hok hn (h.row j hr) hnq (hq.below h.bel)).mono ?_
  rintro _ w' ⟨rfl, hb⟩
  exact ⟨rfl, h.below hb⟩
/-- A box of three cells, of which the last two are kept as a pair. -/
theorem Lns.box (h : Lns w0 L R w) (k e s : Int) (t : TypeId) : Lns w0 L (R ++ [(some ⟨w.heap.size, 1, none⟩, 1, [⟨e, s⟩])]) (w.alloc (.cells #[.int .i64 k, .int .i64 e, .int .i64 s] t)) := by
  refine h.addAt (balloc (Below.refl _ _) _) ⟨by simp, by simp, fun i hi => ?_⟩ fun g o e => .inr (by injection e with e; injection e with e1; omega)
  obtain rfl : i = 0 := by simp at hi; omega
  refine ⟨w.heap.size, 1, rfl, by simp, ?_, ?_⟩
  · rw [World.cell?_alloc_mark]; rfl
  · rw [World.cell?_alloc_mark]; rfl
theorem Lns.boxed {j b : Nat} {e s : Int} (h : Lns w0 L R w) (hr : R[j]? = some (some ⟨b, 1, none⟩, 1, [⟨e, s⟩])) : w.cell? ⟨b, 1, none⟩ = some (.int .i64 e) ∧ w.cell? ⟨b, 2, none⟩ = some (.int .i64 s) := by
  obtain ⟨g, f, e', -, k0, k1⟩ := (h.row j hr).at_ 0 (by simp)
  injection e' with e'
  injection e' with e1 e2
  subst e1 e2
  exact ⟨k0, k1⟩
theorem begin_lt (l : List Ep.Pr) (e s : Int) (j : Nat) (h : (Ep.begin l e s).1 = some j) : j < 19 := by
  unfold Ep.begin at h
  split at h
  · simp at h; omega
  split at h
  · simp at h
  split at h
  · simp at h; omega
  split at h
  · simp at h
  split at h
  · simp at h; omega
  split at h
  · simp at h; omega
  split at h
  · simp at h
  · simp at h
theorem is_errR (w : World) (p : Nat → Addr) (hs : Sents w p) (r : Option Nat) (hr : ∀ j, r = some j → j < 19) :
    Calls Tryd.prog 13 #[errR p r, .int .i64 (codeR r)] w fun e w' => e = .returned (.bool true) ∧ Below w.heap.size w w' := by
  cases r with
  | none => exact (is_nil 0 w).mono fun e w' ⟨h, hb⟩ => ⟨by rw [h]; rfl, hb⟩
  | some j => exact (is_sent w p hs j (hr j rfl) _).mono fun e w' ⟨h, hb⟩ => ⟨by rw [h, decide_eq_true (by show ((101 + j : Nat) : Int) = 101 + (j : Nat); omega)], hb⟩
end
end Go.Proofs.YtplpakdbahlgaaaDoor
