/-
  PartTwice, walked.
  What a row's reading says of an argument of bools.
  PartTwice, proved.
-/
import Derived.Test.YtegaahcelogmlaaDoorPaL
import Derived.Test.YtegaahcelogmlaaDoorT1
import Derived.Deep.Grids
import Derived.Test.YtegaahcelogmlaaDoorT2
namespace Go.Proofs.YtegaahcelogmlaaDoor
open Go.RowKit Go.Maps

/-- A row of bools that came in. -/
def Bools (W : World) (A : Option Addr) (bs : List Bool) : Prop := bs = [] ∨ ∃ g off, A = some ⟨g, off, none⟩ ∧ g < W.heap.size ∧ ∀ k, k < bs.length → W.cell? ⟨g, off + k, none⟩ = some (.bool (bs.getD k false))
theorem Bools.below {W W' : World} {A : Option Addr} {bs : List Bool} (h : Bools W A bs) (hb : Below W.heap.size W W') : Bools W' A bs := by
  rcases h with h | ⟨g, off, e, hg, hc⟩
  · exact .inl h
  · exact .inr ⟨g, off, e, by have := hb.size; omega, fun k hk => (hb.cell (p := ⟨g, off + k, none⟩) hg).trans (hc k hk)⟩

set_option maxRecDepth 100000 in
set_option maxHeartbeats 4000000 in
theorem partTwice_walk {E : Nat → Prop} [hE : Told E] (w : World) (p : Nat → Addr) (hs : SentsOn E w p) (ht : Tabs w) (n0 : Int) (h01 : -9223372036854775808 ≤ n0) (h02 : n0 ≤ 9223372036854775807) (A : Option Addr) (c L : Nat) (b : List UInt8) (ha : Arg w A c b) (hL : b.length = L) (A2 : Option Addr) (c2 n2 : Nat) (bs : List Bool) (hbs : Bools w A2 bs) (hn2 : bs.length = n2) :
    Calls Tryd.prog 7 #[.slice A L c, .int .i64 n0, .slice A2 n2 c2] w fun x w' => x = .returned (.bool true) ∧ Below w.heap.size w w' := by
  have HF := hide (paFirst_any w ht)
  obtain ⟨e', he'⟩ : ∃ u, num n0 40 = u := ⟨_, rfl⟩
  have hel : e' < 40 := he' ▸ num_lt n0 40 (by omega)
  have HE' := hide he'
  clear he'
  obtain ⟨e, he⟩ : ∃ e, e = e' + 1 := ⟨_, rfl⟩
  have we : IntKind.i64.wrap ((e' : Int) + 1) = (e : Int) := by rw [IntWalk.i64_in _ (by omega)]; omega
  by_cases hle : L ≤ 100
  · have hnc : ¬ ((100 : Int) < (L : Int)) := by omega
    have hcl : St.cnt L e ≤ 100 := Nat.le_trans (St.cnt_le L e (by omega)) hle
    have HMK := hide (fun (W : World) (hW : Below w.heap.size w W) => paMake_any [111] o_valid A c L b e W (ha.below hW (Nat.le_refl _)) hL (by omega) (by omega) (by omega) (ht.below hW (Nat.le_refl _)))
    have HSS := hide (fun (W : World) (hW : Below w.heap.size w W) (A' : Option Addr) (c' : Nat) (h' : Reads W A' b) => sameBytes_same A' A c' c L b hL (by omega) h' ((ha.below hW (Nat.le_refl _)).reads))
    have HST := hide (fun (W : World) (S D : Nat → Prop) (sb cb n : Nat) (a : Int) (s : St.S) (h : CaS w S D sb cb 1 a s n W) (hn : n ≤ 700000) (id : Int) (hid : -9223372036854775808 ≤ id ∧ id ≤ 9223372036854775807) (done : Nat) (hd : done ≤ St.cnt L e) (hf : St.Few b id s) (N : St.Nx) (hN : N = St.nxt 1 [111] b e s id done) => paStep_at (E := E) (nm := [111]) hs ht ha hL (by omega) (by omega) (by decide) (by omega) (by omega) h hn id hid done hd hf N hN)
    have hP0 := fun N hN => St.one_start (b := b) (e := e) o_valid 0 N hN
    have hP1 := fun d done n s h hd hl N hN => St.one_part (nm := [111]) (b := b) (e := e) 0 (d := d) (done := done) (n := n) (s := s) h hd hl (by rw [hL]; omega) N hN
    have hP2 := fun n s h N hN => St.one_comp (nm := [111]) (b := b) (e := e) (by omega) 0 (n := n) (s := s) h (by rw [hL]; omega) N hN
    rw [hL] at hP1 hP2
    have HP0 := hide hP0
    have HP1 := hide hP1
    have HP2 := hide hP2
    have HTT := hide (show 1 ≤ 1 ∧ 1 ≤ 8 by omega)
    have HLL := hide hL
    have HBS := hide hbs
    have HN2 := hide hn2
    clear hP0 hP1 hP2 hs ht ha hL he hbs hn2
    generalize St.cnt L e = m at *
    generalize U (Crc.sum b) = sm at *
    go_enter Tryd.func7, Tryd.ntmps7
    go_upto_region 10 with (first
      | (go_at_call 8; refine HF.out.mono ?_; rintro x w1 ⟨rfl, hb⟩; have HB1 := hide hb; clear hb)
      | (go_at_call 14; refine (num_at n0 40 40 w1 (by omega) (by omega) (by omega) h01 h02).mono ?_; rintro x w1' ⟨rfl, rfl⟩; rw [HE'.out])
      | (go_at_call 15; refine (stNew_any w w1 HB1.out).mono ?_; rintro x w2 ⟨sb, S0, rfl, h, -, -⟩; have H2 := hide h; clear h)
      | (go_at_call 16; refine (caNew_any H2.out 1 HTT.out 1 rfl).mono ?_; rintro x w3 ⟨rfl, h, -⟩; have H3 := hide h; clear h H2; generalize w2.heap.size = cb at *)
      | (go_at_call 9; refine (HMK.out _ H3.out.st.below).mono ?_; rintro x w4 ⟨rfl, hb⟩; have H4 := hide (H3.out.grow hb); clear hb H3)
      | fail)
    obtain ⟨h5, hpb⟩ := H4.out.plan (planC [111] L sm e m)
    have H5 := hide h5
    have HPB := hide hpb
    obtain ⟨c0, c1, c2', c3, c4⟩ := hpb.cells
    clear h5 hpb
    change Code.wp _ _ _ _ (w4.alloc (.cells (planC [111] L sm e m) 26))
    generalize w4.alloc (.cells (planC [111] L sm e m) 26) = w5 at *
    generalize w4.heap.size = Bp at *
    obtain ⟨N, hN⟩ : ∃ N, N = St.nxt 1 [111] b e St.S.new 0 0 := ⟨_, rfl⟩
    obtain ⟨q1, q2, q3, q4, q5⟩ := HP0.out N hN
    obtain ⟨z1, z2, z3, z4⟩ := St.Nx.fine q1 0 0
    have HSTP := hide (HST.out _ _ _ _ _ _ _ _ H5.out (by omega) 0 (by omega) 0 (by omega) ((St.new_nil [111]).few 0) N hN)
    rw [z1, z2, z3, z4, q2, q3, q4] at HSTP
    have HQ := hide q5
    clear hN q1 q2 q3 q4 q5 z1 z2 z3 z4
    unfold errR at HSTP
    go_wp2_with (first
      | (go_at_call 17; refine HSTP.out.mono ?_; rintro x w6 ⟨rfl, a6, S6, D6, h1, h2⟩; have H6 := hide h1; have HB6 := hide (HPB.out.go h2); clear h1 h2)
      | fail)
    clear c0 c1 c2' c3 c4 HPB H5 H4 HSTP HP0
    go_loopw [17] (fun dn wr => ∃ (j : Nat) (S D : Nat → Prop) (a k : Int) (s : St.S), j ≤ m ∧ dn = .int .i64 (j : Int) ∧ CaS w S D sb cb 1 a s (2 + 4 * j) wr ∧ Pb S cb Bp (planC [111] L sm e m) wr ∧ St.One [111] b e j k s) (fun dn _ => m - (intOf dn).toNat)
    case atStart => exact ⟨0, _, _, _, _, _, Nat.zero_le _, rfl, H6.out, HB6.out, HQ.out⟩
    case round =>
      obtain ⟨j, S, D, a, k, s, hj, rfl, hc, hb, h1⟩ := hrel
      obtain ⟨c0, c1, c2', c3, c4⟩ := hb.cells
      have HC := hide hc
      have HB := hide hb
      clear hc hb
      by_cases hlt : j < m
      · obtain ⟨N, hN⟩ : ∃ N, N = St.nxt 1 [111] b e s 1 j := ⟨_, rfl⟩
        obtain ⟨q1, q2, q3, q4, -, q5⟩ := HP1.out j j _ s h1 hlt (Nat.le_refl _) N hN
        have q5 := q5 (by first | rfl | trivial)
        obtain ⟨z1, z2, z3, z4⟩ := St.Nx.fine q1 1 j
        have HSTP := hide (HST.out _ _ _ _ _ _ _ _ HC.out (by omega) 1 (by omega) j (by omega) h1.few N hN)
        rw [z1, z2, z3, z4, q2, q3, q4] at HSTP
        obtain ⟨M, hM⟩ : ∃ M, M = St.nxt 1 [111] b e N.st 1 j := ⟨_, rfl⟩
        obtain ⟨r1, r2, r3, r4, r5, -⟩ := HP1.out (j + 1) j _ N.st q5 hlt (by omega) M hM
        obtain ⟨y1, y2, y3, y4⟩ := St.Nx.fine r1 1 j
        have HSTQ := hide (fun (W : World) (S D : Nat → Prop) (a : Int) (h : CaS w S D sb cb 1 a N.st (2 + 4 * j + 1 + 1) W) => HST.out _ _ _ _ _ _ _ _ h (by omega) 1 (by omega) j (by omega) q5.few M hM)
        simp only [y1, y2, y3, y4, r2, r3, r4] at HSTQ
        have HQ := hide q5
        have HR := hide r5
        clear hN hM q1 q2 q3 q4 q5 z1 z2 z3 z4 h1 r1 r2 r3 r4 r5 y1 y2 y3 y4
        unfold errR at HSTP HSTQ
        have wj : IntKind.i64.wrap ((j : Int) + 1) = (j : Int) + 1 := IntWalk.i64_in _ (by omega)
        have b6 : ((1 : Int) != 1) = false := by decide
        have b7 : (((j + 1 : Nat) : Int) != (j : Int) + 1) = false := by simp
        by_cases hjn : j < n2
        · rcases HBS.out with h0 | ⟨g, off, rfl, hg, hbc⟩
          · have := HN2.out; rw [h0] at this; simp at this; omega
          · have hbj := hbc j (by rw [HN2.out]; exact hjn)
            have HBJ := hide hbj
            have HG := hide hg
            clear hbc hg hbj
            cases hx : bs.getD j false
            · rw [hx] at HBJ
              go_wp2_with (first
                | (go_at_call 17; refine HSTP.out.mono ?_; rintro x w6 ⟨rfl, a', S', D', h1, h2⟩; have H6 := hide h1; have HB6 := hide (HB.out.go h2); have bj6 := (h1.st.below.cell (p := ⟨g, off + j, none⟩) HG.out).trans HBJ.out; clear h1 h2)
                | fail)
              exact ⟨⟨j + 1, S', D', a', _, N.st, by omega, by push_cast; rfl, H6.out.mono (by omega), HB6.out, HQ.out⟩, by simp [intOf]; omega⟩
            · rw [hx] at HBJ
              go_wp2_with (first
                | (have := H6.out; clear this; go_at_call 17; refine (HSTQ.out _ _ _ _ H6.out).mono ?_; rintro x w7 ⟨rfl, a', S', D', h1, h2⟩; have H7 := hide h1; have HB7 := hide (HB6.out.go h2); clear h1 h2)
                | (go_at_call 17; refine HSTP.out.mono ?_; rintro x w6 ⟨rfl, a', S', D', h1, h2⟩; have H6 := hide h1; have hb6 := HB.out.go h2; obtain ⟨d0, d1, d2, d3, d4⟩ := hb6.cells; have HB6 := hide hb6; have bj6 := (h1.st.below.cell (p := ⟨g, off + j, none⟩) HG.out).trans HBJ.out; clear h1 h2 hb6)
                | fail)
              exact ⟨⟨j + 1, S', D', a', _, M.st, by omega, by push_cast; rfl, H7.out.mono (by omega), HB7.out, HR.out⟩, by simp [intOf]; omega⟩
        · go_wp2_with (first
            | (go_at_call 17; refine HSTP.out.mono ?_; rintro x w6 ⟨rfl, a', S', D', h1, h2⟩; have H6 := hide h1; have HB6 := hide (HB.out.go h2); clear h1 h2)
            | fail)
          exact ⟨⟨j + 1, S', D', a', _, N.st, by omega, by push_cast; rfl, H6.out.mono (by omega), HB6.out, HQ.out⟩, by simp [intOf]; omega⟩
      · obtain rfl : j = m := by omega
        obtain ⟨N, hN⟩ : ∃ N, N = St.nxt 1 [111] b e s 1 j := ⟨_, rfl⟩
        obtain ⟨q1, q2, q3, q4, q5⟩ := HP2.out _ s h1 N hN
        obtain ⟨z1, z2, z3, z4⟩ := St.Nx.fine q1 1 j
        have HSTP := hide (HST.out _ _ _ _ _ _ _ _ HC.out (by omega) 1 (by omega) j (by omega) h1.few N hN)
        rw [z1, z2, z3, z4, q2, q3, q4] at HSTP
        have HOB := hide q5.obj
        clear hN q1 q2 q3 q4 q5 z1 z2 z3 z4 h1
        unfold errR at HSTP
        go_wp2_with (first
          | (go_at_call 17; refine HSTP.out.mono ?_; rintro x w6 ⟨rfl, a', S', D', h1, h2⟩; have H6 := hide h1; clear h1 h2)
          | (go_at_call 19; refine (StS.bytes H6.out.st [111] (by simp)).mono ?_; rintro x w7 ⟨v, rfl, ho, hb⟩; have H7 := hide (H6.out.grow hb); rw [HOB.out] at ho ⊢; obtain ⟨A6, c6, rfl, ha6⟩ := own_n (n := L) ho HLL.out; have HA6 := hide ha6; clear ho hb ha6 H6; simp only [Option.isSome_some])
          | (go_at_call 20; refine (HSS.out _ H7.out.st.below A6 c6 HA6.out.reads).mono ?_; rintro x w8 ⟨rfl, hw⟩; have H8 := hide (H7.out.grow (below_drew_c hw)); clear hw)
          | fail)
        go_ret
        exact ⟨rfl, H8.out.st.below⟩
  · have hnc : (100 : Int) < (L : Int) := by omega
    clear hs ht ha hL hbs
    go_enter Tryd.func7, Tryd.ntmps7
    go_wp2_with (first
      | (go_at_call 8; refine HF.out.mono ?_; rintro x w1 ⟨rfl, hb⟩; have HB1 := hide hb; clear hb)
      | (go_at_call 14; refine (num_at n0 40 40 w1 (by omega) (by omega) (by omega) h01 h02).mono ?_; rintro x w1' ⟨rfl, rfl⟩; rw [HE'.out])
      | fail)
    go_ret
    exact ⟨rfl, HB1.out⟩
end Go.Proofs.YtegaahcelogmlaaDoor

namespace Go.Proofs.YtegaahcelogmlaaDoor
open Go.RowKit Go.ChangeShapes Go.WideShapes Go.ChangeAt Go.Deep

theorem cells_bool : Tryd.prog.cellsOf 4 = 1 := by kernel_rfl
theorem bools_of {H : Type} {enc : TypeId × Value → H} {W : World} {base : Nat} {held : Bool} {a : Option Addr} {len cap : Nat} {d : DataW H} {p : List MemPlace}
    (h : DataW.Trod enc Tryd.prog W base (fun _ => true) held 55 (.slice a len cap) d p) : ∃ bs : List Bool, bs.length = len ∧ Bools W a bs := by
  obtain ⟨fuel, hf⟩ := h
  rcases open_bools Tryd.underlying55 Tryd.underlying4 cells_bool hf with ⟨hcs, _⟩ | ⟨x, l, c, B, hcs, _, hl, _, _, hcell⟩
  · simp [Value.cells] at hcs
    obtain ⟨rfl, rfl, rfl⟩ := hcs
    exact ⟨[], rfl, .inl rfl⟩
  · simp [Value.cells] at hcs
    obtain ⟨rfl, rfl, rfl⟩ := hcs
    refine ⟨(List.range len).map B, by simp, ?_⟩
    by_cases h0 : len = 0
    · subst h0; exact .inl (by simp)
    · obtain ⟨b, off, spot⟩ := x
      have hc := hcell 0 (by omega)
      have hspot : spot = none := by simpa [Addr.add] using World.cell?_spot hc
      subst hspot
      refine .inr ⟨b, off, rfl, ?_, fun k hk => ?_⟩
      · rcases Nat.lt_or_ge b W.heap.size with h | h
        · exact h
        · exfalso
          simp [World.cell?, Addr.add, Array.getElem?_eq_none h] at hc
      · have hk' : k < len := by simpa using hk
        have hck := hcell k (by omega)
        rw [Addr.add_lit] at hck
        rw [hck]
        simp [List.getD, hk']
end Go.Proofs.YtegaahcelogmlaaDoor

namespace Go.Proofs.YtegaahcelogmlaaDoor.PartTwiceLaw
open Go.Proofs.YtegaahcelogmlaaDoor
open Go.RowKit Go.ChangeShapes Go.WideShapes Go.ChangeAt

set_option maxRecDepth 100000 in
set_option maxHeartbeats 8000000 in
theorem lifted (os : Os) (started : os.Started) (H : Type) (enc : TypeId × Value → H) :
    ReturnsInHanded {} Tryd.checked os 7 .any (fun w args => (Rows.partTwiceSpec.pre enc Tryd.prog Tryd.f7 [] false w args ∧ laidMetH Tryd.prog laidQ w) ∧ sizedMet enc Tryd.prog Tryd.f7 (OpenSpec.ofChange Rows.partTwiceSpec) false w args)
      (Rows.partTwiceSpec.post enc Tryd.prog Tryd.f7 false true false false) := by
  refine returnsInHanded_both (C := Tryd.checked) (X := fun w _ => laidMetH Tryd.prog laidQ w) (fun _ _ _ hh h => h.of_heap hh) own started (by kernel_rfl) Tryd.func7
    (ChangeSpec.witness_shaped (enc := enc) (C := Tryd.checked) (os := os) (X := fun w _ => laidMetH Tryd.prog laidQ w) false (World.laidAll Tryd.prog os laidQ) #[.slice none 0 0, .int .i64 0, .slice none 0 0] 8 (World.laidAll_os _ _ _) (World.shaped_of_ZipB (by kernel_rfl) (by kernel_rfl)) (by kernel_rfl) (by kernel_rfl) (by kernel_rfl) (by rw [MakeChecks.laidMetH_plain _ _ _ (by kernel_rfl)]; exact laidMet_laidAll _ (by kernel_rfl) (by kernel_rfl))) ?_
  intro W base args ds gs before hval0 hW hL _
  have hval : ∀ (j : Nat) t v, Tryd.f7.params[j]? = some t → args[j]? = some v → Value.okWide Tryd.prog W .any base t v := hval0
  have hW' := hW
  obtain ⟨p, q, hA0, hV, rfl, hfz, hnd⟩ := hW
  have hA : DataW.TrodAll enc Tryd.prog W 0 (fun _ => true) true Tryd.f7.params.toList args.toList ds p := hA0
  rw [Tryd.params7] at hA hval
  obtain ⟨v0, vs0, d0, ds0, p0, q0, hargs, rfl, rfl, h0, r0⟩ := trodAll_cons hA
  obtain ⟨v1, vs1, d1, ds1, p1, q1, rfl, rfl, rfl, h1, r1⟩ := trodAll_cons r0
  obtain ⟨v2, vs2, d2, ds2, p2, q2, rfl, rfl, rfl, h2, r2⟩ := trodAll_cons r1
  obtain ⟨rfl, rfl, rfl⟩ := trodAll_nil r2
  obtain rfl : args = #[v0, v1, v2] := by cases args; simp_all
  obtain ⟨rfl, rfl⟩ := trodVars_none hV
  obtain ⟨a0, len0, cap0, rfl⟩ := okWide_slice Tryd.underlying22 (hval 0 22 v0 rfl rfl)
  have k0 := h0
  have lt0 : ∀ x ∈ p0, x.block < W.heap.size := by obtain ⟨m, hm⟩ := k0; exact DataW.trod_lt m _ _ _ hm
  obtain ⟨l0, rfl, w0⟩ := arg_of h0
  obtain ⟨a1, rfl, rfl, rfl, w1⟩ := open_int Tryd.underlying3 (hval 1 3 v1 rfl rfl) h1
  have hb1 := bounds_i64 w1
  obtain ⟨a2, len2, cap2, rfl⟩ := okWide_slice Tryd.underlying55 (hval 2 55 v2 rfl rfl)
  have k2 := h2
  have lt2 : ∀ x ∈ p2, x.block < W.heap.size := by obtain ⟨m, hm⟩ := k2; exact DataW.trod_lt m _ _ _ hm
  obtain ⟨bs2, hn2, hbs2⟩ := bools_of h2
  clear hA0 hval0
  have htab := tabs_of_q hL
  obtain ⟨ps, hsent⟩ := sents_of_q hL
  refine (partTwice_walk W ps hsent htab a1 hb1.1 hb1.2 a0 cap0 _ l0 w0 rfl a2 cap2 _ bs2 hbs2 hn2).mono fun e W' ⟨he, bel⟩ => ?_
  subst he
  exact ⟨_, rfl, _, _, _, [], _, [], hW', trodAll_mk1 (shut_bool Tryd.underlying4 _), (trodAll_cons_mk (Below.trod laidOut (by kernel_rfl) (of_decide_eq_true (by kernel_rfl)) k0 bel lt0) (trodAll_cons_mk (shut_int Tryd.underlying3 w1) (trodAll_cons_mk (Below.trod laidOut (by kernel_rfl) (of_decide_eq_true (by kernel_rfl)) k2 bel lt2) trodAll_mk0))), rfl, bel.frame _, fun h => by cases h⟩

theorem row : Rows.PartTwiceSaid :=
  OpenClaim.holds_of_wide 7 Tryd.f7 rfl rfl rfl rfl rfl rfl rfl ⟨rfl, rfl, rfl, rfl, rfl⟩ rfl rfl rfl rfl rfl (by kernel_rfl) Tryd.func7 (by kernel_rfl)
    (of_decide_eq_true (by kernel_rfl)) (by unfold Func.isWrapper; first | (rw [if_pos (by decide +kernel)]; kernel_rfl) | (rw [if_neg (by decide +kernel)]; exact ⟨rfl, rfl⟩))
    (fun os started H enc _ => lifted os started H enc)

theorem proved : Rows.PartTwiceCardSaid :=
  Claim7.holds_tied_plain_at .later [] _ true _ true
    row (fun _ h => by cases h) (by kernel_rfl) (fun _ h => by cases h) partTwice_row_tie rfl ⟨rfl, rfl⟩ (by kernel_rfl) rfl
    (fun f fn hf hfn => by
      obtain rfl : f = 7 := Option.some.inj ((show Tryd.prog.funcNamed "cordwood/cordwoodlaw13.PartTwice" = some 7 by kernel_rfl).symm.trans hf) |>.symm
      obtain rfl : fn = Tryd.f7 := (Option.some.inj (Tryd.func7.symm.trans hfn)).symm
      exact ⟨by kernel_rfl, fun j t ht => by
        rw [Tryd.params7] at ht
        have hm : t ∈ [22, 3, 55] := by simpa using Array.mem_of_getElem? ht
        have hall : ([22, 3, 55].all fun u => !Tryd.prog.wantsStandIn u) = true := by kernel_rfl
        exact (show Tryd.prog.wantsStandIn t = false by simpa using List.all_eq_true.1 hall t hm)⟩)
    (by kernel_rfl)
end Go.Proofs.YtegaahcelogmlaaDoor.PartTwiceLaw
