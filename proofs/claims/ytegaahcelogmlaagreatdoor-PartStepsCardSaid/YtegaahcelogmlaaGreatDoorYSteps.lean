/-
  PartSteps, walked.
  PartSteps, proved.
-/
import Derived.Test.YtegaahcelogmlaaGreatDoorPaL
import Derived.Test.YtegaahcelogmlaaGreatDoorPaJ
import Derived.Test.YtegaahcelogmlaaGreatDoorR2
import Derived.Test.YtegaahcelogmlaaGreatDoorT2
namespace Go.Proofs.YtegaahcelogmlaaGreatDoor
open Go.RowKit Go.Maps

set_option maxRecDepth 100000 in
/-- A number that is not in a row. -/
theorem among_not (A : Option Addr) (c n : Nat) (l : List Int) (z : Int) (w : World) (hl : IntsArg w A c l) (hn : l.length = n) (hz : z ∉ l) :
    Calls Tryz.prog 14 #[.slice A n c, .int .i64 z] w fun e w' => e = .returned (.bool false) ∧ w' = w := by
  have HL := hide hl
  have HN := hide hn
  have HZ := hide hz
  have hle := hl.le
  have hmx := hl.max
  rw [hn] at hle
  clear hl hn hz
  go_enter Tryz.func14, Tryz.ntmps14
  go_wp2_with fail
  go_loopw [5] (fun i wr => ∃ k : Nat, k ≤ n ∧ i = .int .i64 (k : Int) ∧ wr = w) (fun i _ => n - (intOf i).toNat)
  case atStart => exact ⟨0, Nat.zero_le _, rfl, rfl⟩
  case round =>
    obtain ⟨k, hk, rfl, rfl⟩ := hrel
    by_cases hlt : k < n
    · obtain ⟨g, off, rfl, hc⟩ := HL.out.get k (by rw [HN.out]; exact hlt)
      have hx : (l.getD k 0 == z) = false := by
        have : l.getD k 0 ∈ l := by
          rw [List.getD, List.getElem?_eq_getElem (by rw [HN.out]; exact hlt), Option.getD_some]
          exact List.getElem_mem _
        simp only [beq_eq_false_iff_ne, ne_eq]
        exact fun e => HZ.out (e ▸ this)
      generalize l.getD k 0 = x at *
      have wk : IntKind.i64.wrap ((k : Int) + 1) = (k : Int) + 1 := IntWalk.i64_in _ (by omega)
      go_wp2_with fail
      exact ⟨⟨k + 1, by omega, by push_cast; rfl, by first | rfl | trivial⟩, by simp [intOf]; omega⟩
    · obtain rfl : k = n := by omega
      go_wp2_with fail
      go_ret
      exact ⟨rfl, by first | rfl | trivial⟩
theorem CaS.id_le {w0 w : World} {S D : Nat → Prop} {sb cb t n : Nat} {a : Int} {s : St.S} (h : CaS w0 S D sb cb t a s n w) {i : Int} (hi : s.ups i ≠ none) : 1 ≤ i ∧ i ≤ n := by
  obtain ⟨_, _, _, _, _, _, hl⟩ := h.st.st
  obtain ⟨u, hu⟩ := Option.ne_none_iff_exists'.1 hi
  have h1 := hl.parts i u hu
  have h2 := hl.last
  omega

set_option maxRecDepth 100000 in
set_option maxHeartbeats 4000000 in
theorem partSteps_walk (w : World) (p : Nat → Addr) (hs : Sents w p) (ht : Tabs w) (n0 : Int) (h01 : -9223372036854775808 ≤ n0) (h02 : n0 ≤ 9223372036854775807) (A : Option Addr) (c L : Nat) (b : List UInt8) (ha : Arg w A c b) (hL : b.length = L) (A2 : Option Addr) (c2 n2 : Nat) (zs : List Int) (hz : IntsArg w A2 c2 zs) (hn2 : zs.length = n2) :
    Calls Tryz.prog 3 #[.slice A L c, .int .i64 n0, .slice A2 n2 c2] w fun x w' => x = .returned (.bool true) ∧ Below w.heap.size w w' := by
  have HF := hide (paFirst_any w ht)
  have HS := hide (fun (W : World) (hW : Below w.heap.size w W) => hs.below hW)
  obtain ⟨e', he'⟩ : ∃ u, num n0 60 = u := ⟨_, rfl⟩
  have hel : e' < 60 := he' ▸ num_lt n0 60 (by omega)
  have HE' := hide he'
  clear he'
  obtain ⟨e, he⟩ : ∃ e, e = e' + 1 := ⟨_, rfl⟩
  have we : IntKind.i64.wrap ((e' : Int) + 1) = (e : Int) := by rw [IntWalk.i64_in _ (by omega)]; omega
  by_cases hle : L ≤ 200 ∧ n2 ≤ 30
  · obtain ⟨hle, hn30⟩ := hle
    have hnc : ¬ ((200 : Int) < (L : Int)) := by omega
    have hnd : ¬ ((30 : Int) < (n2 : Int)) := by omega
    have hcl : St.cnt L e ≤ 200 := Nat.le_trans (St.cnt_le L e (by omega)) hle
    have HMK := hide (fun (W : World) (hW : Below w.heap.size w W) => paMake_any [111] o_valid A c L b e W (ha.below hW (Nat.le_refl _)) hL (by omega) (by omega) (by omega) (ht.below hW (Nat.le_refl _)))
    have HSS := hide (fun (W : World) (hW : Below w.heap.size w W) (A' : Option Addr) (c' : Nat) (h' : Reads W A' b) => sameBytes_same A' A c' c L b hL (by omega) h' ((ha.below hW (Nat.le_refl _)).reads))
    have HST := hide (fun (W : World) (S D : Nat → Prop) (sb cb n : Nat) (a : Int) (s : St.S) (h : CaS w S D sb cb 2 a s n W) (hn : n ≤ 700000) (id : Int) (hid : -9223372036854775808 ≤ id ∧ id ≤ 9223372036854775807) (done : Nat) (hd : done ≤ St.cnt L e) (hf : St.Few b id s) (N : St.Nx) (hN : N = St.nxt 2 [111] b e s id done) => paStep_at (E := fun j => j < 19) (nm := [111]) hs ht ha hL (by omega) (by omega) (by decide) (by omega) (by omega) h hn id hid done hd hf N hN)
    have hP := fun s id done h N hN => St.nxt_inv (nm := [111]) (b := b) (e := e) (by omega) (by rw [hL]; omega) o_valid 2 (by omega) s id done h N hN
    have hSB := fun i id done s (h : St.Soon b e i id done s) => h.bound
    have hIV := fun id done s (h : St.InvU [111] b e id done s) => h.is
    rw [hL] at hP hSB hIV
    have HP := hide hP
    have HSB := hide hSB
    have HIV := hide hIV
    have HTT := hide (show 1 ≤ 2 ∧ 2 ≤ 8 by omega)
    have HLL := hide hL
    have HZ := hide (fun (W : World) (hW : Below w.heap.size w W) => hz.below hW (Nat.le_refl _))
    have HN2 := hide hn2
    clear hP hSB hIV hs ht ha hL he hz hn2
    generalize St.cnt L e = m at *
    generalize U (Crc.sum b) = sm at *
    go_enter Tryz.func3, Tryz.ntmps3
    go_upto_region 10 with (first
      | (go_at_call 4; refine HF.out.mono ?_; rintro x w1 ⟨rfl, hb⟩; have HB1 := hide hb; clear hb)
      | (go_at_call 5; refine (num_at n0 60 60 w1 (by omega) (by omega) (by omega) h01 h02).mono ?_; rintro x w1' ⟨rfl, rfl⟩; rw [HE'.out])
      | (go_at_call 6; refine (stNew_any w w1 HB1.out).mono ?_; rintro x w2 ⟨sb, S0, rfl, h, -, -⟩; have H2 := hide h; clear h)
      | (go_at_call 7; refine (caNew_any H2.out 2 HTT.out 2 rfl).mono ?_; rintro x w3 ⟨rfl, h, -⟩; have H3 := hide h; clear h H2; generalize w2.heap.size = cb at *)
      | (go_at_call 8; refine (HMK.out _ H3.out.st.below).mono ?_; rintro x w4 ⟨rfl, hb⟩; have H4 := hide (H3.out.grow hb); clear hb H3)
      | fail)
    obtain ⟨h5, hpb⟩ := H4.out.plan (planC [111] L sm e m)
    have H5 := hide h5
    have HPB := hide hpb
    clear h5 hpb
    change Code.wp _ _ _ _ (w4.alloc (.cells (planC [111] L sm e m) 35))
    generalize w4.alloc (.cells (planC [111] L sm e m) 35) = w5 at *
    generalize w4.heap.size = Bp at *
    go_wp2_with (first
      | (go_at_call 9; refine (StS.script H5.out.st A2 c2 n2 zs (HZ.out _ H5.out.st.below) HN2.out (by show 0 + n2 ≤ 1000000; omega)).mono ?_; rintro x w6 ⟨rfl, S6, h, hg⟩; have H6 := hide (H5.out.other h hg (Nat.le_refl _)); have HB6 := hide (HPB.out.stGo hg); clear h hg)
      | fail)
    go_loopw [13, 14, 15, 16] (fun id dn ov i wr => ∃ (j : Nat) (S D : Nat → Prop) (a : Int) (s : St.S) (z : Int) (d : Nat) (o : Bool), j ≤ 400 ∧ 0 ≤ z ∧ z ≤ 10000 ∧ d ≤ m ∧ id = .int .i64 z ∧ dn = .int .i64 (d : Int) ∧ ov = .bool o ∧ i = .int .i64 (j : Int) ∧ CaS w S D sb cb 2 a s (4 * j) wr ∧ Pb S cb Bp (planC [111] L sm e m) wr ∧ ((o = false ∧ St.InvU [111] b e z d s ∧ St.Soon b e j z d s) ∨ (o = true ∧ St.Fin [111] b z s))) (fun _ _ _ i _ => 400 - (intOf i).toNat)
    case atStart => exact ⟨0, _, _, _, _, 0, 0, false, by omega, by omega, by omega, Nat.zero_le _, rfl, rfl, rfl, rfl, H6.out, HB6.out, .inl ⟨rfl, ⟨Int.le_refl _, .inl ⟨rfl, rfl⟩⟩, St.Soon.start (by show (([] : List Int) ++ zs).length ≤ 30; rw [List.nil_append, HN2.out]; exact hn30)⟩⟩
    case round =>
      obtain ⟨j, S, D, a, s, z, d, o, hj, hz0, hz1, hd, rfl, rfl, rfl, rfl, hc, hb, hst⟩ := hrel
      obtain ⟨c0, c1, c2', c3, c4⟩ := hb.cells
      have HC := hide hc
      have HB := hide hb
      clear hc hb
      rcases hst with ⟨rfl, hiv, hso⟩ | ⟨rfl, hfin⟩
      · have hjb := HSB.out _ _ _ _ hso
        have hlt : (j : Int) < 400 := by omega
        have wj : IntKind.i64.wrap ((j : Int) + 1) = (j : Int) + 1 := IntWalk.i64_in _ (by omega)
        obtain ⟨N, hN⟩ : ∃ N, N = St.nxt 2 [111] b e s z d := ⟨_, rfl⟩
        have hfew : St.Few b z s := by
          rcases hiv.is with h | h | h
          · rw [h.1]; intro u hu
            have := (HC.out.id_le (i := 0) (by rw [hu]; simp)).1
            omega
          · exact h.2.2.few
          · exact h.2.2.few
        have HSTP := hide (HST.out _ _ _ _ _ _ _ _ HC.out (by omega) z (by omega) d hd hfew N hN)
        rcases HP.out s z d hiv N hN with ⟨q1, q2, q3, q4⟩ | ⟨q1, q2, q3, q4, q5⟩ | ⟨q1, q2, q3, q4, q5, q6, q7⟩
        · obtain ⟨z1, z2, z3, z4⟩ := St.Nx.bad q1 (by omega) z d
          rw [z1, z2, z3, z4] at HSTP
          have HI := hide q2
          have HSO := hide (hso.bad q3 q4)
          have k2 := eql_nil (p 10)
          have k3 := fun W => neq_nilD (p 10) W
          clear hN q1 q2 q3 q4 z1 z2 z3 z4 hiv hso hfew
          have b1 : (z != z) = false := by simp
          have b2 : ((d : Int) != (d : Int)) = false := by simp
          have HI4 := hide (fun (W : World) (hW : Below w.heap.size w W) => is_sent W p (HS.out W hW) 10 (by omega) 111)
          unfold errR errV at *
          go_wp2_with (first
            | (go_at_call 10; refine HSTP.out.mono ?_; rintro x w7 ⟨rfl, a', S', D', h1, h2⟩; have H7 := hide h1; have HB7 := hide (HB.out.go h2); clear h1 h2)
            | (go_at_call 11; refine (HI4.out _ H7.out.st.below).mono ?_; rintro x w8 ⟨rfl, hb⟩; have H8 := hide (H7.out.grow hb); have HB8 := hide (HB7.out.below hb); clear hb)
            | fail)
          exact ⟨⟨j + 1, S', D', a', N.st, z, d, false, by omega, hz0, hz1, hd, rfl, rfl, rfl, by push_cast; rfl, H8.out.mono (by omega), HB8.out, .inl ⟨rfl, HI.out, HSO.out⟩⟩, by simp [intOf]; omega⟩
        · have hO : N.tO = false ∧ N.tE = none := by
            rcases q1 with ⟨h1, h2⟩ | h1
            · obtain ⟨-, -, z3, z4⟩ := St.Nx.fine h1 z d
              exact ⟨z3.trans h2, z4⟩
            · obtain ⟨-, -, z3, z4⟩ := St.Nx.gone h1 z d
              exact ⟨z3, z4⟩
          rw [hO.1, hO.2] at HSTP
          have hso2 := hso.good q3 q4
          have hiv2 := HIV.out _ _ _ q2
          obtain ⟨z', hz'⟩ : ∃ z', z' = N.tA z := ⟨_, rfl⟩
          obtain ⟨d', hd'⟩ : ∃ d', d' = N.tB d := ⟨_, rfl⟩
          rw [← hz', ← hd'] at HSTP hso2 hiv2 q2
          rw [← hz', ← hd'] at q5
          obtain ⟨q5, q6⟩ := q5
          have hdl : d' ≤ m := by rcases hiv2 with h | h | h <;> omega
          have HI := hide q2
          have HSO := hide hso2
          have HQ6 := hide q6
          have HBD : Hid (∀ (S' D' : Nat → Prop) (a' : Int) (W : World), CaS w S' D' sb cb 2 a' N.st (4 * j + 2 + 2) W → 0 ≤ z' ∧ z' ≤ 10000) := hide (fun S' D' a' W h => by
            rcases q6 with h6 | h6 | h6
            · omega
            · omega
            · have := h.id_le h6; omega)
          clear hN q1 q2 q3 q4 q6 hiv hso hfew hO hso2 hiv2 hz' hd'
          unfold errR at HSTP
          by_cases hzz : z' = z
          · by_cases hz00 : z = 0
            · subst hzz hz00
              go_wp2_with (first
                | (go_at_call 10; refine HSTP.out.mono ?_; rintro x w7 ⟨rfl, a', S', D', h1, h2⟩; have HZZ := hide (HBD.out _ _ _ _ h1); have H7 := hide h1; have HB7 := hide (HB.out.go h2); clear h1 h2)
                | fail)
              all_goals (first | (exact ⟨⟨j + 1, S', D', a', N.st, _, d', false, by omega, HZZ.out.1, HZZ.out.2, by omega, rfl, rfl, rfl, by push_cast; rfl, H7.out.mono (by omega), HB7.out, .inl ⟨rfl, HI.out, HSO.out⟩⟩, by simp [intOf]; omega⟩) | (exact ⟨⟨j + 1, S', D', a', N.st, _, d', false, by omega, HZZ.out.1, HZZ.out.2, by omega, rfl, by congr 1; omega, rfl, by push_cast; rfl, H7.out.mono (by omega), HB7.out, .inl ⟨rfl, HI.out, HSO.out⟩⟩, by simp [intOf]; omega⟩) | (exact ⟨⟨j + 1, S', D', a', N.st, _, d + 1, false, by omega, HZZ.out.1, HZZ.out.2, by omega, rfl, by push_cast; rfl, rfl, by push_cast; rfl, H7.out.mono (by omega), HB7.out, .inl ⟨rfl, HI.out, HSO.out⟩⟩, by simp [intOf]; omega⟩))
            · have hq := q5 hz00 hzz
              subst hzz hq
              have b3 : ((z' : Int) == z') = true := by simp
              have b4 : (((d + 1 : Nat) : Int) != (d : Int) + 1) = false := by simp
              have b5 : ((d : Int) + 1 != (d : Int) + 1) = false := by simp
              have wd : IntKind.i64.wrap ((d : Int) + 1) = (d : Int) + 1 := IntWalk.i64_in _ (by omega)
              go_wp2_with (first
                | (go_at_call 10; refine HSTP.out.mono ?_; rintro x w7 ⟨rfl, a', S', D', h1, h2⟩; have HZZ := hide (HBD.out _ _ _ _ h1); have H7 := hide h1; have HB7 := hide (HB.out.go h2); clear h1 h2)
                | fail)
              all_goals (first | (exact ⟨⟨j + 1, S', D', a', N.st, _, d', false, by omega, HZZ.out.1, HZZ.out.2, by omega, rfl, rfl, rfl, by push_cast; rfl, H7.out.mono (by omega), HB7.out, .inl ⟨rfl, HI.out, HSO.out⟩⟩, by simp [intOf]; omega⟩) | (exact ⟨⟨j + 1, S', D', a', N.st, _, d', false, by omega, HZZ.out.1, HZZ.out.2, by omega, rfl, by congr 1; omega, rfl, by push_cast; rfl, H7.out.mono (by omega), HB7.out, .inl ⟨rfl, HI.out, HSO.out⟩⟩, by simp [intOf]; omega⟩) | (exact ⟨⟨j + 1, S', D', a', N.st, _, d + 1, false, by omega, HZZ.out.1, HZZ.out.2, by omega, rfl, by push_cast; rfl, rfl, by push_cast; rfl, H7.out.mono (by omega), HB7.out, .inl ⟨rfl, HI.out, HSO.out⟩⟩, by simp [intOf]; omega⟩))
          · have b3 : ((z' : Int) == z) = false := by simpa using hzz
            clear q5
            go_wp2_with (first
              | (go_at_call 10; refine HSTP.out.mono ?_; rintro x w7 ⟨rfl, a', S', D', h1, h2⟩; have HZZ := hide (HBD.out _ _ _ _ h1); have H7 := hide h1; have HB7 := hide (HB.out.go h2); clear h1 h2)
              | fail)
            all_goals (first | (exact ⟨⟨j + 1, S', D', a', N.st, _, d', false, by omega, HZZ.out.1, HZZ.out.2, by omega, rfl, rfl, rfl, by push_cast; rfl, H7.out.mono (by omega), HB7.out, .inl ⟨rfl, HI.out, HSO.out⟩⟩, by simp [intOf]; omega⟩) | (exact ⟨⟨j + 1, S', D', a', N.st, _, d', false, by omega, HZZ.out.1, HZZ.out.2, by omega, rfl, by congr 1; omega, rfl, by push_cast; rfl, H7.out.mono (by omega), HB7.out, .inl ⟨rfl, HI.out, HSO.out⟩⟩, by simp [intOf]; omega⟩) | (exact ⟨⟨j + 1, S', D', a', N.st, _, d + 1, false, by omega, HZZ.out.1, HZZ.out.2, by omega, rfl, by push_cast; rfl, rfl, by push_cast; rfl, H7.out.mono (by omega), HB7.out, .inl ⟨rfl, HI.out, HSO.out⟩⟩, by simp [intOf]; omega⟩))
        · obtain ⟨z1, z2, z3, z4⟩ := St.Nx.fine q1 z d
          rw [z1, z2, z3, z4, q2, q3, q4] at HSTP
          have HFI := hide q7
          subst q5
          clear hN q1 q2 q3 q4 q7 z1 z2 z3 z4 hiv hso hfew
          have b1 : (z != z) = false := by simp
          have b2 : ((d : Int) != (d : Int)) = false := by simp
          unfold errR at HSTP
          go_wp2_with (first
            | (go_at_call 10; refine HSTP.out.mono ?_; rintro x w7 ⟨rfl, a', S', D', h1, h2⟩; have H7 := hide h1; have hb7 := HB.out.go h2; obtain ⟨e0, e1, e2, e3, e4⟩ := hb7.cells; have HB7 := hide hb7; clear h1 h2 hb7)
            | fail)
          exact ⟨⟨j + 1, S', D', a', N.st, z, d, true, by omega, hz0, hz1, Nat.le_refl _, rfl, rfl, rfl, by push_cast; rfl, H7.out.mono (by omega), HB7.out, .inr ⟨rfl, HFI.out⟩⟩, by simp [intOf]; omega⟩
      · have HOB := hide hfin.2
        have HUP := hide hfin.1
        clear hfin
        go_wp2_with (first
          | (go_at_call 12; refine (StS.bytes HC.out.st [111] (by simp)).mono ?_; rintro x w7 ⟨v, rfl, ho, hb⟩; have H7 := hide (HC.out.grow hb); rw [HOB.out] at ho ⊢; obtain ⟨A6, c6, rfl, ha6⟩ := own_n (n := L) ho HLL.out; have HA6 := hide ha6; clear ho hb ha6; simp only [Option.isSome_some])
          | (go_at_call 13; refine (HSS.out _ H7.out.st.below A6 c6 HA6.out.reads).mono ?_; rintro x w8 ⟨rfl, hw⟩; have H8 := hide (H7.out.grow (below_drew_c hw)); clear hw)
          | (go_at_call 15; refine (StS.openOf H8.out.st (by omega)).mono ?_; rintro x w9 ⟨v, l, rfl, hl, ho, hb⟩; obtain ⟨A7, c7, rfl, ha7⟩ := own_z (n := l.length) ho rfl (fun x hx => by have := H8.out.id_le ((hl.2 x).1 hx); omega); have hzl : z ∉ l := fun hx => (hl.2 z).1 hx HUP.out; have HA7 := hide ha7; have HZL := hide hzl; have H9 := hide (H8.out.grow hb); clear ho hb ha7 hl hzl)
          | (go_at_call 14; refine (among_not A7 c7 _ l z w9 HA7.out rfl HZL.out).mono ?_; rintro x w10 ⟨rfl, rfl⟩)
          | fail)
        all_goals (go_ret; exact ⟨rfl, H9.out.st.below⟩)
  · clear hs ht ha hL hz
    by_cases h2 : 200 < L
    · have hnc : (200 : Int) < (L : Int) := by omega
      clear hle
      go_enter Tryz.func3, Tryz.ntmps3
      go_wp2_with (first
        | (go_at_call 4; refine HF.out.mono ?_; rintro x w1 ⟨rfl, hb⟩; have HB1 := hide hb; clear hb)
        | (go_at_call 5; refine (num_at n0 60 60 w1 (by omega) (by omega) (by omega) h01 h02).mono ?_; rintro x w1' ⟨rfl, rfl⟩; rw [HE'.out])
        | fail)
      go_ret
      exact ⟨rfl, HB1.out⟩
    · have hnc : ¬ ((200 : Int) < (L : Int)) := by omega
      have hnd : (30 : Int) < (n2 : Int) := by omega
      clear hle
      go_enter Tryz.func3, Tryz.ntmps3
      go_wp2_with (first
        | (go_at_call 4; refine HF.out.mono ?_; rintro x w1 ⟨rfl, hb⟩; have HB1 := hide hb; clear hb)
        | (go_at_call 5; refine (num_at n0 60 60 w1 (by omega) (by omega) (by omega) h01 h02).mono ?_; rintro x w1' ⟨rfl, rfl⟩; rw [HE'.out])
        | fail)
      go_ret
      exact ⟨rfl, HB1.out⟩
end Go.Proofs.YtegaahcelogmlaaGreatDoor

namespace Go.Proofs.YtegaahcelogmlaaGreatDoor.PartStepsLaw
open Go.Proofs.YtegaahcelogmlaaGreatDoor
open Go.RowKit Go.ChangeShapes Go.WideShapes Go.ChangeAt

set_option maxRecDepth 100000 in
set_option maxHeartbeats 8000000 in
theorem lifted (os : Os) (started : os.Started) (H : Type) (enc : TypeId × Value → H) :
    ReturnsInHanded {} Tryz.checked os 3 .any (fun w args => (Rows.partStepsSpec.pre enc Tryz.prog Tryz.f3 [] false w args ∧ laidMetH Tryz.prog laidN w) ∧ sizedMet enc Tryz.prog Tryz.f3 (OpenSpec.ofChange Rows.partStepsSpec) false w args)
      (Rows.partStepsSpec.post enc Tryz.prog Tryz.f3 false true false false) := by
  refine returnsInHanded_both (C := Tryz.checked) (X := fun w _ => laidMetH Tryz.prog laidN w) (fun _ _ _ hh h => h.of_heap hh) own started (by kernel_rfl) Tryz.func3
    (ChangeSpec.witness_shaped (enc := enc) (C := Tryz.checked) (os := os) (X := fun w _ => laidMetH Tryz.prog laidN w) false (World.laidAll Tryz.prog os laidN) #[.slice none 0 0, .int .i64 0, .slice none 0 0] 8 (World.laidAll_os _ _ _) (World.shaped_of_ZipB (by kernel_rfl) (by kernel_rfl)) (by kernel_rfl) (by kernel_rfl) (by kernel_rfl) (by rw [MakeChecks.laidMetH_plain _ _ _ (by kernel_rfl)]; exact laidMet_laidAll _ (by kernel_rfl) (by kernel_rfl))) ?_
  intro W base args ds gs before hval0 hW hL _
  have hval : ∀ (j : Nat) t v, Tryz.f3.params[j]? = some t → args[j]? = some v → Value.okWide Tryz.prog W .any base t v := hval0
  have hW' := hW
  obtain ⟨p, q, hA0, hV, rfl, hfz, hnd⟩ := hW
  have hA : DataW.TrodAll enc Tryz.prog W 0 (fun _ => true) true Tryz.f3.params.toList args.toList ds p := hA0
  rw [Tryz.params3] at hA hval
  obtain ⟨v0, vs0, d0, ds0, p0, q0, hargs, rfl, rfl, h0, r0⟩ := trodAll_cons hA
  obtain ⟨v1, vs1, d1, ds1, p1, q1, rfl, rfl, rfl, h1, r1⟩ := trodAll_cons r0
  obtain ⟨v2, vs2, d2, ds2, p2, q2, rfl, rfl, rfl, h2, r2⟩ := trodAll_cons r1
  obtain ⟨rfl, rfl, rfl⟩ := trodAll_nil r2
  obtain rfl : args = #[v0, v1, v2] := by cases args; simp_all
  obtain ⟨rfl, rfl⟩ := trodVars_none hV
  obtain ⟨a0, len0, cap0, rfl⟩ := okWide_slice Tryz.underlying22 (hval 0 22 v0 rfl rfl)
  have k0 := h0
  have lt0 : ∀ x ∈ p0, x.block < W.heap.size := by obtain ⟨m, hm⟩ := k0; exact DataW.trod_lt m _ _ _ hm
  obtain ⟨l0, rfl, w0⟩ := arg_of h0
  obtain ⟨a1, rfl, rfl, rfl, w1⟩ := open_int Tryz.underlying3 (hval 1 3 v1 rfl rfl) h1
  have hb1 := bounds_i64 w1
  obtain ⟨a2, len2, cap2, rfl⟩ := okWide_slice Tryz.underlying23 (hval 2 23 v2 rfl rfl)
  have k2 := h2
  have lt2 : ∀ x ∈ p2, x.block < W.heap.size := by obtain ⟨m, hm⟩ := k2; exact DataW.trod_lt m _ _ _ hm
  obtain ⟨zs2, rfl, le2, mx2, w2, z2⟩ := ints_of h2
  clear hA0 hval0
  have htab := tabs_of_n hL
  obtain ⟨ps, hsent⟩ := sents_of_n hL
  refine (partSteps_walk W ps hsent htab a1 hb1.1 hb1.2 a0 cap0 _ l0 w0 rfl a2 cap2 _ zs2 (intsArg_of le2 mx2 w2 z2 (intsCap_of h2)) rfl).mono fun e W' ⟨he, bel⟩ => ?_
  subst he
  exact ⟨_, rfl, _, _, _, [], _, [], hW', trodAll_mk1 (shut_bool Tryz.underlying4 _), (trodAll_cons_mk (Below.trod laidOut (by kernel_rfl) (of_decide_eq_true (by kernel_rfl)) k0 bel lt0) (trodAll_cons_mk (shut_int Tryz.underlying3 w1) (trodAll_cons_mk (Below.trod laidOut (by kernel_rfl) (of_decide_eq_true (by kernel_rfl)) k2 bel lt2) trodAll_mk0))), rfl, bel.frame _, fun h => by cases h⟩

theorem row : Rows.PartStepsSaid :=
  OpenClaim.holds_of_wide 3 Tryz.f3 rfl rfl rfl rfl rfl rfl rfl ⟨rfl, rfl, rfl, rfl, rfl⟩ rfl rfl rfl rfl rfl (by kernel_rfl) Tryz.func3 (by kernel_rfl)
    (of_decide_eq_true (by kernel_rfl)) (by unfold Func.isWrapper; first | (rw [if_pos (by decide +kernel)]; kernel_rfl) | (rw [if_neg (by decide +kernel)]; exact ⟨rfl, rfl⟩))
    (fun os started H enc _ => lifted os started H enc)

theorem proved : Rows.PartStepsCardSaid :=
  Claim7.holds_tied_plain_at .later [] _ true _ true
    row (fun _ h => by cases h) (by kernel_rfl) (fun _ h => by cases h) partSteps_row_tie rfl ⟨rfl, rfl⟩ (by kernel_rfl) rfl
    (fun f fn hf hfn => by
      obtain rfl : f = 3 := Option.some.inj ((show Tryz.prog.funcNamed "cordwood/cordwoodlaw13.PartSteps" = some 3 by kernel_rfl).symm.trans hf) |>.symm
      obtain rfl : fn = Tryz.f3 := (Option.some.inj (Tryz.func3.symm.trans hfn)).symm
      exact ⟨by kernel_rfl, fun j t ht => by
        rw [Tryz.params3] at ht
        have hm : t ∈ [22, 3, 23] := by simpa using Array.mem_of_getElem? ht
        have hall : ([22, 3, 23].all fun u => !Tryz.prog.wantsStandIn u) = true := by kernel_rfl
        exact (show Tryz.prog.wantsStandIn t = false by simpa using List.all_eq_true.1 hall t hm)⟩)
    (by kernel_rfl)
end Go.Proofs.YtegaahcelogmlaaGreatDoor.PartStepsLaw
