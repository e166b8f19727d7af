/-
  StoreRanges, walked.
  StoreRanges, proved.
-/
import Derived.Test.YtipmmmmobopbmaaDoorT7
import Derived.Test.YtipmmmmobopbmaaDoorT6
namespace Go.Proofs.YtipmmmmobopbmaaDoor.St

/-- A store without a script, that has b at x and nothing at y. -/
structure AtR (b : List UInt8) (s : S) : Prop where
  script : s.script = []
  x : s.objs [120] = some b
  y : s.objs [121] = none
theorem ask_plain {α : Type} (s : S) (h : s.script = []) (z : α) (f : S → (α × Option Nat) × S) : s.ask z f = f s.took := by
  have ho : s.out = 0 := by simp [S.out, h]
  unfold S.ask
  rw [ho, if_neg (by omega), if_neg (by omega)]
theorem AtR.took {b : List UInt8} {s : S} (h : AtR b s) : AtR b s.took := ⟨by simp [S.took, h.script], h.x, h.y⟩
theorem put_r (b : List UInt8) : (S.new.put [120] b).1.2 = none ∧ AtR b (S.new.put [120] b).2 := by
  have hv : Dk.valid [120] = true := by decide
  have e : S.new.put [120] b = S.putF [120] b S.new.took := ask_plain _ rfl _ _
  rw [e]
  unfold S.putF
  rw [if_pos hv]
  exact ⟨rfl, ⟨rfl, by simp [upd], by simp [upd, S.took, S.new]⟩⟩
theorem AtR.get {b : List UInt8} {s : S} (h : AtR b s) (off n : Int) : (s.get [120] off n).1 = (if off < 0 ∨ n < 0 ∨ (b.length : Int) - off < n then ([], some 4) else ((b.drop off.toNat).take n.toNat, none)) ∧ AtR b (s.get [120] off n).2 := by
  have e : s.get [120] off n = S.getF [120] off n s.took := ask_plain _ h.script _ _
  rw [e]
  unfold S.getF
  rw [h.took.x]
  simp only
  split <;> exact ⟨rfl, h.took⟩
theorem AtR.getAll {b : List UInt8} {s : S} (h : AtR b s) (L : Nat) (hL : b.length = L) : (s.get [120] 0 (L : Int)).1 = (b, none) := by
  rw [(h.get 0 L).1, if_neg (by omega)]
  simp [← hL]
theorem AtR.getY {b : List UInt8} {s : S} (h : AtR b s) : (s.get [121] 0 0).1 = ([], some 6) ∧ AtR b (s.get [121] 0 0).2 := by
  have e : s.get [121] 0 0 = S.getF [121] 0 0 s.took := ask_plain _ h.script _ _
  rw [e]
  unfold S.getF
  rw [h.took.y]
  exact ⟨rfl, h.took⟩
theorem AtR.head {b : List UInt8} {s : S} (h : AtR b s) : (s.head [120]).1 = (b, none) ∧ AtR b (s.head [120]).2 := by
  have e : s.head [120] = S.headF [120] s.took := ask_plain _ h.script _ _
  rw [e]
  unfold S.headF
  rw [h.took.x]
  exact ⟨rfl, h.took⟩
theorem AtR.headY {b : List UInt8} {s : S} (h : AtR b s) : (s.head [121]).1 = ([], some 6) ∧ AtR b (s.head [121]).2 := by
  have e : s.head [121] = S.headF [121] s.took := ask_plain _ h.script _ _
  rw [e]
  unfold S.headF
  rw [h.took.y]
  exact ⟨rfl, h.took⟩
end Go.Proofs.YtipmmmmobopbmaaDoor.St
namespace Go.Proofs.YtipmmmmobopbmaaDoor
open Go.RowKit Go.Maps Crc

/-- A block that is not the store's is written. -/
theorem StS.set {w0 w : World} {S D : Nat → Prop} {sb n : Nat} {s : St.S} (h : StS w0 S D sb s n w) (b i : Nat) (v : Value) (hS : ¬ S b) (hD : ¬ D b) (h0 : w0.heap.size ≤ b) : StS w0 S D sb s n (w.setCell ⟨b, i, none⟩ v) :=
  ⟨h.st.kept (by simp) fun k hk _ => Below.heap_setCell _ _ _ _ (by show k ≠ b; rintro rfl; rcases hk with hk | hk; exact hS hk; exact hD hk), h.lo, h.below.setCell (p := ⟨b, i, none⟩) h0 v, h.calls, h.failed⟩

theorem below_drew_ex {w w' : World} (h : ∃ k, w' = w.drewN k) : Below w.heap.size w w' := by
  obtain ⟨q, rfl⟩ := h; exact below_drewN (Below.refl _ _) q
/-- The first byte of a row of the call's own. -/
theorem own_first {w : World} {base n c : Nat} {A : Option Addr} {l : List UInt8} (h : Own w base (.slice A n c) l) (hn : 0 < n) : ∃ g, A = some ⟨g, 0, none⟩ ∧ base ≤ g ∧ w.cell? ⟨g, 0, none⟩ = some (.int .u8 (B (l.getD 0 0))) ∧ w.frozen? ⟨g, 0, none⟩ = false := by
  rcases h.2 with ⟨e, _⟩ | ⟨g, cap, cur, e, hg, hh, _⟩
  · injection e with _ e _; omega
  · injection e with e1 e2 e3
    subst e1
    have hr := h.reads
    obtain ⟨A', c', e', hr, _⟩ := hr
    injection e' with e1 e2 e3
    subst e1
    refine ⟨g, rfl, hg, ?_, by simp [World.frozen?, hh]⟩
    rcases hr with rfl | ⟨b, off, e, _, hc⟩
    · simp at e2; omega
    · injection e with e; injection e with e1 e2' _; subst e1 e2'
      have := hc 0 (by omega)
      simpa using this

set_option maxRecDepth 100000 in
set_option maxHeartbeats 2000000 in
theorem ranges_walk (w : World) (p : Nat → Addr) (hs : Sents w p) (ht : Tabs w) (A : Option Addr) (cap L : Nat) (b : List UInt8) (ha : Arg w A cap b) (hL : b.length = L) (off n : Int) (hoff : -9223372036854775808 ≤ off ∧ off ≤ 9223372036854775807) (hn : -9223372036854775808 ≤ n ∧ n ≤ 9223372036854775807) :
    Calls Tryd.prog 6 #[.slice A L cap, .int .i64 off, .int .i64 n] w fun e w' => e = .returned (.bool true) ∧ Below w.heap.size w w' := by
  have HS := hide hs
  have HT := hide ht
  have HA := hide ha
  have HL := hide hL
  have HO := hide hoff
  have HN := hide hn
  have HF := hide (stFirst_any w p hs)
  clear hs ht ha hL
  by_cases hle : L ≤ 200
  · have HPUT := hide (St.put_r b)
    by_cases hpos : 0 < L
    · obtain ⟨xb, hxb⟩ : ∃ xb, bits .xor .u8 (B (b.getD 0 0)) 1 = B xb := ⟨b.getD 0 0 ^^^ 1, x8 (b.getD 0 0) 1⟩
      by_cases hbad : off < 0 ∨ n < 0 ∨ (L : Int) < off ∨ (L : Int) - off < n
      · have HG : Hid (∀ s : St.S, St.AtR b s → (s.get [120] off n).1 = ([], some 4)) := hide (fun s h => by rw [(h.get off n).1, if_pos (by have := HL.out; omega)])
        have hcase : (off < 0) ∨ (¬ off < 0 ∧ n < 0) ∨ (¬ off < 0 ∧ ¬ n < 0 ∧ (L : Int) < off) ∨ (¬ off < 0 ∧ ¬ n < 0 ∧ ¬ (L : Int) < off ∧ (L : Int) - off < n) := by omega
        clear hbad
        rcases hcase with h0 | ⟨h0, h1⟩ | ⟨h0, h1, h2⟩ | ⟨h0, h1, h2, h3⟩
        all_goals
          go_enter Tryd.func6, Tryd.ntmps6
          go_wp2_with (first
            | (go_at_call 16; refine (StS.bytes (HX.out _) [120] (by simp)).mono ?_; rintro e w11 ⟨v, rfl, ho, hb⟩; have H11 := hide ((HX.out _).grow hb); rw [HR9.out.x] at ho ⊢; simp only [Option.getD_some, Option.isSome_some] at ho ⊢; obtain ⟨A11, c11, rfl, ha11⟩ := own_n (n := L) ho HL.out; have HA11 := hide ha11; clear ho hb ha11 HX)
            | (go_at_call 17; refine (is_sent w12 p (HS.out.below H12.out.below) 6 (by omega) 107).mono ?_; rintro e w13 ⟨rfl, hb⟩; have H13 := hide (H12.out.grow hb); have HA13 := hide (HA12.out.below hb (Nat.le_refl _)); clear hb H12 HA12)
            | (go_at_call 17; refine (is_sent w11 p (HS.out.below H11.out.below) 6 (by omega) 107).mono ?_; rintro e w12 ⟨rfl, hb⟩; have H12 := hide (H11.out.grow hb); have HA12 := hide (HA11.out.below hb (Nat.le_refl _)); clear hb H11 HA11)
            | (go_at_call 21; refine (sameBytes_any A11 A c11 cap L L b b w13 HL.out HL.out (by omega) (by omega) HA13.out.reads (HA.out.below H13.out.below (Nat.le_refl _)).reads).mono ?_; rintro e w14 ⟨rfl, hq⟩; have HB14 := hide (H13.out.below.trans ((below_drew_ex hq).mono H13.out.below.size)); rw [decide_eq_true (rfl : b = b)]; clear hq)
            | (go_at_call 32; refine (StS.get H8.out p HS.out (by omega) [120] (by simp) 0 L (by omega) (by omega)).mono ?_; rintro e w9 ⟨v, rfl, ho, h, -⟩; have H9 := hide h; have HR9 := hide (HR8.out.get 0 L).2; have HLT9 := hide (StS.lt H8.out); have H8S := hide H8.out.below.size; rw [HR8.out.getAll L HL.out] at ho ⊢; obtain ⟨A9, c9, rfl, -⟩ := own_n (n := L) ho HL.out; have HO9 := hide ho; have hf9 := own_first ho hpos; obtain ⟨g, hA9, hg9, z9, f9⟩ := hf9; subst hA9; have HX := hide (fun v => StS.set H9.out g 0 v (fun hx => by have := HLT9.out _ (.inl hx); omega) (fun hx => by have := HLT9.out _ (.inr hx); omega) (by have := H9.out.below.size; have := H8S.out; omega)); clear H9 HO9; clear h ho H8 HR8; unfold errR)
            | (go_at_call 32; refine (StS.get H7.out p HS.out (by omega) [121] (by simp) 0 0 (by omega) (by omega)).mono ?_; rintro e w8 ⟨v, rfl, ho, h, -⟩; have H8 := hide h; have HR8 := hide HR7.out.getY.2; rw [HR7.out.getY.1] at ho ⊢; obtain ⟨A8, c8, rfl, -⟩ := own_n (n := 0) ho rfl; clear h ho H7 HR7; unfold errR)
            | (go_at_call 33; refine (StS.head H6.out p HS.out (by omega) HT.out [121] (by simp)).mono ?_; rintro e w7 ⟨rfl, h, -⟩; have H7 := hide h; have HR7 := hide HR6.out.headY.2; rw [HR6.out.headY.1]; clear h H6 HR6; unfold errR)
            | (go_at_call 33; refine (StS.head H5.out p HS.out (by omega) HT.out [120] (by simp)).mono ?_; rintro e w6 ⟨rfl, h, -⟩; have H6 := hide h; have HR6 := hide HR4.out.head.2; rw [HR4.out.head.1]; simp only [HL.out]; clear h H5 HR4; unfold errR)
            | (go_at_call 32; refine (StS.get H3.out p HS.out (by omega) [120] (by simp) off n HO.out HN.out).mono ?_; rintro e w4 ⟨v, rfl, ho, h, -⟩; have H4 := hide h; have HR4 := hide (HR3.out.get off n).2; rw [HG.out _ HR3.out] at ho ⊢; obtain ⟨A4, c4, rfl, -⟩ := own_n (n := 0) ho rfl; clear h ho; unfold errR)
            | (go_at_call 17; refine (is_sent w4 p (HS.out.below H4.out.below) 4 (by omega) 105).mono ?_; rintro e w5 ⟨rfl, hb⟩; have H5 := hide (H4.out.grow hb); clear hb H4)
            | (go_at_call 9; refine HF.out.mono ?_; rintro e w1 ⟨rfl, hb⟩; have HB1 := hide hb; clear hb)
            | (go_at_call 11; refine (stNew_any w w1 HB1.out).mono ?_; rintro e w2 ⟨sb, S, rfl, h, -, -⟩; have H2 := hide h; clear h)
            | (go_at_call 23; refine (StS.put H2.out p HS.out (by omega) [120] (by simp) A cap L b (HA.out.below H2.out.below (Nat.le_refl _)) HL.out (by omega) (fun x o e hne hx => by have h1 := H2.out.lo _ (.inl hx); have h2 := HA.out.lt x o e hne; omega)).mono ?_; rintro e w3 ⟨rfl, S3, D3, h, -⟩; have H3 := hide h; have HR3 := hide HPUT.out.2; rw [HPUT.out.1]; clear h H2 HB1; unfold errR)
            | fail)
          all_goals
          go_ret
          exact ⟨rfl, HB14.out⟩
      · obtain ⟨x, rfl⟩ : ∃ x : Nat, off = (x : Int) := ⟨off.toNat, by omega⟩
        obtain ⟨m, rfl⟩ : ∃ x : Nat, n = (x : Int) := ⟨n.toNat, by omega⟩
        have HG : Hid (∀ s : St.S, St.AtR b s → (s.get [120] x m).1 = ((b.drop x).take m, none)) := hide (fun s h => by rw [(h.get x m).1, if_neg (by have := HL.out; omega)]; simp)
        have HLN : Hid (((b.drop x).take m).length = m) := hide (by rw [List.length_take, List.length_drop]; have := HL.out; omega)
        have h0 : ¬ (L : Int) < (x : Int) := by omega
        have h1 : ¬ (L : Int) - (x : Int) < (m : Int) := by omega
        have hw1 : IntKind.i64.wrap ((L : Int) - (x : Int)) = (L : Int) - (x : Int) := IntWalk.i64_in _ (by omega)
        obtain ⟨y, hy⟩ : ∃ y, y = x + m := ⟨_, rfl⟩
        have hw2 : IntKind.i64.wrap ((x : Int) + (m : Int)) = (y : Int) := by rw [IntWalk.i64_in _ (by omega)]; omega
        have hcl := HA.out.le
        have hct := fun W => run_cut_lh W A L cap x y (by omega) (by have := HL.out; omega)
        rw [show y - x = m by omega] at hct
        have HY := hide hy
        have hyL : y ≤ cap := by have := HL.out; omega
        have hxy : x ≤ y := by omega
        clear hbad hy
        go_enter Tryd.func6, Tryd.ntmps6
        go_wp2_with (first
          | (go_at_call 16; refine (StS.bytes (HX.out _) [120] (by simp)).mono ?_; rintro e w11 ⟨v, rfl, ho, hb⟩; have H11 := hide ((HX.out _).grow hb); rw [HR9.out.x] at ho ⊢; simp only [Option.getD_some, Option.isSome_some] at ho ⊢; obtain ⟨A11, c11, rfl, ha11⟩ := own_n (n := L) ho HL.out; have HA11 := hide ha11; clear ho hb ha11 HX)
          | (go_at_call 17; refine (is_sent w12 p (HS.out.below H12.out.below) 6 (by omega) 107).mono ?_; rintro e w13 ⟨rfl, hb⟩; have H13 := hide (H12.out.grow hb); have HA13 := hide (HA12.out.below hb (Nat.le_refl _)); clear hb H12 HA12)
          | (go_at_call 17; refine (is_sent w11 p (HS.out.below H11.out.below) 6 (by omega) 107).mono ?_; rintro e w12 ⟨rfl, hb⟩; have H12 := hide (H11.out.grow hb); have HA12 := hide (HA11.out.below hb (Nat.le_refl _)); clear hb H11 HA11)
          | (go_at_call 21; refine (sameBytes_any A11 A c11 cap L L b b w13 HL.out HL.out (by omega) (by omega) HA13.out.reads (HA.out.below H13.out.below (Nat.le_refl _)).reads).mono ?_; rintro e w14 ⟨rfl, hq⟩; have HB14 := hide (H13.out.below.trans ((below_drew_ex hq).mono H13.out.below.size)); rw [decide_eq_true (rfl : b = b)]; clear hq)
          | (go_at_call 32; refine (StS.get H8.out p HS.out (by omega) [120] (by simp) 0 L (by omega) (by omega)).mono ?_; rintro e w9 ⟨v, rfl, ho, h, -⟩; have H9 := hide h; have HR9 := hide (HR8.out.get 0 L).2; have HLT9 := hide (StS.lt H8.out); have H8S := hide H8.out.below.size; rw [HR8.out.getAll L HL.out] at ho ⊢; obtain ⟨A9, c9, rfl, -⟩ := own_n (n := L) ho HL.out; have HO9 := hide ho; have hf9 := own_first ho hpos; obtain ⟨g, hA9, hg9, z9, f9⟩ := hf9; subst hA9; have HX := hide (fun v => StS.set H9.out g 0 v (fun hx => by have := HLT9.out _ (.inl hx); omega) (fun hx => by have := HLT9.out _ (.inr hx); omega) (by have := H9.out.below.size; have := H8S.out; omega)); clear H9 HO9; clear h ho H8 HR8; unfold errR)
          | (go_at_call 32; refine (StS.get H7.out p HS.out (by omega) [121] (by simp) 0 0 (by omega) (by omega)).mono ?_; rintro e w8 ⟨v, rfl, ho, h, -⟩; have H8 := hide h; have HR8 := hide HR7.out.getY.2; rw [HR7.out.getY.1] at ho ⊢; obtain ⟨A8, c8, rfl, -⟩ := own_n (n := 0) ho rfl; clear h ho H7 HR7; unfold errR)
          | (go_at_call 33; refine (StS.head H6.out p HS.out (by omega) HT.out [121] (by simp)).mono ?_; rintro e w7 ⟨rfl, h, -⟩; have H7 := hide h; have HR7 := hide HR6.out.headY.2; rw [HR6.out.headY.1]; clear h H6 HR6; unfold errR)
          | (go_at_call 33; refine (StS.head H5.out p HS.out (by omega) HT.out [120] (by simp)).mono ?_; rintro e w6 ⟨rfl, h, -⟩; have H6 := hide h; have HR6 := hide HR4.out.head.2; rw [HR4.out.head.1]; simp only [HL.out]; clear h H5 HR4; unfold errR)
          | (go_at_call 32; refine (StS.get H3.out p HS.out (by omega) [120] (by simp) x m (by omega) (by omega)).mono ?_; rintro e w4 ⟨v, rfl, ho, h, -⟩; have H4 := hide h; have HR4 := hide (HR3.out.get x m).2; rw [HG.out _ HR3.out] at ho ⊢; obtain ⟨A4, c4, rfl, ha4⟩ := own_n (n := m) ho HLN.out; have HA4 := hide ha4; clear h ho ha4 H3 HR3; unfold errR)
          | (go_at_call 21; refine (sameBytes_any A4 (cutA A cap x) c4 (cap - x) m m ((b.drop x).take m) ((b.drop x).take m) w4 HLN.out HLN.out (by omega) (by omega) HA4.out.reads (((HA.out.below H4.out.below (Nat.le_refl _)).cut x (by have := HL.out; omega)).first m).reads).mono ?_; rintro e w5 ⟨rfl, hq⟩; have H5 := hide (H4.out.grow (below_drew_ex hq)); rw [decide_eq_true (rfl : (b.drop x).take m = (b.drop x).take m)]; clear hq H4 HA4)
          | (go_at_call 9; refine HF.out.mono ?_; rintro e w1 ⟨rfl, hb⟩; have HB1 := hide hb; clear hb)
          | (go_at_call 11; refine (stNew_any w w1 HB1.out).mono ?_; rintro e w2 ⟨sb, S, rfl, h, -, -⟩; have H2 := hide h; clear h)
          | (go_at_call 23; refine (StS.put H2.out p HS.out (by omega) [120] (by simp) A cap L b (HA.out.below H2.out.below (Nat.le_refl _)) HL.out (by omega) (fun x o e hne hx => by have h1 := H2.out.lo _ (.inl hx); have h2 := HA.out.lt x o e hne; omega)).mono ?_; rintro e w3 ⟨rfl, S3, D3, h, -⟩; have H3 := hide h; have HR3 := hide HPUT.out.2; rw [HPUT.out.1]; clear h H2 HB1; unfold errR)
          | fail)
        all_goals
          go_ret
          exact ⟨rfl, HB14.out⟩
    · have hz : ¬ (0 : Int) < (L : Int) := by omega
      by_cases hbad : off < 0 ∨ n < 0 ∨ (L : Int) < off ∨ (L : Int) - off < n
      · have HG : Hid (∀ s : St.S, St.AtR b s → (s.get [120] off n).1 = ([], some 4)) := hide (fun s h => by rw [(h.get off n).1, if_pos (by have := HL.out; omega)])
        have hcase : (off < 0) ∨ (¬ off < 0 ∧ n < 0) ∨ (¬ off < 0 ∧ ¬ n < 0 ∧ (L : Int) < off) ∨ (¬ off < 0 ∧ ¬ n < 0 ∧ ¬ (L : Int) < off ∧ (L : Int) - off < n) := by omega
        clear hbad
        rcases hcase with h0 | ⟨h0, h1⟩ | ⟨h0, h1, h2⟩ | ⟨h0, h1, h2, h3⟩
        all_goals
          go_enter Tryd.func6, Tryd.ntmps6
          go_wp2_with (first
            | (go_at_call 16; refine (StS.bytes HX.out [120] (by simp)).mono ?_; rintro e w11 ⟨v, rfl, ho, hb⟩; have H11 := hide (HX.out.grow hb); rw [HR9.out.x] at ho ⊢; simp only [Option.getD_some, Option.isSome_some] at ho ⊢; obtain ⟨A11, c11, rfl, ha11⟩ := own_n (n := L) ho HL.out; have HA11 := hide ha11; clear ho hb ha11 HX)
            | (go_at_call 17; refine (is_sent w12 p (HS.out.below H12.out.below) 6 (by omega) 107).mono ?_; rintro e w13 ⟨rfl, hb⟩; have H13 := hide (H12.out.grow hb); have HA13 := hide (HA12.out.below hb (Nat.le_refl _)); clear hb H12 HA12)
            | (go_at_call 17; refine (is_sent w11 p (HS.out.below H11.out.below) 6 (by omega) 107).mono ?_; rintro e w12 ⟨rfl, hb⟩; have H12 := hide (H11.out.grow hb); have HA12 := hide (HA11.out.below hb (Nat.le_refl _)); clear hb H11 HA11)
            | (go_at_call 21; refine (sameBytes_any A11 A c11 cap L L b b w13 HL.out HL.out (by omega) (by omega) HA13.out.reads (HA.out.below H13.out.below (Nat.le_refl _)).reads).mono ?_; rintro e w14 ⟨rfl, hq⟩; have HB14 := hide (H13.out.below.trans ((below_drew_ex hq).mono H13.out.below.size)); rw [decide_eq_true (rfl : b = b)]; clear hq)
            | (go_at_call 32; refine (StS.get H8.out p HS.out (by omega) [120] (by simp) 0 L (by omega) (by omega)).mono ?_; rintro e w9 ⟨v, rfl, ho, h, -⟩; have H9 := hide h; have HR9 := hide (HR8.out.get 0 L).2; have HLT9 := hide (StS.lt H8.out); have H8S := hide H8.out.below.size; rw [HR8.out.getAll L HL.out] at ho ⊢; obtain ⟨A9, c9, rfl, -⟩ := own_n (n := L) ho HL.out; have HX := H9; clear h ho H8 HR8; unfold errR)
            | (go_at_call 32; refine (StS.get H7.out p HS.out (by omega) [121] (by simp) 0 0 (by omega) (by omega)).mono ?_; rintro e w8 ⟨v, rfl, ho, h, -⟩; have H8 := hide h; have HR8 := hide HR7.out.getY.2; rw [HR7.out.getY.1] at ho ⊢; obtain ⟨A8, c8, rfl, -⟩ := own_n (n := 0) ho rfl; clear h ho H7 HR7; unfold errR)
            | (go_at_call 33; refine (StS.head H6.out p HS.out (by omega) HT.out [121] (by simp)).mono ?_; rintro e w7 ⟨rfl, h, -⟩; have H7 := hide h; have HR7 := hide HR6.out.headY.2; rw [HR6.out.headY.1]; clear h H6 HR6; unfold errR)
            | (go_at_call 33; refine (StS.head H5.out p HS.out (by omega) HT.out [120] (by simp)).mono ?_; rintro e w6 ⟨rfl, h, -⟩; have H6 := hide h; have HR6 := hide HR4.out.head.2; rw [HR4.out.head.1]; simp only [HL.out]; clear h H5 HR4; unfold errR)
            | (go_at_call 32; refine (StS.get H3.out p HS.out (by omega) [120] (by simp) off n HO.out HN.out).mono ?_; rintro e w4 ⟨v, rfl, ho, h, -⟩; have H4 := hide h; have HR4 := hide (HR3.out.get off n).2; rw [HG.out _ HR3.out] at ho ⊢; obtain ⟨A4, c4, rfl, -⟩ := own_n (n := 0) ho rfl; clear h ho; unfold errR)
            | (go_at_call 17; refine (is_sent w4 p (HS.out.below H4.out.below) 4 (by omega) 105).mono ?_; rintro e w5 ⟨rfl, hb⟩; have H5 := hide (H4.out.grow hb); clear hb H4)
            | (go_at_call 9; refine HF.out.mono ?_; rintro e w1 ⟨rfl, hb⟩; have HB1 := hide hb; clear hb)
            | (go_at_call 11; refine (stNew_any w w1 HB1.out).mono ?_; rintro e w2 ⟨sb, S, rfl, h, -, -⟩; have H2 := hide h; clear h)
            | (go_at_call 23; refine (StS.put H2.out p HS.out (by omega) [120] (by simp) A cap L b (HA.out.below H2.out.below (Nat.le_refl _)) HL.out (by omega) (fun x o e hne hx => by have h1 := H2.out.lo _ (.inl hx); have h2 := HA.out.lt x o e hne; omega)).mono ?_; rintro e w3 ⟨rfl, S3, D3, h, -⟩; have H3 := hide h; have HR3 := hide HPUT.out.2; rw [HPUT.out.1]; clear h H2 HB1; unfold errR)
            | fail)
          all_goals
          go_ret
          exact ⟨rfl, HB14.out⟩
      · obtain ⟨x, rfl⟩ : ∃ x : Nat, off = (x : Int) := ⟨off.toNat, by omega⟩
        obtain ⟨m, rfl⟩ : ∃ x : Nat, n = (x : Int) := ⟨n.toNat, by omega⟩
        have HG : Hid (∀ s : St.S, St.AtR b s → (s.get [120] x m).1 = ((b.drop x).take m, none)) := hide (fun s h => by rw [(h.get x m).1, if_neg (by have := HL.out; omega)]; simp)
        have HLN : Hid (((b.drop x).take m).length = m) := hide (by rw [List.length_take, List.length_drop]; have := HL.out; omega)
        have h0 : ¬ (L : Int) < (x : Int) := by omega
        have h1 : ¬ (L : Int) - (x : Int) < (m : Int) := by omega
        have hw1 : IntKind.i64.wrap ((L : Int) - (x : Int)) = (L : Int) - (x : Int) := IntWalk.i64_in _ (by omega)
        obtain ⟨y, hy⟩ : ∃ y, y = x + m := ⟨_, rfl⟩
        have hw2 : IntKind.i64.wrap ((x : Int) + (m : Int)) = (y : Int) := by rw [IntWalk.i64_in _ (by omega)]; omega
        have hcl := HA.out.le
        have hct := fun W => run_cut_lh W A L cap x y (by omega) (by have := HL.out; omega)
        rw [show y - x = m by omega] at hct
        have HY := hide hy
        have hyL : y ≤ cap := by have := HL.out; omega
        have hxy : x ≤ y := by omega
        clear hbad hy
        go_enter Tryd.func6, Tryd.ntmps6
        go_wp2_with (first
          | (go_at_call 16; refine (StS.bytes HX.out [120] (by simp)).mono ?_; rintro e w11 ⟨v, rfl, ho, hb⟩; have H11 := hide (HX.out.grow hb); rw [HR9.out.x] at ho ⊢; simp only [Option.getD_some, Option.isSome_some] at ho ⊢; obtain ⟨A11, c11, rfl, ha11⟩ := own_n (n := L) ho HL.out; have HA11 := hide ha11; clear ho hb ha11 HX)
          | (go_at_call 17; refine (is_sent w12 p (HS.out.below H12.out.below) 6 (by omega) 107).mono ?_; rintro e w13 ⟨rfl, hb⟩; have H13 := hide (H12.out.grow hb); have HA13 := hide (HA12.out.below hb (Nat.le_refl _)); clear hb H12 HA12)
          | (go_at_call 17; refine (is_sent w11 p (HS.out.below H11.out.below) 6 (by omega) 107).mono ?_; rintro e w12 ⟨rfl, hb⟩; have H12 := hide (H11.out.grow hb); have HA12 := hide (HA11.out.below hb (Nat.le_refl _)); clear hb H11 HA11)
          | (go_at_call 21; refine (sameBytes_any A11 A c11 cap L L b b w13 HL.out HL.out (by omega) (by omega) HA13.out.reads (HA.out.below H13.out.below (Nat.le_refl _)).reads).mono ?_; rintro e w14 ⟨rfl, hq⟩; have HB14 := hide (H13.out.below.trans ((below_drew_ex hq).mono H13.out.below.size)); rw [decide_eq_true (rfl : b = b)]; clear hq)
          | (go_at_call 32; refine (StS.get H8.out p HS.out (by omega) [120] (by simp) 0 L (by omega) (by omega)).mono ?_; rintro e w9 ⟨v, rfl, ho, h, -⟩; have H9 := hide h; have HR9 := hide (HR8.out.get 0 L).2; have HLT9 := hide (StS.lt H8.out); have H8S := hide H8.out.below.size; rw [HR8.out.getAll L HL.out] at ho ⊢; obtain ⟨A9, c9, rfl, -⟩ := own_n (n := L) ho HL.out; have HX := H9; clear h ho H8 HR8; unfold errR)
          | (go_at_call 32; refine (StS.get H7.out p HS.out (by omega) [121] (by simp) 0 0 (by omega) (by omega)).mono ?_; rintro e w8 ⟨v, rfl, ho, h, -⟩; have H8 := hide h; have HR8 := hide HR7.out.getY.2; rw [HR7.out.getY.1] at ho ⊢; obtain ⟨A8, c8, rfl, -⟩ := own_n (n := 0) ho rfl; clear h ho H7 HR7; unfold errR)
          | (go_at_call 33; refine (StS.head H6.out p HS.out (by omega) HT.out [121] (by simp)).mono ?_; rintro e w7 ⟨rfl, h, -⟩; have H7 := hide h; have HR7 := hide HR6.out.headY.2; rw [HR6.out.headY.1]; clear h H6 HR6; unfold errR)
          | (go_at_call 33; refine (StS.head H5.out p HS.out (by omega) HT.out [120] (by simp)).mono ?_; rintro e w6 ⟨rfl, h, -⟩; have H6 := hide h; have HR6 := hide HR4.out.head.2; rw [HR4.out.head.1]; simp only [HL.out]; clear h H5 HR4; unfold errR)
          | (go_at_call 32; refine (StS.get H3.out p HS.out (by omega) [120] (by simp) x m (by omega) (by omega)).mono ?_; rintro e w4 ⟨v, rfl, ho, h, -⟩; have H4 := hide h; have HR4 := hide (HR3.out.get x m).2; rw [HG.out _ HR3.out] at ho ⊢; obtain ⟨A4, c4, rfl, ha4⟩ := own_n (n := m) ho HLN.out; have HA4 := hide ha4; clear h ho ha4 H3 HR3; unfold errR)
          | (go_at_call 21; refine (sameBytes_any A4 (cutA A cap x) c4 (cap - x) m m ((b.drop x).take m) ((b.drop x).take m) w4 HLN.out HLN.out (by omega) (by omega) HA4.out.reads (((HA.out.below H4.out.below (Nat.le_refl _)).cut x (by have := HL.out; omega)).first m).reads).mono ?_; rintro e w5 ⟨rfl, hq⟩; have H5 := hide (H4.out.grow (below_drew_ex hq)); rw [decide_eq_true (rfl : (b.drop x).take m = (b.drop x).take m)]; clear hq H4 HA4)
          | (go_at_call 9; refine HF.out.mono ?_; rintro e w1 ⟨rfl, hb⟩; have HB1 := hide hb; clear hb)
          | (go_at_call 11; refine (stNew_any w w1 HB1.out).mono ?_; rintro e w2 ⟨sb, S, rfl, h, -, -⟩; have H2 := hide h; clear h)
          | (go_at_call 23; refine (StS.put H2.out p HS.out (by omega) [120] (by simp) A cap L b (HA.out.below H2.out.below (Nat.le_refl _)) HL.out (by omega) (fun x o e hne hx => by have h1 := H2.out.lo _ (.inl hx); have h2 := HA.out.lt x o e hne; omega)).mono ?_; rintro e w3 ⟨rfl, S3, D3, h, -⟩; have H3 := hide h; have HR3 := hide HPUT.out.2; rw [HPUT.out.1]; clear h H2 HB1; unfold errR)
          | fail)
        all_goals
          go_ret
          exact ⟨rfl, HB14.out⟩
  · go_enter Tryd.func6, Tryd.ntmps6
    go_wp2_with (first
      | (go_at_call 9; refine HF.out.mono ?_; rintro e w1 ⟨rfl, hb⟩; have HB1 := hide hb; clear hb)
      | fail)
    go_ret
    exact ⟨rfl, HB1.out⟩
end Go.Proofs.YtipmmmmobopbmaaDoor

namespace Go.Proofs.YtipmmmmobopbmaaDoor.PiecesLaw
open Go.Proofs.YtipmmmmobopbmaaDoor
open Go.RowKit Go.ChangeShapes Go.WideShapes Go.ChangeAt

set_option maxRecDepth 100000 in
theorem lifted (os : Os) (started : os.Started) (H : Type) (enc : TypeId × Value → H) :
    ReturnsInHanded {} Tryd.checked os 6 .any (fun w args => (Rows.storeRangesSpec.pre enc Tryd.prog Tryd.f6 [] false w args ∧ laidMetH Tryd.prog laidAll w) ∧ sizedMet enc Tryd.prog Tryd.f6 (OpenSpec.ofChange Rows.storeRangesSpec) false w args)
      (Rows.storeRangesSpec.post enc Tryd.prog Tryd.f6 false true false false) := by
  refine returnsInHanded_of_change_and (C := Tryd.checked) (X := fun w _ => laidMetH Tryd.prog laidAll w) (fun _ _ _ hh h => h.of_heap hh) own started (by kernel_rfl) Tryd.func6
    (ChangeSpec.witness_shaped (enc := enc) (C := Tryd.checked) (os := os) (X := fun w _ => laidMetH Tryd.prog laidAll w) false (World.doorLaid Tryd.prog 400 os) #[.slice none 0 0, .int .i64 0, .int .i64 0] 8 rfl (World.shaped_of_RefB (by kernel_rfl) (by kernel_rfl)) (by kernel_rfl) (by kernel_rfl) (by kernel_rfl) (door_met_all os _)) ?_
  intro W base args ds gs before hval0 hW _ _ hL _
  have hval : ∀ (j : Nat) t v, Tryd.f6.params[j]? = some t → args[j]? = some v → Value.okWide Tryd.prog W .any base t v := hval0
  have hW' := hW
  obtain ⟨p, q, hA0, hV, rfl, hfz, hnd⟩ := hW
  have hA : DataW.TrodAll enc Tryd.prog W 0 (fun _ => true) true Tryd.f6.params.toList args.toList ds p := hA0
  rw [Tryd.params6] at hA hval
  obtain ⟨v0, vs0, d0, ds0, p0, q0, hargs, rfl, rfl, h0, r0⟩ := trodAll_cons hA
  obtain ⟨v1, vs1, d1, ds1, p1, q1, rfl, rfl, rfl, h1, r1⟩ := trodAll_cons r0
  obtain ⟨v2, vs2, d2, ds2, p2, q2, rfl, rfl, rfl, h2, r2⟩ := trodAll_cons r1
  obtain ⟨rfl, rfl, rfl⟩ := trodAll_nil r2
  obtain rfl : args = #[v0, v1, v2] := by cases args; simp_all
  obtain ⟨rfl, rfl⟩ := trodVars_none hV
  obtain ⟨a0, len0, cap0, rfl⟩ := okWide_slice Tryd.underlying35 (hval 0 35 v0 rfl rfl)
  have k0 := h0
  have lt0 : ∀ x ∈ p0, x.block < W.heap.size := by obtain ⟨m, hm⟩ := k0; exact DataW.trod_lt m _ _ _ hm
  obtain ⟨l0, rfl, w0⟩ := arg_of h0
  obtain ⟨a1, rfl, rfl, rfl, w1⟩ := open_int Tryd.underlying3 (hval 1 3 v1 rfl rfl) h1
  have hb1 := bounds_i64 w1
  obtain ⟨a2, rfl, rfl, rfl, w2⟩ := open_int Tryd.underlying3 (hval 2 3 v2 rfl rfl) h2
  have hb2 := bounds_i64 w2
  clear hA0 hval0
  have htab := tabs_of_all hL
  obtain ⟨ps, hsent⟩ := sents_of_laid hL
  have hsz := htab.size
  refine (ranges_walk W ps hsent htab a0 cap0 _ l0 w0 rfl a1 a2 hb1 hb2).mono fun e W' ⟨he, bel⟩ => ?_
  subst he
  exact ⟨_, rfl, _, _, _, [], _, [], hW', trodAll_mk1 (shut_bool Tryd.underlying4 _), (trodAll_cons_mk (Below.trod laidOut (by kernel_rfl) (of_decide_eq_true (by kernel_rfl)) k0 bel lt0) (trodAll_cons_mk (shut_int Tryd.underlying3 w1) (trodAll_cons_mk (shut_int Tryd.underlying3 w2) trodAll_mk0))), rfl, bel.frame _, fun h => by cases h⟩

theorem row : Rows.StoreRangesSaid :=
  OpenClaim.holds_of_wide 6 Tryd.f6 rfl rfl rfl rfl rfl rfl rfl ⟨rfl, rfl, rfl, rfl, rfl⟩ rfl rfl rfl rfl rfl (by kernel_rfl) Tryd.func6 (by kernel_rfl)
    (of_decide_eq_true (by kernel_rfl)) (by unfold Func.isWrapper; first | (rw [if_pos (by decide +kernel)]; kernel_rfl) | (rw [if_neg (by decide +kernel)]; exact ⟨rfl, rfl⟩))
    (fun os started H enc _ => lifted os started H enc)

theorem proved : Rows.StoreRangesCardSaid :=
  Claim7.holds_tied_plain_at .later [] _ true _ true
    row (fun _ h => by cases h) (by kernel_rfl) (fun _ h => by cases h) storeRanges_row_tie rfl ⟨rfl, rfl⟩ (by kernel_rfl) rfl
    (fun f fn hf hfn => by
      obtain rfl : f = 6 := Option.some.inj ((show Tryd.prog.funcNamed "cordwood/cordwoodlaw11.StoreRanges" = some 6 by kernel_rfl).symm.trans hf) |>.symm
      obtain rfl : fn = Tryd.f6 := (Option.some.inj (Tryd.func6.symm.trans hfn)).symm
      exact ⟨by kernel_rfl, fun j t ht => by
        rw [Tryd.params6] at ht
        have hm : t ∈ [35, 3, 3] := by simpa using Array.mem_of_getElem? ht
        have hall : ([35, 3, 3].all fun u => !Tryd.prog.wantsStandIn u) = true := by kernel_rfl
        exact (show Tryd.prog.wantsStandIn t = false by simpa using List.all_eq_true.1 hall t hm)⟩)
    (by kernel_rfl)
end Go.Proofs.YtipmmmmobopbmaaDoor.PiecesLaw
