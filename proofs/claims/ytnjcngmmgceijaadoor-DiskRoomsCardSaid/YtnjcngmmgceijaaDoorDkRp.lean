/-
  DiskRooms walked.
-/
import Derived.Test.YtnjcngmmgceijaaDoorDkRo
import Derived.Laws.IdiomStrings
namespace Go.Proofs.YtnjcngmmgceijaaDoor
open Go.RowKit Go.Maps

theorem Sess.create_at {w0 w : World} {n Bd : Nat} {s : Dk.St} (h : Sess w0 n Bd s w) (p : Nat → Addr) (hs : SentsD w0 p) (hn : n ≤ 1000) (k : Dk.Nm) (hk : k.length ≤ 1000) (x : Nat) (hx : w.heap.size = x) :
    Calls Tryd.prog 12 #[.pointer (some ⟨Bd, 0, none⟩), encStr k] w fun e w' => e = .returned (errR p (s.create k x).1) ∧ Sess w0 (n + 1) Bd (s.create k x).2 w' := by
  subst hx
  exact h.create p hs hn k hk
theorem Sess.usedR {w0 w : World} {n Bd : Nat} {s : Dk.St} (h : Sess w0 n Bd s w) : Calls Tryd.prog 25 #[.pointer (some ⟨Bd, 0, none⟩)] w fun e w' => e = .returned (.int .i64 s.used) ∧ w' = w := used_any Bd s _ w h.disk
theorem own_arg {w : World} {base n : Nat} {l : List UInt8} {a : Addr} (h : Own w base (.slice (some a) n n) l) (hl : l.length = n) : Arg w (some a) n l := by
  obtain ⟨A, c, e, h⟩ := own_n h hl
  cases e
  exact h

set_option maxRecDepth 100000 in
set_option maxHeartbeats 2000000 in
theorem rooms_any (w : World) (p : Nat → Addr) (hs : Sents w p) (m : Int) (hm1 : -9223372036854775808 ≤ m) (hm2 : m ≤ 9223372036854775807) (Az : Option Addr) (cz nz : Nat) (zs : List Int) (hnz : zs.length = nz) (hz : IntsArg w Az cz zs) :
    Calls Tryd.prog 5 #[.int .i64 m, .slice Az nz cz] w fun e w' => e = .returned (.bool true) ∧ Below w.heap.size w w' := by
  have hsd : SentsD w p := hs.mono fun j hj => by omega
  have HFI := hide (first_any w p hsd)
  have HS := hide hs
  have HSD := hide hsd
  have HZ := hide hz
  have HNZ := hide hnz
  have hltR : num m 300 < 300 := num_lt m 300 (by omega)
  obtain ⟨R, hR⟩ : ∃ R, num m 300 = R := ⟨_, rfl⟩
  rw [hR] at hltR
  have HNR := hide hR
  clear hs hsd hz hnz hR
  by_cases lz : 20 < nz
  · go_enter Tryd.func5, Tryd.ntmps5
    go_wp2_with (first
      | (go_at_call 8; refine HFI.out.mono ?_; rintro e w1 ⟨rfl, hb1⟩; have HB1 := hide hb1; clear hb1)
      | (go_at_call 11; refine (num_at m 300 300 w1 (by omega) (by omega) (by omega) hm1 hm2).mono ?_; rintro e w1' ⟨rfl, rfl⟩; rw [HNR.out])
      | fail)
    go_ret
    exact ⟨rfl, HB1.out⟩
  have HNW := hide (fun W => new_sess ((R : Int) + 1) W W (Below.refl _ _) (by omega) (by omega))
  have HR0 := hide (Dk.Roomy.new ((R : Int) + 1) (by omega))
  go_enter Tryd.func5, Tryd.ntmps5
  go_wp2_with (first
    | (go_at_call 8; refine HFI.out.mono ?_; rintro e w1 ⟨rfl, hb1⟩; have HB1 := hide hb1; have HAZ := hide (HZ.out.below hb1 (Nat.le_refl _)); have HD1 := hide (HSD.out.below hb1); clear hb1)
    | (go_at_call 11; refine (num_at m 300 300 w1 (by omega) (by omega) (by omega) hm1 hm2).mono ?_; rintro e w1' ⟨rfl, rfl⟩; rw [HNR.out])
    | (go_at_call 9; refine (HNW.out w1).mono ?_; rintro e w2 ⟨Bd, rfl, h2, -⟩; have H2 := hide h2; clear h2)
    | fail)
  clear HNW HFI
  go_loopw [8, 9] (fun uv i wr => ∃ (k : Nat) (s : Dk.St) (us : Int), k ≤ nz ∧ i = .int .i64 k ∧ uv = .int .i64 us ∧ Dk.Roomy s ((R : Int) + 1) k us ∧ Sess w1 (3 * k) Bd s wr) (fun _ i _ => nz - (intOf i).toNat)
  case atStart => exact ⟨0, _, 0, by omega, rfl, rfl, HR0.out, H2.out⟩
  case round =>
    obtain ⟨k, s, us, hk, rfl, rfl, har, hr⟩ := hrel
    have HR := hide hr
    have HA := hide har
    have hlo := har.lo
    have hhi := har.hi
    clear hr har H2 HR0
    by_cases hlt : k < nz
    · obtain ⟨bz, oz, rfl, hcell⟩ := (HAZ.out.below HR.out.below (Nat.le_refl _)).get k (by rw [HNZ.out]; exact hlt)
      have hfit := HAZ.out.fit (zs.getD k 0) (by
        have h1 : k < zs.length := by rw [HNZ.out]; exact hlt
        rw [List.getD_eq_getElem?_getD, List.getElem?_eq_getElem h1, Option.getD_some]
        exact List.getElem_mem _)
      generalize zs.getD k 0 = z at *
      obtain ⟨hz1, hz2⟩ := hfit
      have hltK : num z 80 < 80 := num_lt z 80 (by omega)
      obtain ⟨K, hK⟩ : ∃ K, num z 80 = K := ⟨_, rfl⟩
      rw [hK] at hltK
      have HNK := hide hK
      clear hK
      have hcell2 : ∀ o, (wr.alloc o).cell? ⟨bz, oz + k, none⟩ = some (.int .i64 z) := fun o => (World.cell?_alloc_lt wr o ⟨bz, oz + k, none⟩ (World.block_lt_of_cell? wr _ hcell)).trans hcell
      have HCV : ∀ (W : World) (t : TypeId), (convert 33 9 (.slice (some ⟨W.heap.size, 0, none⟩) 1 1)).run Tryd.prog (W.alloc (.cells #[.int .u8 (97 + (k : Int))] t)) = .ok (encStr (Dk.rn k)) (W.alloc (.cells #[.int .u8 (97 + (k : Int))] t)) := fun W t => by
        refine run_convert_bytes_back _ _ _ 5 ⟨W.heap.size, 0, none⟩ 1 (Dk.rn k) Tryd.underlying33 Tryd.underlying5 Tryd.underlying9 fun j hj => ?_
        obtain rfl : j = 0 := by simp [Dk.rn] at hj; omega
        rw [show (⟨W.heap.size, 0, none⟩ : Addr).add 0 = ⟨W.heap.size, 0, none⟩ from rfl]
        simp [Dk.rn]
        omega
      obtain ⟨s1, e1, st1, st2⟩ := HA.out.step (by omega) K (wr.heap.size + 1)
      have E1 := hide e1
      clear e1
      by_cases hf : us + (K : Int) ≤ (R : Int) + 1
      · clear st2
        obtain ⟨s2, e2, hu2, hl2, hfd, hrm, s3, e3, hrm3⟩ := st1 hf
        clear st1
        have E2 := hide e2
        have E3 := hide e3
        have HLN := hide hl2
        have HFD := hide hfd
        have HRM := hide hrm
        have HRM3 := hide hrm3
        clear e2 e3 hu2 hl2 hfd hrm hrm3
        by_cases h3 : k % 3 = 2
        · have HUS := hide (HRM3.out.used)
          have hm3 : (k : Int) % 3 = 2 := by omega
          go_wp2_with (first
            | (go_at_call 11; refine (num_at z 80 80 _ (by omega) (by omega) (by omega) hz1 hz2).mono ?_; rintro e wr1 ⟨rfl, rfl⟩; rw [HNK.out])
            | (go_at_call 12; refine ((HR.out.grow (balloc (Below.refl _ _) _)).create_at p HD1.out (by omega) (Dk.rn k) (by simp [Dk.rn]) (wr.heap.size + 1) (by simp)).mono ?_; rintro e w3 ⟨rfl, h3⟩; rw [E1.out] at h3 ⊢; have H3 := hide h3; clear h3; simp only [errR])
            | (at_make; refine wpList_mk rfl (.tmp 62) (.tmp 62) rfl K K _ _ rfl rfl rfl rfl (Nat.le_refl _) (by omega) ?_; intro w5 hown5 hb5 hs5; have HAR := hide (own_arg hown5 (by simp)); have HB5 := hide hb5; clear hown5 hb5 hs5)
            | (go_at_call 19; refine (H3.out.append p HD1.out (by omega) (Dk.rn k) (by simp [Dk.rn]) _ _ _ (List.replicate K 0) HB5.out HAR.out (by simp) (by omega) (fun x o e _ => by cases e; exact .inr (Nat.le_refl _))).mono ?_; rintro e w6 ⟨rfl, h6⟩; rw [E2.out] at h6 ⊢; have H6 := hide h6; clear h6; simp only [errR])
            | (go_at_call 24; refine (H6.out.len p HD1.out (Dk.rn k) (by simp [Dk.rn])).mono ?_; rintro e w8 ⟨rfl, q, hq⟩; rw [HLN.out, HFD.out]; have h8 := H6.out.drewN q; rw [← hq] at h8; have H8 := hide h8; clear h8 hq; simp only [errR])
            | (go_at_call 13; refine (H8.out.remove p HD1.out (by omega) (Dk.rn k) (by simp [Dk.rn])).mono ?_; rintro e w9 ⟨rfl, h9⟩; rw [E3.out] at h9 ⊢; have H9 := hide h9; clear h9; simp only [errR])
            | (go_at_call 25; refine H9.out.usedR.mono ?_; rintro e w10 ⟨rfl, rfl⟩; rw [HUS.out])
            | fail)
          go_roundw
          case rel => exact ⟨k + 1, s3, _, by omega, by go_num, rfl, by first | exact HRM3.out | (have := HRM3.out; simpa using this), H9.out.mono (by omega)⟩
          case measure => simp [intOf]; omega
        · have HUS := hide (HRM.out.used)
          have hm3 : ¬ (k : Int) % 3 = 2 := by omega
          go_wp2_with (first
            | (go_at_call 11; refine (num_at z 80 80 _ (by omega) (by omega) (by omega) hz1 hz2).mono ?_; rintro e wr1 ⟨rfl, rfl⟩; rw [HNK.out])
            | (go_at_call 12; refine ((HR.out.grow (balloc (Below.refl _ _) _)).create_at p HD1.out (by omega) (Dk.rn k) (by simp [Dk.rn]) (wr.heap.size + 1) (by simp)).mono ?_; rintro e w3 ⟨rfl, h3⟩; rw [E1.out] at h3 ⊢; have H3 := hide h3; clear h3; simp only [errR])
            | (at_make; refine wpList_mk rfl (.tmp 62) (.tmp 62) rfl K K _ _ rfl rfl rfl rfl (Nat.le_refl _) (by omega) ?_; intro w5 hown5 hb5 hs5; have HAR := hide (own_arg hown5 (by simp)); have HB5 := hide hb5; clear hown5 hb5 hs5)
            | (go_at_call 19; refine (H3.out.append p HD1.out (by omega) (Dk.rn k) (by simp [Dk.rn]) _ _ _ (List.replicate K 0) HB5.out HAR.out (by simp) (by omega) (fun x o e _ => by cases e; exact .inr (Nat.le_refl _))).mono ?_; rintro e w6 ⟨rfl, h6⟩; rw [E2.out] at h6 ⊢; have H6 := hide h6; clear h6; simp only [errR])
            | (go_at_call 25; refine H6.out.usedR.mono ?_; rintro e w10 ⟨rfl, rfl⟩; rw [HUS.out])
            | fail)
          go_roundw
          case rel => exact ⟨k + 1, s2, _, by omega, by go_num, rfl, by first | exact HRM.out | (have := HRM.out; simpa using this), H6.out.mono (by omega)⟩
          case measure => simp [intOf]; omega
      · clear st1
        obtain ⟨e2, hu2, hl2, hfd, hrm, s3, e3, hrm3⟩ := st2 (by omega)
        clear st2
        have E2 := hide e2
        have E3 := hide e3
        have HLN := hide hl2
        have HFD := hide hfd
        have HRM := hide hrm
        have HRM3 := hide hrm3
        clear e2 e3 hu2 hl2 hfd hrm hrm3
        have HIS := hide (fun W (hw : Below w.heap.size w W) => is_sent W p (HS.out.below hw) 8 (by decide) 109)
        have hne := eql_nil (p 8)
        simp only [errV] at HIS hne
        by_cases h3 : k % 3 = 2
        · have HUS := hide (HRM3.out.used)
          have hm3 : (k : Int) % 3 = 2 := by omega
          go_wp2_with (first
            | (go_at_call 11; refine (num_at z 80 80 _ (by omega) (by omega) (by omega) hz1 hz2).mono ?_; rintro e wr1 ⟨rfl, rfl⟩; rw [HNK.out])
            | (go_at_call 12; refine ((HR.out.grow (balloc (Below.refl _ _) _)).create_at p HD1.out (by omega) (Dk.rn k) (by simp [Dk.rn]) (wr.heap.size + 1) (by simp)).mono ?_; rintro e w3 ⟨rfl, h3⟩; rw [E1.out] at h3 ⊢; have H3 := hide h3; clear h3; simp only [errR])
            | (at_make; refine wpList_mk rfl (.tmp 62) (.tmp 62) rfl K K _ _ rfl rfl rfl rfl (Nat.le_refl _) (by omega) ?_; intro w5 hown5 hb5 hs5; have HAR := hide (own_arg hown5 (by simp)); have HB5 := hide hb5; clear hown5 hb5 hs5)
            | (go_at_call 19; refine (H3.out.append p HD1.out (by omega) (Dk.rn k) (by simp [Dk.rn]) _ _ _ (List.replicate K 0) HB5.out HAR.out (by simp) (by omega) (fun x o e _ => by cases e; exact .inr (Nat.le_refl _))).mono ?_; rintro e w6 ⟨rfl, h6⟩; rw [E2.out] at h6 ⊢; have H6 := hide h6; clear h6; simp only [errR, errV])
            | (go_at_call 20; refine (HIS.out w6 (HB1.out.trans (H6.out.below.mono HB1.out.size))).mono ?_; rintro e w7 ⟨he, hb7⟩; rw [decide_eq_true (by decide)] at he; subst he; have H7 := hide (H6.out.grow hb7); clear hb7)
            | (go_at_call 24; refine (H7.out.len p HD1.out (Dk.rn k) (by simp [Dk.rn])).mono ?_; rintro e w8 ⟨rfl, q, hq⟩; rw [HLN.out, HFD.out]; have h8 := H7.out.drewN q; rw [← hq] at h8; have H8 := hide h8; clear h8 hq; simp only [errR])
            | (go_at_call 13; refine (H8.out.remove p HD1.out (by omega) (Dk.rn k) (by simp [Dk.rn])).mono ?_; rintro e w9 ⟨rfl, h9⟩; rw [E3.out] at h9 ⊢; have H9 := hide h9; clear h9; simp only [errR])
            | (go_at_call 25; refine H9.out.usedR.mono ?_; rintro e w10 ⟨rfl, rfl⟩; rw [HUS.out])
            | fail)
          go_roundw
          case rel => exact ⟨k + 1, s3, _, by omega, by go_num, rfl, by first | exact HRM3.out | (have := HRM3.out; simpa using this), H9.out.mono (by omega)⟩
          case measure => simp [intOf]; omega
        · have HUS := hide (HRM.out.used)
          have hm3 : ¬ (k : Int) % 3 = 2 := by omega
          go_wp2_with (first
            | (go_at_call 11; refine (num_at z 80 80 _ (by omega) (by omega) (by omega) hz1 hz2).mono ?_; rintro e wr1 ⟨rfl, rfl⟩; rw [HNK.out])
            | (go_at_call 12; refine ((HR.out.grow (balloc (Below.refl _ _) _)).create_at p HD1.out (by omega) (Dk.rn k) (by simp [Dk.rn]) (wr.heap.size + 1) (by simp)).mono ?_; rintro e w3 ⟨rfl, h3⟩; rw [E1.out] at h3 ⊢; have H3 := hide h3; clear h3; simp only [errR])
            | (at_make; refine wpList_mk rfl (.tmp 62) (.tmp 62) rfl K K _ _ rfl rfl rfl rfl (Nat.le_refl _) (by omega) ?_; intro w5 hown5 hb5 hs5; have HAR := hide (own_arg hown5 (by simp)); have HB5 := hide hb5; clear hown5 hb5 hs5)
            | (go_at_call 19; refine (H3.out.append p HD1.out (by omega) (Dk.rn k) (by simp [Dk.rn]) _ _ _ (List.replicate K 0) HB5.out HAR.out (by simp) (by omega) (fun x o e _ => by cases e; exact .inr (Nat.le_refl _))).mono ?_; rintro e w6 ⟨rfl, h6⟩; rw [E2.out] at h6 ⊢; have H6 := hide h6; clear h6; simp only [errR, errV])
            | (go_at_call 20; refine (HIS.out w6 (HB1.out.trans (H6.out.below.mono HB1.out.size))).mono ?_; rintro e w7 ⟨he, hb7⟩; rw [decide_eq_true (by decide)] at he; subst he; have H7 := hide (H6.out.grow hb7); clear hb7)
            | (go_at_call 25; refine H7.out.usedR.mono ?_; rintro e w10 ⟨rfl, rfl⟩; rw [HUS.out])
            | fail)
          go_roundw
          case rel => exact ⟨k + 1, s1, _, by omega, by go_num, rfl, by first | exact HRM.out | (have := HRM.out; simpa using this), H7.out.mono (by omega)⟩
          case measure => simp [intOf]; omega
    · obtain rfl : k = nz := by omega
      go_wp2_with fail
      go_ret
      exact ⟨rfl, HB1.out.trans (HR.out.below.mono HB1.out.size)⟩
end Go.Proofs.YtnjcngmmgceijaaDoor
