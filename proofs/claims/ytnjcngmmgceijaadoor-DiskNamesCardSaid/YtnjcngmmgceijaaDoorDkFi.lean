/-
  The chapter's examples: what every statement of the disk begins with.
-/
import Derived.Test.YtnjcngmmgceijaaDoorDkPl
import Derived.Lib.SlBytesConst
namespace Go.Proofs.YtnjcngmmgceijaaDoor
open Go.RowKit Go.Maps

theorem one_vals {k : Dk.Nm} {i : Nat} {f : Dk.Dir} {l : List Nat} (hf : ∀ x, f x ≠ none ↔ x = k) (hk : f k = some i) (h : Dk.Vals f l) : l = [i] := by
  obtain ⟨ks, hnd, hmem, hmap⟩ := h
  have e : ks = [k] := by
    have h1 : k ∈ ks := (hmem k).2 ((hf k).2 rfl)
    have h2 : ∀ x ∈ ks, x = k := fun x hx => (hf x).1 ((hmem x).1 hx)
    cases ks with
    | nil => simp at h1
    | cons a r =>
      obtain rfl := h2 a (List.mem_cons_self ..)
      cases r with
      | nil => rfl
      | cons b r =>
        have := h2 b (List.mem_cons_of_mem _ (List.mem_cons_self ..))
        subst this
        simp at hnd
  subst e
  simp [hk] at hmap
  cases l with
  | nil => simp at hmap
  | cons a r => simp at hmap; simp [hmap]

theorem argMade (w : World) (l : List UInt8) (cs : Array Value) (e : TypeId) (fr : Nat × Nat) (hc : (cells l).toArray = cs) (hl : l.length ≤ 1000) : Arg (w.alloc (.cells cs e fr)) (some ⟨w.heap.size, 0, none⟩) l.length l :=
  ⟨Nat.le_refl _, by omega, fun h => (by cases h), Reads.made w l cs e fr _ rfl hc⟩
theorem intsNone (w : World) : IntsArg w none 0 [] := ⟨Nat.le_refl _, by simp, fun _ => rfl, fun j hj => absurd hj (Nat.not_lt_zero _), fun z hz => absurd hz List.not_mem_nil⟩
theorem pick_nil (i most : Nat) : Dk.pick [] i most = 0 := by unfold Dk.pick; rw [if_neg (by simp)]
theorem Sess.refs {w0 w : World} {n Bd : Nat} {s : Dk.St} (h : Sess w0 n Bd s w) (m : Nat) (ys : List Nat) (hy : Dk.Order (s.settle m) (s.settle m).dur ys) : ∀ k ∈ ys, (s.files k).synced ≤ (s.files k).bytes.length := order_ref h.disk m ys hy

set_option maxRecDepth 100000 in
set_option maxHeartbeats 1000000 in
theorem first_any (w : World) (p : Nat → Addr) (hs : SentsD w p) : Calls Tryd.prog 8 #[] w fun e w' => e = .returned (.bool true) ∧ Below w.heap.size w w' := by
  have HSE := hide hs
  have HN := hide (new_sess 100 w w (Below.refl _ _) (by omega) (by omega))
  have kc := fun (w : World) (C : Array Value) (n c : Nat) => Lib.run_convert_bytes_const (P := Tryd.prog) w 33 5 C n c Tryd.underlying33 Tryd.underlying5
  clear hs
  go_enter Tryd.func8, Tryd.ntmps8
  go_wp2_with (first
    | (go_at_call 9; refine HN.out.mono ?_; rintro e w1 ⟨Bd, rfl, h1, -⟩; have H1 := hide h1; have V1 := hide (Dk.V.new 100); clear h1)
    | (go_at_call 12; refine (H1.out.create p HSE.out (by omega) [97] (by decide)).mono ?_; rintro e w2 ⟨rfl, h2⟩; obtain ⟨s2, e2, v2, f2, -⟩ := V1.out.create [97] w1.heap.size (by decide) rfl; rw [e2] at h2 ⊢; have H2 := hide h2; have V2 := hide v2; have F2 := hide f2; clear h2 e2 v2 f2; simp only [errR])
    | (go_at_call 19; refine (H5.out.append p HSE.out (by omega) [97] (by decide) _ _ _ [122] (balloc (Below.refl _ _) _) (argMade w5 [122] _ _ _ rfl (by decide)) rfl (by decide) (fun x o e _ => by cases e; exact .inr (Nat.le_refl _))).mono ?_; rintro e w6 ⟨rfl, h6⟩; obtain ⟨s6, e6, v6, f6, -⟩ := V5.out.append [97] w1.heap.size [122] (by simp [Dk.upd]) (by decide); rw [e6] at h6 ⊢; have H6 := hide h6; have V6 := hide v6; have F6 := hide f6; clear h6 e6 v6 f6; simp only [errR])
    | (go_at_call 19; refine (H2.out.append p HSE.out (by omega) [97] (by decide) _ _ _ [120, 121] (balloc (Below.refl _ _) _) (argMade w2 [120, 121] _ _ _ rfl (by decide)) rfl (by decide) (fun x o e _ => by cases e; exact .inr (Nat.le_refl _))).mono ?_; rintro e w3 ⟨rfl, h3⟩; obtain ⟨s3, e3, v3, f3, -⟩ := V2.out.append [97] w1.heap.size [120, 121] (by simp [Dk.upd]) (by decide); rw [e3] at h3 ⊢; have H3 := hide h3; have V3 := hide v3; have F3 := hide f3; clear h3 e3 v3 f3; simp only [errR])
    | (go_at_call 26; refine (H3.out.sync p HSE.out (by omega) [97] (by decide)).mono ?_; rintro e w4 ⟨rfl, h4⟩; obtain ⟨s4, e4, v4, f4, -⟩ := V3.out.sync [97] w1.heap.size (by simp [Dk.upd]); rw [e4] at h4 ⊢; have H4 := hide h4; have V4 := hide v4; have F4 := hide f4; clear h4 e4 v4 f4; simp only [errR])
    | (go_at_call 17; refine (H4.out.syncDir p HSE.out (by omega)).mono ?_; rintro e w5 ⟨rfl, h5⟩; obtain ⟨s5, e5, v5, f5⟩ := V4.out.syncDir; rw [e5] at h5 ⊢; have H5 := hide h5; have V5 := hide v5; have F5 := hide (f5 w1.heap.size); clear h5 e5 v5 f5; simp only [errR])
    | (go_at_call 15; refine (H6.out.crash (by omega) none 0 0 [] (Below.refl _ _) (intsNone _) rfl (fun x o e => by cases e)).mono ?_; rintro e w7 ⟨rfl, ys, hy, h7⟩; obtain ⟨m, hm, -, v7, f7⟩ := V6.out.crash [] ys hy (H6.out.refs _ _ hy); have H7 := hide h7; have hn : Dk.ons (([] : List Dk.Mv).take m) (Dk.ons ([] ++ [⟨[], [97], some w1.heap.size⟩]) fun _ => none) [97] = some w1.heap.size := (by simp [Dk.ons, Dk.on_to, Dk.upd]); obtain ⟨j, -, -, hj⟩ := f7 [97] _ hn; have hl := (v7.len [97] _ hn).1; rw [hj, pick_nil, F6.out, F5.out, F4.out, F3.out, F2.out] at hl; have HL := hide hl; have HFD := hide (v7.find [97] _ hn); clear h7 v7 f7 hm hy hn hj hl)
    | (go_at_call 24; refine (H7.out.len p HSE.out [97] (by decide)).mono ?_; rintro e w8 ⟨rfl, q, hq⟩; rw [HL.out, HFD.out]; have H8 := hide (H7.out.drewN q); rw [← hq] at H8; clear hq; simp only [errR])
    | fail)
  go_ret
  exact ⟨rfl, H8.out.below⟩
end Go.Proofs.YtnjcngmmgceijaaDoor
