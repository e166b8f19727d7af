/-
  The chapter's example: first(); CallEnds, walked.
-/
import Derived.Test.YthlclknbehfloaaDoorU1
import Derived.Test.YthlclknbehfloaaDoorT4
namespace Go.Proofs.YthlclknbehfloaaDoor.St

/-- A new store whose next outcomes are so many of one kind. -/
def sE (i : Nat) (o : Int) : S := { S.new with script := List.replicate i o }
theorem sE_zero (o : Int) : S.new = sE 0 o := rfl
theorem sE_more (i : Nat) (o : Int) : (sE i o).scripted [o] = sE (i + 1) o := by
  simp [sE, S.scripted, S.new, ← List.replicate_succ']
theorem cput_of (k : Nm) (hk : Dk.valid k = true) (b : List UInt8) (o : Int) (ho : BadO o) (t m : Nat) (ht : 0 < t) (s : S) (hs : s.script = List.replicate m o) :
    (cput t k b s).r = (if m < t then none else some 10) ∧ (cput t k b s).k = min (m + 1) t ∧ (cput t k b s).st.objs k = (if m < t ∨ o = 2 then some b else s.objs k) := by
  obtain ⟨h1, h2, h3⟩ := put_rep k hk b o ho t m none s hs
  obtain ⟨q1, q2, q3, q4⟩ := agn_lead (asks_bare (put_mild k b)) t none s
  rw [hs, lead_rep o ho] at q1
  refine ⟨?_, ?_, ?_⟩
  · by_cases h : m < t
    · rw [if_pos h]; exact h1 h
    · rw [if_neg h]; exact h2 (by omega) (.inl ht)
  · show (agn _ t none s).k = _
    rw [q1]; split <;> omega
  · show (agn _ t none s).st.objs k = _
    rw [h3]
    simp [ht]
end Go.Proofs.YthlclknbehfloaaDoor.St
namespace Go.Proofs.YthlclknbehfloaaDoor
open Go.RowKit Go.Maps

set_option maxRecDepth 100000 in
set_option maxHeartbeats 1000000 in
theorem caFirst_any {E : Nat → Prop} (h5 : E 5) (h10 : E 10) (w : World) (p : Nat → Addr) (hs : SentsOn E w p) : Calls Tryd.prog 22 #[] w fun e w' => e = .returned (.bool true) ∧ Below w.heap.size w w' := by
  have HS := hide hs
  have H5E := hide h5
  have H10E := hide h10
  have HF := hide (St.cput_of [97] (by decide) [] 2 (.inr rfl) 2 1 (by omega) (St.S.new.scripted [2]) rfl)
  have HA0 : Hid (∀ W : World, Arg W none 0 []) := hide (fun W => ⟨by simp, by omega, fun _ => rfl, .inl rfl⟩)
  clear hs h5 h10
  go_enter Tryd.func22, Tryd.ntmps22
  go_wp2_with (first
    | (go_at_call 9; refine (stNew_any w w (Below.refl _ _)).mono ?_; rintro e w1 ⟨sb, S, rfl, h, -, -⟩; have H1 := hide h; clear h)
    | (go_at_call 24; refine (caNew_any H1.out 2 (by omega) 2 rfl).mono ?_; rintro e w2 ⟨rfl, h, -⟩; have H2 := hide h; clear h H1; generalize w1.heap.size = cb at *)
    | (go_at_call 12; have h2g := H2.out.grow (balloc (Below.refl _ _) (.cells #[.int .i64 2] 3)); refine (StS.script h2g.st (some ⟨w2.heap.size, 0, none⟩) 1 1 [2] (IntsArg.made w2 [2] _ _ 1 rfl rfl (by omega) (by simp)) rfl (by decide)).mono ?_; rintro e w3 ⟨rfl, S3, h, hg⟩; have H3 := hide (h2g.other h hg (Nat.le_refl _)); clear h hg h2g H2)
    | (go_at_call 25; refine (H3.out.putE H5E.out H10E.out p HS.out (by omega) (by omega) [97] (by simp) none 0 0 [] (HA0.out _) rfl (by omega) (fun x o e => by cases e)).mono ?_; rintro e w4 ⟨rfl, S4, D4, h, -⟩; rw [HF.out.2.1] at h; rw [HF.out.1]; have H4 := hide h; have HAS := hide h.askedOf; clear h H3; simp only [errR])
    | (go_at_call 26; refine HAS.out.mono ?_; rintro e w5 ⟨rfl, rfl⟩)
    | fail)
  go_ret
  exact ⟨rfl, H4.out.st.below⟩
end Go.Proofs.YthlclknbehfloaaDoor
