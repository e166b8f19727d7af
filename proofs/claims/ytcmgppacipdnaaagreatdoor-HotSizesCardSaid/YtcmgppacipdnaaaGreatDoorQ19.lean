/-
  A move is done within a map of names.
-/
import Derived.Test.YtcmgppacipdnaaaGreatDoorQ18
import Derived.Deep.Cut
namespace Go.Proofs.YtcmgppacipdnaaaGreatDoor
open Go.RowKit Go.Maps

theorem Chg.then' {S : Nat → Prop} {a b c : World} (h : Chg S a b) (k : Chg S b c) : Chg S a c := h.then k
section
variable {w : World} {ops : Array Oper} {rest : List Oper} {o : Oper} {a : Act} {Q : Exit → Act → World → Prop}
theorem step_del (hg : o.guard = none) (m x : Operand) (hop : o.op = Op.call { callee := Callee.builtin Builtin.delete, args := #[m, x], argTypes := #[97, 9] }) (b n : Nat) (f : Dk.Dir) (hm : a.eval m = .map (some b)) (h : NamesAt w b n f) (k : Dk.Nm) (hk : k.length ≤ 9223372036854775807) (hx : a.eval x = encStr k)
    (hK : ∀ w', NamesAt w' b n (Dk.upd f k none) → w.grownBy w' (some b) → w'.heap.size = w.heap.size → wpList Tryz.prog ops Q rest (a.put o.dst (.tuple #[])) w') : wpList Tryz.prog ops Q (o :: rest) a w := by
  refine wpList_plain hg fun K' hK' => ?_
  obtain ⟨w', hrun, r1, r2, r3⟩ := h.del k hk o.type
  unfold Oper.wp
  simp [execOp, hop, resolve, invoke, builtin, hm, hx, hrun, Result.andThen]
  exact hK' _ _ (hK w' r1 r2 r3)
theorem step_put (hg : o.guard = none) (m x v : Operand) (hop : o.op = Op.mapUpdate 97 m x v) (b n : Nat) (f : Dk.Dir) (hm : a.eval m = .map (some b)) (h : NamesAt w b n f) (k : Dk.Nm) (hk : k.length ≤ 9223372036854775807) (hx : a.eval x = encStr k) (i : Nat) (hv : a.eval v = fileV (some i)) (hn : n < 9223372036854775807)
    (hK : ∀ w', NamesAt w' b (n + 1) (Dk.upd f k (some i)) → w.grownBy w' (some b) → w'.heap.size = w.heap.size → wpList Tryz.prog ops Q rest (a.put o.dst undef) w') : wpList Tryz.prog ops Q (o :: rest) a w := by
  refine wpList_plain hg fun K' hK' => ?_
  obtain ⟨w', hrun, r1, r2, r3⟩ := h.put k i hk hn
  unfold Oper.wp
  simp [execOp, hop, hm, hx, hv, hrun, Result.andThen]
  exact hK' _ _ (hK w' r1 r2 r3)
end
theorem made3D (w : World) (v0 v1 v2 : Value) (t : TypeId) : (w.alloc (.cells #[v0, v1, v2] t)).cell? ⟨w.heap.size, 0, none⟩ = some v0 ∧ (w.alloc (.cells #[v0, v1, v2] t)).cell? ⟨w.heap.size, 1, none⟩ = some v1 ∧ (w.alloc (.cells #[v0, v1, v2] t)).cell? ⟨w.heap.size, 2, none⟩ = some v2 :=
  ⟨by rw [World.cell?_alloc_mark]; rfl, by rw [World.cell?_alloc_mark]; rfl, by rw [World.cell?_alloc_mark]; rfl⟩
abbrev mvV (m : Dk.Mv) : Value := .agg #[encStr m.frm, encStr m.«to», fileV m.file]

set_option maxRecDepth 100000 in
theorem mvIn_any (m : Dk.Mv) (b n : Nat) (f : Dk.Dir) (w : World) (h : NamesAt w b n f) (hn : n < 1000000000000000) (h1 : m.frm.length ≤ 64) (h2 : m.«to».length ≤ 64) (h3 : m.«to» ≠ [] → m.file ≠ none) :
    Calls Tryz.prog 113 #[mvV m, .map (some b)] w fun e w' => e = .returned (.tuple #[]) ∧ NamesAt w' b (n + 1) (m.on f) ∧ Chg (fun k => k = b) w w' := by
  obtain ⟨frm, «to», file⟩ := m
  simp only at h1 h2 h3
  obtain ⟨m0, m1, m2⟩ := made3D w (encStr frm) (encStr «to») (fileV file) 157
  obtain ⟨W, hW⟩ : ∃ W, W = w.alloc (.cells #[encStr frm, encStr «to», fileV file] 157) := ⟨_, rfl⟩
  rw [← hW] at m0 m1 m2
  have hwb : Below w.heap.size w W := by rw [hW]; exact balloc (Below.refl _ _) _
  have HN := hide (h.same (hwb.block b h.lt))
  have HB := hide hwb
  have HNB : Hid (some w.heap.size ≠ some b) := hide (fun e => by injection e with e; have := h.lt; omega)
  have k1 : frm.length ≤ 9223372036854775807 := by omega
  have k2 : «to».length ≤ 9223372036854775807 := by omega
  have HW := hide hW
  clear h hwb hW
  obtain ⟨g, hg⟩ : ∃ g, g = Dk.Mv.on ⟨frm, «to», file⟩ f := ⟨_, rfl⟩
  rw [← hg]
  unfold Dk.Mv.on at hg
  simp only at hg
  by_cases hf : frm = []
  · subst hf
    by_cases ht : «to» = []
    · subst ht
      simp only [if_true] at hg
      subst hg
      go_enter Tryz.func113, Tryz.ntmps113
      go_upto_region 1 with fail
      rw [← HW.out]
      go_wp2_with fail
      go_end0
      exact ⟨rfl, HN.out.mono (by omega), Chg.of_below HB.out⟩
    · simp only [if_true, if_neg ht] at hg
      subst hg
      have he2 : List.isEmpty «to» = false := by cases «to» with | nil => exact absurd rfl ht | cons _ _ => rfl
      obtain ⟨i, rfl⟩ := Option.ne_none_iff_exists'.1 (h3 ht)
      go_enter Tryz.func113, Tryz.ntmps113
      go_upto_region 1 with fail
      rw [← HW.out]
      go_wp2_with (first
        | (at_mapUpdate; refine step_put rfl (.tmp 13) (.tmp 15) (.tmp 17) rfl b n f rfl HN.out «to» k2 rfl i rfl (by omega) ?_; intro w2 hn2 hg2 hz2)
        | fail)
      go_end0
      exact ⟨rfl, hn2, (Chg.of_below HB.out).then' (Chg.of_grown hg2 fun x e => by injection e with e; exact e.symm)⟩
  · have he1 : List.isEmpty frm = false := by cases frm with | nil => exact absurd rfl hf | cons _ _ => rfl
    by_cases ht : «to» = []
    · subst ht
      simp only [if_true, if_neg hf] at hg
      subst hg
      go_enter Tryz.func113, Tryz.ntmps113
      go_upto_region 1 with fail
      rw [← HW.out]
      go_wp2_with (first
        | (at_delete; refine step_del rfl (.tmp 7) (.tmp 9) rfl b n f rfl HN.out frm k1 rfl ?_; intro w2 hn2 hg2 hz2; have y1 := hg2.cell m1 HNB.out)
        | fail)
      go_end0
      exact ⟨rfl, hn2.mono (by omega), (Chg.of_below HB.out).then' (Chg.of_grown hg2 fun x e => by injection e with e; exact e.symm)⟩
    · simp only [if_neg ht, if_neg hf] at hg
      subst hg
      have he2 : List.isEmpty «to» = false := by cases «to» with | nil => exact absurd rfl ht | cons _ _ => rfl
      obtain ⟨i, rfl⟩ := Option.ne_none_iff_exists'.1 (h3 ht)
      go_enter Tryz.func113, Tryz.ntmps113
      go_upto_region 1 with fail
      rw [← HW.out]
      go_wp2_with (first
        | (at_delete; refine step_del rfl (.tmp 7) (.tmp 9) rfl b n f rfl HN.out frm k1 rfl ?_; intro w2 hn2 hg2 hz2; have y1 := hg2.cell m1 HNB.out; have y2 := hg2.cell m2 HNB.out)
        | (at_mapUpdate; refine step_put rfl (.tmp 13) (.tmp 15) (.tmp 17) rfl b n (Dk.upd f frm none) rfl hn2 «to» k2 rfl i rfl (by omega) ?_; intro w3 hn3 hg3 hz3)
        | fail)
      go_end0
      exact ⟨rfl, hn3, ((Chg.of_below HB.out).then' (Chg.of_grown hg2 fun x e => by injection e with e; exact e.symm)).then' (Chg.of_grown hg3 fun x e => by injection e with e; exact e.symm)⟩
end Go.Proofs.YtcmgppacipdnaaaGreatDoor
