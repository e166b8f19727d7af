/-
  A range over a function whose rounds leave the walks of maps alone: the law of SeqW for a relation that only a walk's object may break.
-/
import Derived.Test.YtnjcngmmgceijaaDoorSeqW
namespace Go.Proofs.YtnjcngmmgceijaaDoor
open Go.RowKit

theorem range_keep {α : Type} {F : Fence} {n : Nat} {P : Program} {g : Operand} {ps : Array Tmp} {assign body : Code} {Q : Exit → Act → World → Prop} {a : Act} {w : World}
    (hro : F.round = none) (h1 : 1 ≤ n) {gf : Nat} {lb : Array Value} (hg : a.eval g = .func (.func gf) #[] lb) (hFg : F.fn gf) (eg : ∀ args w, (callFunc gf args).run P w = .ok (.enter gf args) w)
    {encs : α → Array Value} {G : List α → α → World → Prop} {Kp : World → World → Prop} {S Sp : List α → Prop} {N : Nat} {w0 : World} (hseq : SeqWith F (n - 1) P gf lb encs G Kp S Sp N w0)
    (hKt : ∀ {A B C : World}, Kp A B → Kp B C → Kp A C) (hKb : ∀ (W : World) (l : Nat) (o o' : Obj), w.heap.size ≤ l → W.heap[l]? = some o → o.isWalk = false → Kp W (W.putObj l o')) (hb0 : Below w0.heap.size w0 w) (hps : ∀ x, (encs x).size = ps.size)
    (I : List α → World → Prop) (Ix : Code → List α → World → Prop) (hI : OwnFrom w.heap.size I) (hIx : ∀ c, OwnFrom w.heap.size (Ix c)) (h0 : I [] w) (Ax : List α → α → Act → World → Prop) (hAx : ∀ pre x a', OwnFrom w.heap.size (fun (_ : Unit) W => Ax pre x a' W))
    (hassign : ∀ (l : Nat) (pre : List α) (x : α) (W : World) (K : Act → World → Prop), I pre W → G pre x W → (∀ a' W', Ax pre x a' W' → I pre W' → KeepsOthers W W' → Kp W W' → K a' W') →
      assign.wpIn (F.inRound l) (n - 1 - 1) P (Exit.then K (fun _ _ _ => False)) { tmps := (ps.zip (encs x)).foldl (fun t (p, v) => t.setIfInBounds p v) a.tmps, defers := [] } W)
    (hbody : ∀ (l : Nat) (pre : List α) (x : α) (a' : Act) (W : World), I pre W → Ax pre x a' W → pre.length < N → body.wpIn (F.inRound l) (n - 1 - 1) P (LeftBy Kp I Ix (pre ++ [x]) W) a' W)
    (hdone : ∀ (D : Nat) (xs : List α) (W : World), w.heap.size ≤ D → S xs → I xs W → W.heap[D]? = some (.deferred (some [])) → Q .normal { a with defers := { target := .collected D, args := #[] } :: a.defers } W)
    (hstop : ∀ (D : Nat) (c : Code) (pre : List α) (W : World), w.heap.size ≤ D → Sp pre → Ix c pre W → W.heap[D]? = some (.deferred (some [])) → c.wpIn F n P Q { a with defers := { target := .collected D, args := #[] } :: a.defers } W) :
    (Code.rangeFunc g ps assign body).wpIn F n P Q a w := by
  refine wpIn_rangeFunc fun fn hfn => ?_
  rw [hro]
  obtain ⟨D, hD⟩ : ∃ D, D = w.heap.size := ⟨_, rfl⟩
  obtain ⟨R0, hR0⟩ : ∃ R0 : Loop, R0 = { state := .ready, pending := none, fn, tmps := a.tmps, params := ps, assign, body, defers := D } := ⟨_, rfl⟩
  have er : R0.state = .ready := by rw [hR0]
  have ep : R0.params = ps := by rw [hR0]
  have ef : R0.fn = fn := by rw [hR0]
  have et : R0.tmps = a.tmps := by rw [hR0]
  have ea : R0.assign = assign := by rw [hR0]
  have eb : R0.body = body := by rw [hR0]
  have e0 : ({ R0 with state := .ready, pending := none } : Loop) = R0 := by rw [hR0]
  have e1 : R0.pending = none := by rw [hR0]
  obtain ⟨V, hV⟩ : ∃ V, V = (w.alloc (.deferred (some []))).alloc (.loop R0) := ⟨_, rfl⟩
  have hV1 : V.heap.size = D + 2 := by rw [hV, hD]; simp
  have hL : Laid2 V D R0 := by
    rw [hV, hD]
    refine ⟨?_, (Below.heap_alloc _ _ _ (by simp)).trans (World.alloc_heap_new w _)⟩
    have h := World.alloc_heap_new (w.alloc (.deferred (some []))) (.loop R0)
    rwa [World.size_alloc] at h
  have hVb : Below w.heap.size w V := by rw [hV]; exact ((Below.refl _ w).alloc (Nat.le_refl _) _).alloc (by simp) _
  have hVI : I [] V := by rw [hV]; exact hI.alloc _ (hI.alloc _ h0)
  have wide : ∀ {A : World} {row : Option Nat}, (∀ r, row = some r → V.heap.size ≤ r ∧ ∃ o : Obj, A.heap[r]? = some o ∧ o.isWalk = true) → ∀ r, row = some r → w.heap.size ≤ r ∧ ∃ o : Obj, A.heap[r]? = some o ∧ o.isCells = false :=
    fun hr r e => by obtain ⟨k, o, ho, hw⟩ := hr r e; exact ⟨by omega, o, ho, Obj.not_cells_of_walk hw⟩
  refine ⟨D + 1, [{ target := .collected D, args := #[] }], V, { target := .fn (.func gf) lb, args := #[.func (.yield (D + 1)) #[] #[]] }, V, gf, #[.func (.yield (D + 1)) #[] #[]] ++ lb, V, ?_, ?_, ?_, ?_, fun _ => h1, ?_⟩
  · rw [hV, hR0, hD]; exact run_enterLoop_outer _ _ _ _ _
  · simp only [resolve, hg]
    simp [go_sem]
  · intro f' hf'; simp [Target.leads] at hf'; subst hf'; exact hFg
  · simp [invoke, go_sem, eg]
  refine (hseq (D + 1) (fun pre W => I pre W ∧ Laid2 W D R0) (fun pre W => ∃ c, Ix c pre W ∧ Laid2 W D { R0 with state := .done, pending := some c }) V (hb0.trans (hVb.mono hb0.size))
    (fun s A B row hs hg' hr => ⟨hI s A B row hs.1 hg' (wide hr), hs.2.step hg' (fun k e => (hr k e).2)⟩)
    (fun s A B row hs hg' hr => by obtain ⟨c, hc, hl⟩ := hs; exact ⟨c, hIx c s A B row hc hg' (wide hr), hl.step hg' (fun k e => (hr k e).2)⟩) ?_ ⟨hVI, hL⟩).mono ?_
  · rintro pre x W ⟨hi, hl⟩ hgx hlen
    have hy := run_yield (P := P) (args := encs x) hl.lp (by rw [ep]; exact hps x)
    rw [ef, ep, et, ea, eb] at hy
    refine ⟨_, _, _, _, hy, roundIn_of_wpIn hfn (hassign (D + 1) pre x W _ hi hgx fun a' V' hax hi' hko hkp0 => ?_)⟩
    have hl' := hl.others hko
    have hbr := run_beginRound (P := P) hl'.lp er
    have hlb := hl'.turn { R0 with state := .busy }
    have hib : I pre (V'.putObj (D + 1) (.loop { R0 with state := .busy })) := hI.putObj _ hi' (by omega) hl'.lp rfl
    have hab : Ax pre x a' (V'.putObj (D + 1) (.loop { R0 with state := .busy })) := (hAx pre x a').putObj (s := ()) _ hax (by omega) hl'.lp rfl
    have hkb : Kp W (V'.putObj (D + 1) (.loop { R0 with state := .busy })) := hKt hkp0 (hKb _ _ _ _ (by omega) hl'.lp rfl)
    have hbd := hbody (D + 1) pre x a' _ hib hab hlen
    have fin : ∀ (jump : Option Code) (W3 : World), KeepsOthers (V'.putObj (D + 1) (.loop { R0 with state := .busy })) W3 →
        (Instr.endRound (D + 1) jump).run P W3 = .ok (.bool jump.isNone) (W3.putObj (D + 1) (.loop { R0 with state := if jump.isNone then .ready else .done, pending := jump })) ∧ Laid2 W3 D { R0 with state := .busy } := fun jump W3 hk3 => by
      have h := run_endRound (P := P) jump (hlb.others hk3).lp
      exact ⟨h, hlb.others hk3⟩
    refine ⟨_, hbr, wpIn_mono hbd ?_⟩
    rintro e a3 W3 hp
    cases e with
    | normal =>
      obtain ⟨hk3, hkp, hi3⟩ := hp
      obtain ⟨hr, hl3⟩ := fin none W3 hk3
      refine ⟨_, _, hr, .inl ⟨rfl, ⟨hI.putObj _ hi3 (by omega) hl3.lp rfl, ?_⟩, hKt (hKt hkb hkp) (hKb _ _ _ _ (by omega) hl3.lp rfl)⟩⟩
      have := hl3.turn { R0 with state := .ready, pending := none }
      rw [e0] at this
      simpa [e0] using this
    | ret =>
      obtain ⟨hk3, hi3⟩ := hp
      obtain ⟨hr, hl3⟩ := fin (some .ret) W3 hk3
      exact ⟨_, _, hr, .inr ⟨rfl, .ret, (hIx _).putObj _ hi3 (by omega) hl3.lp rfl, hl3.turn _⟩⟩
    | exit id =>
      obtain ⟨hk3, hi3⟩ := hp
      obtain ⟨hr, hl3⟩ := fin (some (.exit id)) W3 hk3
      exact ⟨_, _, hr, .inr ⟨rfl, .exit id, (hIx _).putObj _ hi3 (by omega) hl3.lp rfl, hl3.turn _⟩⟩
    | goto t =>
      obtain ⟨hk3, hi3⟩ := hp
      obtain ⟨hr, hl3⟩ := fin (some (.goto t)) W3 hk3
      exact ⟨_, _, hr, .inr ⟨rfl, .goto t, (hIx _).putObj _ hi3 (by omega) hl3.lp rfl, hl3.turn _⟩⟩
    | panic ch => exact hp.elim
    | outgrown => exact hp.elim
  · rintro e W2 ⟨⟨v, rfl⟩, (⟨xs, hS, hi, hl⟩ | ⟨pre, hSp, c, hi, hl⟩)⟩
    · refine ⟨none, _, ?_, hdone D xs _ (by omega) hS (hI.putObj _ hi (by omega) hl.lp rfl) (hl.turn { R0 with state := .exhausted, pending := none }).dd⟩
      have h := run_endLoop (P := P) hl.lp (by rw [er]; simp)
      rw [e1] at h
      exact h
    · refine ⟨some c, _, ?_, hstop D c pre _ (by omega) hSp ((hIx c).putObj _ hi (by omega) hl.lp rfl) (hl.turn { R0 with state := .exhausted, pending := some c }).dd⟩
      have h := run_endLoop (P := P) hl.lp (by simp)
      exact h

end Go.Proofs.YtnjcngmmgceijaaDoor
