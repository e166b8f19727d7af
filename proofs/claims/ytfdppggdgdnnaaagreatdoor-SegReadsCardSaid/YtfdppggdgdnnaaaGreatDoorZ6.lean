/-
  A range over a function whose rounds are handed what lies in memory: what each round is handed is told of by a relation on the world in which yield is called; and a body that writes cells of its own.
  The files of a map of names, handed over one after another: maps.Values.
  A range over a function whose rounds leave the walks of maps alone: the law of SeqW for a relation that only a walk's object may break.
  The files that an iterator hands over, gathered in a row: slices.AppendSeq, slices.Collect.
  All files of a map of names in a row: maps.Values, slices.Collect.
  slices.SortFunc's contract laid at files.
  A row of files sorted by their births: slices.SortFunc with the order of elderFirst.
  The files of a map of names, the elder first: slices.SortedFunc, elderFirst.
  The files that have a name, the elder first: elderFirst.
  The names of a disk fall back to a copy of the durable ones.
  What a crash keeps of each file, over a list that grows at its end.
  A crash: the names fall back, each file keeps what was synced and what a pick adds.
-/
import Derived.RangeFuncFrom
import Derived.RangeFuncWrites
import Derived.WalkKit
import Derived.Test.YtfdppggdgdnnaaaGreatDoorZ5
import Derived.Sort.MapsRangeIn
import Derived.Sort.KeysCollected
import Derived.OwnWalkIn
import Derived.TacticsInMore
import Derived.RegionIn
import Derived.LoopNIn
import Derived.LoopIn
import Derived.Shelf.Abstract
import Derived.Shelf.AbstractIn
import Derived.Shelf.SlLaysF
import Derived.Shelf.SlSortCmp.NoneTotal
namespace Go.Proofs.YtfdppggdgdnnaaaGreatDoor
open Go.RowKit

/-- An iterator that hands x over in a world of which G pre x holds; a round that goes on keeps Kp. -/
def SeqWith {α : Type} (F : Fence) (n : Nat) (P : Program) (gf : Nat) (lb : Array Value) (encs : α → Array Value) (G : List α → α → World → Prop) (Kp : World → World → Prop) (S Sp : List α → Prop) (N : Nat) (w0 : World) : Prop :=
  ∀ (l : Nat) (J Jx : List α → World → Prop) (W : World), Below w0.heap.size w0 W → AbidesFrom W.heap.size J → AbidesFrom W.heap.size Jx →
    (∀ pre x W1, J pre W1 → G pre x W1 → pre.length < N → YieldAt F (n - 1) P l (encs x) W1 fun e W' =>
      (e = .returned (.bool true) ∧ J (pre ++ [x]) W' ∧ Kp W1 W') ∨ (e = .returned (.bool false) ∧ Jx (pre ++ [x]) W')) →
    J [] W →
    CallsIn F n P gf (#[.func (.yield l) #[] #[]] ++ lb) W fun e W' => (∃ v, e = .returned v) ∧ ((∃ xs, S xs ∧ J xs W') ∨ (∃ pre, Sp pre ∧ Jx pre W'))

/-- How a round is left. -/
def LeftBy {α : Type} (Kp : World → World → Prop) (I : List α → World → Prop) (Ix : Code → List α → World → Prop) (xs : List α) (W : World) : Exit → Act → World → Prop
  | .normal, _, W' => KeepsOthers W W' ∧ Kp W W' ∧ I xs W'
  | .ret, _, W' => KeepsOthers W W' ∧ Ix .ret xs W'
  | .exit id, _, W' => KeepsOthers W W' ∧ Ix (.exit id) xs W'
  | .goto t, _, W' => KeepsOthers W W' ∧ Ix (.goto t) xs W'
  | .panic _, _, _ => False
  | .outgrown, _, _ => False

/-- The two blocks that such a loop lays, and what they hold. -/
structure Laid2 (W : World) (D : Nat) (r : Loop) : Prop where
  lp : W.heap[D + 1]? = some (.loop r)
  dd : W.heap[D]? = some (.deferred (some []))
theorem Laid2.step {W W' : World} {D : Nat} {r : Loop} {row : Option Nat} (h : Laid2 W D r) (hg : W.grownBy W' row) (hr : ∀ k, row = some k → ∃ o : Obj, W.heap[k]? = some o ∧ o.isWalk = true) : Laid2 W' D r :=
  ⟨(grownBy_keeps hg hr h.lp rfl).trans h.lp, (grownBy_keeps hg hr h.dd rfl).trans h.dd⟩
theorem Laid2.turn {W : World} {D : Nat} {r : Loop} (h : Laid2 W D r) (r' : Loop) : Laid2 (W.putObj (D + 1) (.loop r')) D r' :=
  ⟨World.putObj_heap_same (Array.getElem?_eq_some_iff.1 h.lp).1, (World.putObj_heap_other (by omega)).trans h.dd⟩
theorem Laid2.others {W W' : World} {D : Nat} {r : Loop} (h : Laid2 W D r) (hk : KeepsOthers W W') : Laid2 W' D r := ⟨hk.same _ _ h.lp rfl, hk.same _ _ h.dd rfl⟩

theorem range_with {α : Type} {F : Fence} {n : Nat} {P : Program} {g : Operand} {ps : Array Tmp} {assign body : Code} {Q : Exit → Act → World → Prop} {a : Act} {w : World}
    (hro : F.round = none) (h1 : 1 ≤ n) {gf : Nat} {lb : Array Value} (hg : a.eval g = .func (.func gf) #[] lb) (hFg : F.fn gf) (eg : ∀ args w, (callFunc gf args).run P w = .ok (.enter gf args) w)
    {encs : α → Array Value} {G : List α → α → World → Prop} {Kp : World → World → Prop} {S Sp : List α → Prop} {N : Nat} {w0 : World} (hseq : SeqWith F (n - 1) P gf lb encs G Kp S Sp N w0)
    (hKt : ∀ {A B C : World}, Kp A B → Kp B C → Kp A C) (hKb : ∀ (W : World) (l : Nat) (o o' : Obj), w.heap.size ≤ l → W.heap[l]? = some o → o.isCells = false → Kp W (W.putObj l o')) (hb0 : Below w0.heap.size w0 w) (hps : ∀ x, (encs x).size = ps.size)
    (I : List α → World → Prop) (Ix : Code → List α → World → Prop) (hI : OwnFrom w.heap.size I) (hIx : ∀ c, OwnFrom w.heap.size (Ix c)) (h0 : I [] w) (Ax : List α → α → Act → World → Prop) (hAx : ∀ pre x a', OwnFrom w.heap.size (fun (_ : Unit) W => Ax pre x a' W))
    (hassign : ∀ (l : Nat) (pre : List α) (x : α) (W : World) (K : Act → World → Prop), I pre W → G pre x W → (∀ a' W', Ax pre x a' W' → I pre W' → KeepsOthers W W' → Kp W W' → K a' W') →
      assign.wpIn (F.inRound l) (n - 1 - 1) P (Exit.then K (fun _ _ _ => False)) { tmps := (ps.zip (encs x)).foldl (fun t (p, v) => t.setIfInBounds p v) a.tmps, defers := [] } W)
    (hbody : ∀ (l : Nat) (pre : List α) (x : α) (a' : Act) (W : World), I pre W → Ax pre x a' W → pre.length < N → body.wpIn (F.inRound l) (n - 1 - 1) P (LeftBy Kp I Ix (pre ++ [x]) W) a' W)
    (hdone : ∀ (D : Nat) (xs : List α) (W : World), w.heap.size ≤ D → S xs → I xs W → W.heap[D]? = some (.deferred (some [])) → Q .normal { a with defers := { target := .collected D, args := #[] } :: a.defers } W)
    (hstop : ∀ (D : Nat) (c : Code) (pre : List α) (W : World), w.heap.size ≤ D → Sp pre → Ix c pre W → W.heap[D]? = some (.deferred (some [])) → c.wpIn F n P Q { a with defers := { target := .collected D, args := #[] } :: a.defers } W) :
    (Code.rangeFunc g ps assign body).wpIn F n P Q a w := by
  refine wpIn_rangeFunc fun fn hfn => ?_
  rw [hro]
  obtain ⟨D, hD⟩ : ∃ D, D = w.heap.size := ⟨_, rfl⟩
  obtain ⟨R0, hR0⟩ : ∃ R0 : Loop, R0 = { state := .ready, pending := none, fn, tmps := a.tmps, params := ps, assign, body, defers := D } := ⟨_, rfl⟩
  have er : R0.state = .ready := by rw [hR0]
  have ep : R0.params = ps := by rw [hR0]
  have ef : R0.fn = fn := by rw [hR0]
  have et : R0.tmps = a.tmps := by rw [hR0]
  have ea : R0.assign = assign := by rw [hR0]
  have eb : R0.body = body := by rw [hR0]
  have e0 : ({ R0 with state := .ready, pending := none } : Loop) = R0 := by rw [hR0]
  have e1 : R0.pending = none := by rw [hR0]
  obtain ⟨V, hV⟩ : ∃ V, V = (w.alloc (.deferred (some []))).alloc (.loop R0) := ⟨_, rfl⟩
  have hV1 : V.heap.size = D + 2 := by rw [hV, hD]; simp
  have hL : Laid2 V D R0 := by
    rw [hV, hD]
    refine ⟨?_, (Below.heap_alloc _ _ _ (by simp)).trans (World.alloc_heap_new w _)⟩
    have h := World.alloc_heap_new (w.alloc (.deferred (some []))) (.loop R0)
    rwa [World.size_alloc] at h
  have hVb : Below w.heap.size w V := by rw [hV]; exact ((Below.refl _ w).alloc (Nat.le_refl _) _).alloc (by simp) _
  have hVI : I [] V := by rw [hV]; exact hI.alloc _ (hI.alloc _ h0)
  have wide : ∀ {A : World} {row : Option Nat}, (∀ r, row = some r → V.heap.size ≤ r ∧ ∃ o : Obj, A.heap[r]? = some o ∧ o.isWalk = true) → ∀ r, row = some r → w.heap.size ≤ r ∧ ∃ o : Obj, A.heap[r]? = some o ∧ o.isCells = false :=
    fun hr r e => by obtain ⟨k, o, ho, hw⟩ := hr r e; exact ⟨by omega, o, ho, Obj.not_cells_of_walk hw⟩
  refine ⟨D + 1, [{ target := .collected D, args := #[] }], V, { target := .fn (.func gf) lb, args := #[.func (.yield (D + 1)) #[] #[]] }, V, gf, #[.func (.yield (D + 1)) #[] #[]] ++ lb, V, ?_, ?_, ?_, ?_, fun _ => h1, ?_⟩
  · rw [hV, hR0, hD]; exact run_enterLoop_outer _ _ _ _ _
  · simp only [resolve, hg]
    simp [go_sem]
  · intro f' hf'; simp [Target.leads] at hf'; subst hf'; exact hFg
  · simp [invoke, go_sem, eg]
  refine (hseq (D + 1) (fun pre W => I pre W ∧ Laid2 W D R0) (fun pre W => ∃ c, Ix c pre W ∧ Laid2 W D { R0 with state := .done, pending := some c }) V (hb0.trans (hVb.mono hb0.size))
    (fun s A B row hs hg' hr => ⟨hI s A B row hs.1 hg' (wide hr), hs.2.step hg' (fun k e => (hr k e).2)⟩)
    (fun s A B row hs hg' hr => by obtain ⟨c, hc, hl⟩ := hs; exact ⟨c, hIx c s A B row hc hg' (wide hr), hl.step hg' (fun k e => (hr k e).2)⟩) ?_ ⟨hVI, hL⟩).mono ?_
  · rintro pre x W ⟨hi, hl⟩ hgx hlen
    have hy := run_yield (P := P) (args := encs x) hl.lp (by rw [ep]; exact hps x)
    rw [ef, ep, et, ea, eb] at hy
    refine ⟨_, _, _, _, hy, roundIn_of_wpIn hfn (hassign (D + 1) pre x W _ hi hgx fun a' V' hax hi' hko hkp0 => ?_)⟩
    have hl' := hl.others hko
    have hbr := run_beginRound (P := P) hl'.lp er
    have hlb := hl'.turn { R0 with state := .busy }
    have hib : I pre (V'.putObj (D + 1) (.loop { R0 with state := .busy })) := hI.putObj _ hi' (by omega) hl'.lp rfl
    have hab : Ax pre x a' (V'.putObj (D + 1) (.loop { R0 with state := .busy })) := (hAx pre x a').putObj (s := ()) _ hax (by omega) hl'.lp rfl
    have hkb : Kp W (V'.putObj (D + 1) (.loop { R0 with state := .busy })) := hKt hkp0 (hKb _ _ _ _ (by omega) hl'.lp rfl)
    have hbd := hbody (D + 1) pre x a' _ hib hab hlen
    have fin : ∀ (jump : Option Code) (W3 : World), KeepsOthers (V'.putObj (D + 1) (.loop { R0 with state := .busy })) W3 →
        (Instr.endRound (D + 1) jump).run P W3 = .ok (.bool jump.isNone) (W3.putObj (D + 1) (.loop { R0 with state := if jump.isNone then .ready else .done, pending := jump })) ∧ Laid2 W3 D { R0 with state := .busy } := fun jump W3 hk3 => by
      have h := run_endRound (P := P) jump (hlb.others hk3).lp
      exact ⟨h, hlb.others hk3⟩
    refine ⟨_, hbr, wpIn_mono hbd ?_⟩
    rintro e a3 W3 hp
    cases e with
    | normal =>
      obtain ⟨hk3, hkp, hi3⟩ := hp
      obtain ⟨hr, hl3⟩ := fin none W3 hk3
      refine ⟨_, _, hr, .inl ⟨rfl, ⟨hI.putObj _ hi3 (by omega) hl3.lp rfl, ?_⟩, hKt (hKt hkb hkp) (hKb _ _ _ _ (by omega) hl3.lp rfl)⟩⟩
      have := hl3.turn { R0 with state := .ready, pending := none }
      rw [e0] at this
      simpa [e0] using this
    | ret =>
      obtain ⟨hk3, hi3⟩ := hp
      obtain ⟨hr, hl3⟩ := fin (some .ret) W3 hk3
      exact ⟨_, _, hr, .inr ⟨rfl, .ret, (hIx _).putObj _ hi3 (by omega) hl3.lp rfl, hl3.turn _⟩⟩
    | exit id =>
      obtain ⟨hk3, hi3⟩ := hp
      obtain ⟨hr, hl3⟩ := fin (some (.exit id)) W3 hk3
      exact ⟨_, _, hr, .inr ⟨rfl, .exit id, (hIx _).putObj _ hi3 (by omega) hl3.lp rfl, hl3.turn _⟩⟩
    | goto t =>
      obtain ⟨hk3, hi3⟩ := hp
      obtain ⟨hr, hl3⟩ := fin (some (.goto t)) W3 hk3
      exact ⟨_, _, hr, .inr ⟨rfl, .goto t, (hIx _).putObj _ hi3 (by omega) hl3.lp rfl, hl3.turn _⟩⟩
    | panic ch => exact hp.elim
    | outgrown => exact hp.elim
  · rintro e W2 ⟨⟨v, rfl⟩, (⟨xs, hS, hi, hl⟩ | ⟨pre, hSp, c, hi, hl⟩)⟩
    · refine ⟨none, _, ?_, hdone D xs _ (by omega) hS (hI.putObj _ hi (by omega) hl.lp rfl) (hl.turn { R0 with state := .exhausted, pending := none }).dd⟩
      have h := run_endLoop (P := P) hl.lp (by rw [er]; simp)
      rw [e1] at h
      exact h
    · refine ⟨some c, _, ?_, hstop D c pre _ (by omega) hSp ((hIx c).putObj _ hi (by omega) hl.lp rfl) (hl.turn { R0 with state := .exhausted, pending := some c }).dd⟩
      have h := run_endLoop (P := P) hl.lp (by simp)
      exact h

end Go.Proofs.YtfdppggdgdnnaaaGreatDoor

namespace Go.Proofs.YtfdppggdgdnnaaaGreatDoor
open Go.RowKit Go.Maps Go.Sort

/-- What reads as a pointer to a file is one. -/
theorem ptrE_some {v : Value} {z : DataW Unit × List MemPlace} (h : ptrE v = some z) : ∃ o : Option Nat, v = fileV o ∧ z.1 = fileD o (.lit (.int .i64 (-1))) := by
  unfold ptrE at h
  split at h
  · exact ⟨none, rfl, by cases h; rfl⟩
  · rename_i b
    exact ⟨some b, rfl, by cases h; rfl⟩
  · cases h

/-- A key whose element reads as a pointer leads to a file. -/
theorem at_file {f : Dk.Dir} {D0 : DataW Unit} (hat0 : ∀ k zd, D0.atKey (.string k) zd = fileD (f k) zd) {k : Dk.Nm} {o : Option Nat} (hat : ∀ zd, D0.atKey (.string k) zd = fileD o (.lit (.int .i64 (-1)))) : ∃ i, f k = some i ∧ o = some i := by
  cases hf : f k with
  | none =>
    have h1 := hat (.lit (.bool true))
    rw [hat0, hf] at h1
    cases o <;> simp [fileD] at h1
  | some i =>
    refine ⟨i, rfl, ?_⟩
    have h1 := hat (.lit (.bool true))
    rw [hat0, hf] at h1
    cases o with
    | none => simp [fileD] at h1 <;> omega
    | some j =>
      simp [fileD] at h1
      congr 1
      omega
theorem has_iff {f : Dk.Dir} {D0 : DataW Unit} (hat0 : ∀ k zd, D0.atKey (.string k) zd = fileD (f k) zd) (x : Dk.Nm) : Maps.has D0 (.string x) = true ↔ f x ≠ none := by
  cases hf : f x with
  | none =>
    have := has_false_of_atKey (D := D0) (k := .string x) fun z => by rw [hat0, hf]; rfl
    simp [this]
  | some i =>
    have := has_true_of_atKey (D := D0) (k := .string x) (y := .lit (.int .i64 (i : Int))) fun z => by rw [hat0, hf]; rfl
    simp [this]

set_option maxRecDepth 100000 in
set_option maxHeartbeats 1000000 in
theorem values1_in (F : Fence) (n : Nat) (h8 : F.fn 133) (hro : F.round = none) (hn : 1 ≤ n) (l Bm b nn : Nat) (f : Dk.Dir) (D0 : DataW Unit) (J Jx : List Nat → World → Prop)
    (hY : ∀ pre x W, J pre W → pre.length < Maps.size D0 → YieldAt F (n - 1) Tryz.prog l #[fileV (some x)] W fun e W' =>
      (e = .returned (.bool true) ∧ J (pre ++ [x]) W' ∧ KeepsWalks W W') ∨ (e = .returned (.bool false) ∧ Jx (pre ++ [x]) W'))
    (W : World) (hJ : AbidesFrom W.heap.size J) (hm : W.cell? ⟨Bm, 0, none⟩ = some (.map (some b))) (hown : W.ownsMap Tryz.prog 9 ptrE b nn D0) (hat0 : ∀ k zd, D0.atKey (.string k) zd = fileD (f k) zd) (h0 : J [] W) :
    CallsIn F n Tryz.prog 133 #[.func (.yield l) #[] #[], .pointer (some ⟨Bm, 0, none⟩)] W fun e W' => (∃ v, e = .returned v) ∧
      ((∃ xs, (Dk.Vals f xs ∧ xs.length ≤ Maps.size D0) ∧ J xs W') ∨ (∃ pre, True ∧ Jx pre W')) := by
  refine callsIn_of_wp Tryz.func133 rfl h8 ?_ hro
  simp only [Tryz.ntmps133, List.size_toArray, List.length_cons, List.length_nil, Nat.reduceAdd, Nat.reduceSub, Array.replicate_succ, Array.replicate_zero, List.push_toArray, List.append_toArray, List.nil_append, List.cons_append]
  have tk : Tryz.prog.underlying 9 = some .string := Tryz.underlying9
  gi_wp2_with (first
    | (gi_at_range; refine wpListIn_range_own _ rfl _ 123 rfl 9 128 (string_keyed tk) map_type _ b nn _ rfl hown ?_; intro w0 hrg0 hg0 hs0)
    | gi_in)
  go_frame
  gi_loopw [4] (fun _ wr => ∃ (left : Lit → Bool) (cnt : Nat) (ps : List (Dk.Nm × Nat)), wr.ranges Tryz.prog 9 ptrE b W.heap.size nn D0 left cnt ∧ ps.length + cnt ≤ Maps.size D0 ∧ Collected D0 left (ps.map (·.1)) ∧ (∀ p ∈ ps, f p.1 = some p.2) ∧ J (ps.map (·.2)) wr)
    (fun _ wr => wr.rangeLeft b W.heap.size)
  case atStart =>
    exact ⟨_, _, [], hrg0, by simp, Collected.start D0, by simp, hJ [] W w0 none h0 hg0 (fun r e => by cases e)⟩
  case round =>
    obtain ⟨left, cnt, ps, hrg, hcs, hC, hV, hJs⟩ := hrel
    gi_wp2_with (first
      | (gi_at_next; refine wpListIn_next_ranges _ rfl _ rfl 9 (string_keyed tk) ptrE encStr fileV (fun key kl hk => by obtain ⟨x, hx, _⟩ := Maps.keyOf_str tk hk; exact ⟨x, hx⟩) (fun v y hv => by obtain ⟨c, e, _⟩ := ptrE_some hv; exact ⟨c, e⟩) b W.heap.size nn _ _ _ rfl hrg ?_ ?_)
      | gi_in)
    · intro hc0 hl0
      gi_wp2
      go_end0
      refine ⟨⟨_, rfl⟩, .inl ⟨_, ⟨⟨ps.map (·.1), hC.1, fun x => ?_, ?_⟩, by rw [List.length_map]; omega⟩, hJs⟩⟩
      · rw [hC.2 x, hl0, ← has_iff hat0 x]; simp
      · simp only [List.map_map]
        exact List.map_congr_left fun p hp => (hV p hp).symm
    · intro x c kl yd yp w2 cnt2 hkey hlk hv hat hrg2 hlt hg2 hs2 hen
      obtain ⟨x', ex, rfl, _⟩ := Maps.keyOf_str tk hkey
      obtain rfl : x = x' := encStr_inj ex
      obtain ⟨i, hfi, hci⟩ : ∃ i, f x = some i ∧ c = some i := by
        have hv2 : ptrE (fileV c) = some (fileD c (.lit (.int .i64 (-1))), []) := by cases c <;> rfl
        rw [hv2] at hv
        obtain ⟨rfl, -⟩ := Prod.mk.inj (Option.some.inj hv)
        exact at_file hat0 hat
      subst hci
      have hJ2 : J (ps.map (·.2)) w2 := hJ _ wr w2 (some W.heap.size) hJs hg2 (fun r e => by cases e; exact ⟨Nat.le_refl _, hrg.iter_walk⟩)
      obtain ⟨fn, tmps, assign, body, hy, hR⟩ := hY (ps.map (·.2)) i w2 hJ2 (by simp; omega)
      clear hs2
      gi_wp2
      refine hR.mono ?_
      have hC2 : Collected D0 (fun z => left z && !z.sameKey (.string x)) ((ps ++ [(x, i)]).map (·.1)) := by simpa using hC.step hlk hat
      have hV2 : ∀ p ∈ ps ++ [(x, i)], f p.1 = some p.2 := fun p hp => (List.mem_append.1 hp).elim (hV p) (fun e => by simp at e; subst e; exact hfi)
      rintro e W3 (⟨rfl, hJ3, hk3⟩ | ⟨rfl, hJx3⟩)
      · gi_wp2
        have hrg3 := hrg2.of_walks hk3
        go_roundw
        case rel => exact ⟨_, cnt2, ps ++ [(x, i)], hrg3, by simp; omega, hC2, hV2, by simpa using hJ3⟩
        case measure => rw [hrg3.left_eq, hrg.left_eq]; exact hlt
      · gi_wp2
        refine bodyPost_ret (results_none rfl _ _ _) rfl ?_
        exact ⟨⟨_, rfl⟩, .inr ⟨_, trivial, hJx3⟩⟩
end Go.Proofs.YtfdppggdgdnnaaaGreatDoor

namespace Go.Proofs.YtfdppggdgdnnaaaGreatDoor
open Go.RowKit

theorem range_keep {α : Type} {F : Fence} {n : Nat} {P : Program} {g : Operand} {ps : Array Tmp} {assign body : Code} {Q : Exit → Act → World → Prop} {a : Act} {w : World}
    (hro : F.round = none) (h1 : 1 ≤ n) {gf : Nat} {lb : Array Value} (hg : a.eval g = .func (.func gf) #[] lb) (hFg : F.fn gf) (eg : ∀ args w, (callFunc gf args).run P w = .ok (.enter gf args) w)
    {encs : α → Array Value} {G : List α → α → World → Prop} {Kp : World → World → Prop} {S Sp : List α → Prop} {N : Nat} {w0 : World} (hseq : SeqWith F (n - 1) P gf lb encs G Kp S Sp N w0)
    (hKt : ∀ {A B C : World}, Kp A B → Kp B C → Kp A C) (hKb : ∀ (W : World) (l : Nat) (o o' : Obj), w.heap.size ≤ l → W.heap[l]? = some o → o.isWalk = false → Kp W (W.putObj l o')) (hb0 : Below w0.heap.size w0 w) (hps : ∀ x, (encs x).size = ps.size)
    (I : List α → World → Prop) (Ix : Code → List α → World → Prop) (hI : OwnFrom w.heap.size I) (hIx : ∀ c, OwnFrom w.heap.size (Ix c)) (h0 : I [] w) (Ax : List α → α → Act → World → Prop) (hAx : ∀ pre x a', OwnFrom w.heap.size (fun (_ : Unit) W => Ax pre x a' W))
    (hassign : ∀ (l : Nat) (pre : List α) (x : α) (W : World) (K : Act → World → Prop), I pre W → G pre x W → (∀ a' W', Ax pre x a' W' → I pre W' → KeepsOthers W W' → Kp W W' → K a' W') →
      assign.wpIn (F.inRound l) (n - 1 - 1) P (Exit.then K (fun _ _ _ => False)) { tmps := (ps.zip (encs x)).foldl (fun t (p, v) => t.setIfInBounds p v) a.tmps, defers := [] } W)
    (hbody : ∀ (l : Nat) (pre : List α) (x : α) (a' : Act) (W : World), I pre W → Ax pre x a' W → pre.length < N → body.wpIn (F.inRound l) (n - 1 - 1) P (LeftBy Kp I Ix (pre ++ [x]) W) a' W)
    (hdone : ∀ (D : Nat) (xs : List α) (W : World), w.heap.size ≤ D → S xs → I xs W → W.heap[D]? = some (.deferred (some [])) → Q .normal { a with defers := { target := .collected D, args := #[] } :: a.defers } W)
    (hstop : ∀ (D : Nat) (c : Code) (pre : List α) (W : World), w.heap.size ≤ D → Sp pre → Ix c pre W → W.heap[D]? = some (.deferred (some [])) → c.wpIn F n P Q { a with defers := { target := .collected D, args := #[] } :: a.defers } W) :
    (Code.rangeFunc g ps assign body).wpIn F n P Q a w := by
  refine wpIn_rangeFunc fun fn hfn => ?_
  rw [hro]
  obtain ⟨D, hD⟩ : ∃ D, D = w.heap.size := ⟨_, rfl⟩
  obtain ⟨R0, hR0⟩ : ∃ R0 : Loop, R0 = { state := .ready, pending := none, fn, tmps := a.tmps, params := ps, assign, body, defers := D } := ⟨_, rfl⟩
  have er : R0.state = .ready := by rw [hR0]
  have ep : R0.params = ps := by rw [hR0]
  have ef : R0.fn = fn := by rw [hR0]
  have et : R0.tmps = a.tmps := by rw [hR0]
  have ea : R0.assign = assign := by rw [hR0]
  have eb : R0.body = body := by rw [hR0]
  have e0 : ({ R0 with state := .ready, pending := none } : Loop) = R0 := by rw [hR0]
  have e1 : R0.pending = none := by rw [hR0]
  obtain ⟨V, hV⟩ : ∃ V, V = (w.alloc (.deferred (some []))).alloc (.loop R0) := ⟨_, rfl⟩
  have hV1 : V.heap.size = D + 2 := by rw [hV, hD]; simp
  have hL : Laid2 V D R0 := by
    rw [hV, hD]
    refine ⟨?_, (Below.heap_alloc _ _ _ (by simp)).trans (World.alloc_heap_new w _)⟩
    have h := World.alloc_heap_new (w.alloc (.deferred (some []))) (.loop R0)
    rwa [World.size_alloc] at h
  have hVb : Below w.heap.size w V := by rw [hV]; exact ((Below.refl _ w).alloc (Nat.le_refl _) _).alloc (by simp) _
  have hVI : I [] V := by rw [hV]; exact hI.alloc _ (hI.alloc _ h0)
  have wide : ∀ {A : World} {row : Option Nat}, (∀ r, row = some r → V.heap.size ≤ r ∧ ∃ o : Obj, A.heap[r]? = some o ∧ o.isWalk = true) → ∀ r, row = some r → w.heap.size ≤ r ∧ ∃ o : Obj, A.heap[r]? = some o ∧ o.isCells = false :=
    fun hr r e => by obtain ⟨k, o, ho, hw⟩ := hr r e; exact ⟨by omega, o, ho, Obj.not_cells_of_walk hw⟩
  refine ⟨D + 1, [{ target := .collected D, args := #[] }], V, { target := .fn (.func gf) lb, args := #[.func (.yield (D + 1)) #[] #[]] }, V, gf, #[.func (.yield (D + 1)) #[] #[]] ++ lb, V, ?_, ?_, ?_, ?_, fun _ => h1, ?_⟩
  · rw [hV, hR0, hD]; exact run_enterLoop_outer _ _ _ _ _
  · simp only [resolve, hg]
    simp [go_sem]
  · intro f' hf'; simp [Target.leads] at hf'; subst hf'; exact hFg
  · simp [invoke, go_sem, eg]
  refine (hseq (D + 1) (fun pre W => I pre W ∧ Laid2 W D R0) (fun pre W => ∃ c, Ix c pre W ∧ Laid2 W D { R0 with state := .done, pending := some c }) V (hb0.trans (hVb.mono hb0.size))
    (fun s A B row hs hg' hr => ⟨hI s A B row hs.1 hg' (wide hr), hs.2.step hg' (fun k e => (hr k e).2)⟩)
    (fun s A B row hs hg' hr => by obtain ⟨c, hc, hl⟩ := hs; exact ⟨c, hIx c s A B row hc hg' (wide hr), hl.step hg' (fun k e => (hr k e).2)⟩) ?_ ⟨hVI, hL⟩).mono ?_
  · rintro pre x W ⟨hi, hl⟩ hgx hlen
    have hy := run_yield (P := P) (args := encs x) hl.lp (by rw [ep]; exact hps x)
    rw [ef, ep, et, ea, eb] at hy
    refine ⟨_, _, _, _, hy, roundIn_of_wpIn hfn (hassign (D + 1) pre x W _ hi hgx fun a' V' hax hi' hko hkp0 => ?_)⟩
    have hl' := hl.others hko
    have hbr := run_beginRound (P := P) hl'.lp er
    have hlb := hl'.turn { R0 with state := .busy }
    have hib : I pre (V'.putObj (D + 1) (.loop { R0 with state := .busy })) := hI.putObj _ hi' (by omega) hl'.lp rfl
    have hab : Ax pre x a' (V'.putObj (D + 1) (.loop { R0 with state := .busy })) := (hAx pre x a').putObj (s := ()) _ hax (by omega) hl'.lp rfl
    have hkb : Kp W (V'.putObj (D + 1) (.loop { R0 with state := .busy })) := hKt hkp0 (hKb _ _ _ _ (by omega) hl'.lp rfl)
    have hbd := hbody (D + 1) pre x a' _ hib hab hlen
    have fin : ∀ (jump : Option Code) (W3 : World), KeepsOthers (V'.putObj (D + 1) (.loop { R0 with state := .busy })) W3 →
        (Instr.endRound (D + 1) jump).run P W3 = .ok (.bool jump.isNone) (W3.putObj (D + 1) (.loop { R0 with state := if jump.isNone then .ready else .done, pending := jump })) ∧ Laid2 W3 D { R0 with state := .busy } := fun jump W3 hk3 => by
      have h := run_endRound (P := P) jump (hlb.others hk3).lp
      exact ⟨h, hlb.others hk3⟩
    refine ⟨_, hbr, wpIn_mono hbd ?_⟩
    rintro e a3 W3 hp
    cases e with
    | normal =>
      obtain ⟨hk3, hkp, hi3⟩ := hp
      obtain ⟨hr, hl3⟩ := fin none W3 hk3
      refine ⟨_, _, hr, .inl ⟨rfl, ⟨hI.putObj _ hi3 (by omega) hl3.lp rfl, ?_⟩, hKt (hKt hkb hkp) (hKb _ _ _ _ (by omega) hl3.lp rfl)⟩⟩
      have := hl3.turn { R0 with state := .ready, pending := none }
      rw [e0] at this
      simpa [e0] using this
    | ret =>
      obtain ⟨hk3, hi3⟩ := hp
      obtain ⟨hr, hl3⟩ := fin (some .ret) W3 hk3
      exact ⟨_, _, hr, .inr ⟨rfl, .ret, (hIx _).putObj _ hi3 (by omega) hl3.lp rfl, hl3.turn _⟩⟩
    | exit id =>
      obtain ⟨hk3, hi3⟩ := hp
      obtain ⟨hr, hl3⟩ := fin (some (.exit id)) W3 hk3
      exact ⟨_, _, hr, .inr ⟨rfl, .exit id, (hIx _).putObj _ hi3 (by omega) hl3.lp rfl, hl3.turn _⟩⟩
    | goto t =>
      obtain ⟨hk3, hi3⟩ := hp
      obtain ⟨hr, hl3⟩ := fin (some (.goto t)) W3 hk3
      exact ⟨_, _, hr, .inr ⟨rfl, .goto t, (hIx _).putObj _ hi3 (by omega) hl3.lp rfl, hl3.turn _⟩⟩
    | panic ch => exact hp.elim
    | outgrown => exact hp.elim
  · rintro e W2 ⟨⟨v, rfl⟩, (⟨xs, hS, hi, hl⟩ | ⟨pre, hSp, c, hi, hl⟩)⟩
    · refine ⟨none, _, ?_, hdone D xs _ (by omega) hS (hI.putObj _ hi (by omega) hl.lp rfl) (hl.turn { R0 with state := .exhausted, pending := none }).dd⟩
      have h := run_endLoop (P := P) hl.lp (by rw [er]; simp)
      rw [e1] at h
      exact h
    · refine ⟨some c, _, ?_, hstop D c pre _ (by omega) hSp ((hIx c).putObj _ hi (by omega) hl.lp rfl) (hl.turn { R0 with state := .exhausted, pending := some c }).dd⟩
      have h := run_endLoop (P := P) hl.lp (by simp)
      exact h

end Go.Proofs.YtfdppggdgdnnaaaGreatDoor

namespace Go.Proofs.YtfdppggdgdnnaaaGreatDoor
open Go.RowKit Go.Maps Go.Sort

abbrev fileE (i : Nat) : Value := .pointer (some ⟨i, 0, none⟩)
theorem ptr_info : (Tryz.prog.info? 128).map (fun i => (i.zero, i.size, i.bytes)) = some (some (.pointer none), 1, 8) := by kernel_rfl
theorem ptrs_type : Tryz.prog.underlying 129 = some (.slice 128) := by kernel_rfl

/-- Between two rounds: what has come lies in a row that the box leads to. -/
structure Gath (w0 : World) (Bs : Nat) (pre : List Nat) (W : World) : Prop where
  box : ∃ v, W.heap[Bs]? = some (.cells #[v] 129 (0, 0)) ∧ W.ownsRow w0.heap.size 128 1 v pre.length (pre.map fileE)
  below : Below w0.heap.size w0 W
theorem Gath.step {w0 W W' : World} {Bs : Nat} {pre : List Nat} {row : Option Nat} (h : Gath w0 Bs pre W) (hg : W.grownBy W' row) (hr : ∀ r, row = some r → w0.heap.size ≤ r ∧ ∃ o : Obj, W.heap[r]? = some o ∧ o.isCells = false) : Gath w0 Bs pre W' := by
  obtain ⟨v, h1, h2⟩ := h.box
  have nb : ∀ k (c : Array Value) (t : TypeId) (z : Nat × Nat), W.heap[k]? = some (.cells c t z) → some k ≠ row := fun k c t z hk e => by
    obtain ⟨_, o, ho, hc⟩ := hr k e.symm
    rw [hk] at ho
    injection ho with ho
    subst ho
    cases hc
  refine ⟨⟨v, (hg.block Bs (Array.getElem?_eq_some_iff.1 h1).1 (nb _ _ _ _ h1)).trans h1, h2.kept hg ?_⟩, h.below.grown hg h.below.size fun k e => (hr k e).1⟩
  rcases h2.2 with ⟨rfl, _⟩ | ⟨g, cap, cur, rfl, _, hgb, _⟩
  · exact .inl rfl
  · exact .inr fun e => nb g _ _ _ hgb e

theorem values_seq (F : Fence) (n : Nat) (h8 : F.fn 133) (hro : F.round = none) (hn : 1 ≤ n) (Bm b nn : Nat) (f : Dk.Dir) (w : World) (hm : w.cell? ⟨Bm, 0, none⟩ = some (.map (some b))) (h : NamesAt w b nn f) :
    ∃ N, N ≤ nn ∧ SeqWith F n Tryz.prog 133 #[.pointer (some ⟨Bm, 0, none⟩)] (fun i => #[fileE i]) (fun _ _ _ => True) KeepsWalks (fun xs => Dk.Vals f xs ∧ xs.length ≤ N) (fun _ => True) N w := by
  obtain ⟨D0, hown, hat⟩ := h.ex
  refine ⟨Maps.size D0, hown.size_le, fun l J Jx W hW hJ _ hY h0 => ?_⟩
  have hBm : Bm < w.heap.size := World.block_lt_of_cell? w _ hm
  have hown' : W.ownsMap Tryz.prog 9 ptrE b nn D0 := by
    have hbl := hown.lt
    obtain ⟨es, clock, hb, Ft, hs, hD⟩ := hown
    exact ⟨es, clock, (hW.block b hbl).trans hb, Ft, hs, hD⟩
  exact values1_in F n h8 hro hn l Bm b nn f D0 J Jx (fun pre x W1 hj hl => hY pre x W1 hj trivial hl) W hJ ((hW.cell (p := ⟨Bm, 0, none⟩) hBm).trans hm) hown' hat h0

set_option maxRecDepth 100000 in
set_option maxHeartbeats 2000000 in
theorem appendSeq_in (F : Fence) (n : Nat) (h11 : F.fn 146) (hro : F.round = none) (hn : 3 ≤ n) (Bm : Nat) (f : Dk.Dir) (N : Nat) (hN : N ≤ 1099511627776) (w : World) (hFg : F.fn 133)
    (hseq : SeqWith F (n - 1) Tryz.prog 133 #[.pointer (some ⟨Bm, 0, none⟩)] (fun i => #[fileE i]) (fun _ _ _ => True) KeepsWalks (fun xs => Dk.Vals f xs ∧ xs.length ≤ N) (fun _ => True) N w) :
    CallsIn F n Tryz.prog 146 #[.slice none 0 0, .func (.func 133) #[] #[.pointer (some ⟨Bm, 0, none⟩)]] w fun e w' =>
      ∃ v xs, e = .returned v ∧ (Dk.Vals f xs ∧ xs.length ≤ N) ∧ w'.ownsRow w.heap.size 128 1 v xs.length (xs.map fileE) ∧ Below w.heap.size w w' := by
  obtain ⟨i0, hi, hz0, hz1, hz2⟩ := info_parts ptr_info
  refine callsIn_of_wp_marks Tryz.func146 rfl h11 ?_ hro
  simp only [Tryz.ntmps146, List.size_toArray, List.length_cons, List.length_nil, Nat.reduceAdd, Nat.reduceSub, Array.replicate_succ, Array.replicate_zero, List.push_toArray, List.append_toArray, List.nil_append, List.cons_append]
  gi_wp2
  obtain ⟨W0, hW0⟩ : ∃ W0, w.alloc (.cells #[.slice none 0 0] 129) = W0 := ⟨_, rfl⟩
  have hs0 : W0.heap.size = w.heap.size + 1 := by rw [← hW0]; simp
  have hv0 : W0.heap[w.heap.size]? = some (.cells #[.slice none 0 0] 129 (0, 0)) := by rw [← hW0]; exact World.alloc_heap_new w _
  have hb0 : Below w.heap.size w W0 := by rw [← hW0]; exact (Below.refl _ w).alloc (Nat.le_refl _) _
  rw [hW0]
  have HS0 := hide hs0
  have HB0 := hide hb0
  clear hW0
  have hI0 : Gath w w.heap.size [] W0 := ⟨⟨_, hv0, World.ownsRow_nil _ _ _ _⟩, hb0⟩
  obtain ⟨a0, ha0⟩ : ∃ a0 : Act, a0 = { tmps := #[.slice none 0 0, .func (.func 133) #[] #[.pointer (some ⟨Bm, 0, none⟩)], .pointer (some ⟨w.heap.size, 0, none⟩), undef, .slice none 0 0, undef, .func (.func 133) #[] #[.pointer (some ⟨Bm, 0, none⟩)], undef, undef, undef, undef, undef, undef], defers := [] } := ⟨_, rfl⟩
  rw [← ha0]
  refine range_keep hro (by omega) (gf := 133) (lb := #[.pointer (some ⟨Bm, 0, none⟩)]) (by rw [ha0]; rfl) hFg (enters_of Tryz.func133 (by kernel_rfl) rfl) hseq (fun h1 h2 => h1.trans h2) (fun W l o o' _ h1 h2 => KeepsWalks.putObj _ h1 h2) hb0 (fun _ => rfl)
    (Gath w w.heap.size)
    (fun _ _ _ => False)
    (fun s A B row hs hg hr => hs.step hg fun r e => ⟨by have := (hr r e).1; omega, (hr r e).2⟩)
    (fun _ _ _ _ _ hs _ _ => hs)
    hI0
    (fun pre x a' W => a' = { tmps := (a0.tmps.setIfInBounds 7 (fileE x)).setIfInBounds 5 (fileE x), defers := [] })
    (fun pre x a' s A B row hs hg hr => hs) ?assign ?body ?done ?stop
  case assign =>
    intro l pre x W K hI hG hK
    rw [ha0]
    gi_wp2_with (rw [Oper.semAt_eq _ _ _ (fun c h => by cases h)]; go_simp; try go_bits)
    refine hK _ _ ?_ hI (KeepsOthers.refl _) (KeepsWalks.refl _)
    rw [ha0]
    rfl
  case stop => rintro D c pre W _ _ h _; exact h.elim
  case body =>
    rintro l pre x a' W hI rfl hlt
    rw [ha0]
    obtain ⟨v, hv, hrow⟩ := hI.box
    have hc2 := box_cell hv 0
    have hf2 := box_free hv 0
    have HHV := hide hv
    have HRO := hide hrow
    have HBL := hide hI.below
    have hne : ∀ (k : Nat) (c : Array Value), W.heap[k]? = some (.cells c 129 (0, 0)) → some k ≠ v.ownBlock := fun k c h1 e => by
      rcases hrow.2 with ⟨rfl, _⟩ | ⟨g, cap, cur, rfl, _, hgb, _⟩
      · cases e
      · injection e with e
        exact types_ne h1 hgb (by decide) e
    have HNE := hide hne
    have hlW : w.heap.size < W.heap.size := (Array.getElem?_eq_some_iff.1 hv).1
    clear hv hrow hne hI
    simp only [List.setIfInBounds_toArray, List.set_cons_succ, List.set_cons_zero]
    gi_wp2_with (first
      | (gi_at_builtin; refine wpListIn_append_own _ rfl _ _ 129 rfl w.heap.size 128 i0 (.pointer none) 1 8 ptrs_type hi hz0 hz1 hz2 rfl (by decide) _ _ _ rfl (HRO.out.alloc _) ⟨W.heap.size, 0, none⟩ 1 1 [fileE x] rfl rfl (cell_one_new _ _ _) (by simp [Value.oneCell', fileE]) (by simp only [maxLen]; omega) (by omega) (by have := HBL.out.size; simp; omega) ?_; intro v' w3 hown' hg3 hnil3
         have hv3 : w3.heap[w.heap.size]? = some (.cells #[v] 129 (0, 0)) := (hg3.block w.heap.size (by simp; omega) (HNE.out _ _ HHV.out)).trans ((Below.heap_alloc _ _ w.heap.size hlW).trans HHV.out)
         have hc3 := box_cell hv3 0
         have hf3 := box_free hv3 0
         obtain ⟨g', cap', rfl⟩ : ∃ g' cap', v' = .slice (some ⟨g', 0, none⟩) (pre.length + 1) cap' := by
           rcases hown'.2 with ⟨_, h0⟩ | ⟨g', cap', _, e, _⟩
           · exact absurd h0 (by omega)
           · exact ⟨g', cap', e⟩
         have HV3 := hide hv3
         have HOW := hide hown'
         have HG3 := hide hg3
         clear hv3 hown' hg3 hnil3
         go_frame)
      | (rw [Oper.semAt_eq _ _ _ (fun c h => by cases h)]; go_simp; try go_bits))
    have hne3 : (Value.slice (some ⟨g', 0, none⟩) (pre.length + 1) cap').ownBlock ≠ some w.heap.size := fun e => by
      injection e with e
      rcases HOW.out.2 with ⟨_, h0⟩ | ⟨g2, _, _, e2, _, hgb, _⟩
      · omega
      · injection e2 with e2
        injection e2 with e2
        injection e2 with e2
        subst e2
        exact types_ne HV3.out hgb (by decide) e.symm
    have hcl : ∀ (j : Nat) (o : Obj), v.ownBlock = some j → (W.alloc (.cells #[fileE x] 128)).heap[j]? = some o → o.isCells = true := fun j o hj ho => by
      rcases (HRO.out.alloc (.cells #[fileE x] 128)).2 with ⟨rfl, _⟩ | ⟨g2, _, _, rfl, _, hgb, _⟩
      · cases hj
      · injection hj with hj
        subst hj
        rw [hgb] at ho
        injection ho with ho
        subst ho
        rfl
    have hg3' : (W.alloc (.cells #[fileE x] 128)).grownBy w3 v.ownBlock := HG3.out
    have hko : KeepsOthers W (w3.setCell ⟨w.heap.size, 0, none⟩ (.slice (some ⟨g', 0, none⟩) (pre.length + 1) cap')) := ((KeepsOthers.alloc W _).trans (KeepsOthers.of_grownBy hg3' hcl)).trans (KeepsOthers.setCell _ _ _)
    have hb3 : Below w.heap.size w w3 := (HBL.out.alloc HBL.out.size _).grown hg3' (by have := HBL.out.size; simp; omega) (fun k e => (HRO.out.lt k e).1)
    refine ⟨hko, hko.walks, ⟨⟨_, heap_setCell_same w3 w.heap.size 0 _ _ _ HV3.out, ?_⟩, ⟨hb3.os, hb3.tape, hb3.output, by rw [World.size_setCell]; exact hb3.size, fun k hk => (Below.heap_setCell _ _ _ _ (by show k ≠ w.heap.size; omega)).trans (hb3.block k hk)⟩⟩⟩
    have h9 := ownsRow_setCell_other HOW.out (a := ⟨w.heap.size, 0, none⟩) hne3 (.slice (some ⟨g', 0, none⟩) (pre.length + 1) cap')
    rw [List.length_append, List.map_append]
    exact h9
  case done =>
    rintro D xs W hD hS hI hK
    obtain ⟨v, hv, hrow⟩ := hI.box
    have hc2 := box_cell hv 0
    rw [ha0]
    gi_wp2
    have hDW : v.ownBlock = none ∨ v.ownBlock ≠ some D := by
      rcases hrow.2 with ⟨rfl, _⟩ | ⟨g2, _, _, rfl, _, hgb, _⟩
      · exact .inl rfl
      · refine .inr fun e => ?_
        injection e with e
        subst e
        rw [hgb] at hK
        cases hK
    refine ⟨by simp, .inl ⟨_, _, rfl, run_takeDeferred hK, ?_⟩⟩
    exact ⟨_, results_tmp rfl _ _ _, v, xs, rfl, hS, hrow.kept (grownBy_putObj' W D _) hDW, hI.below.grown (grownBy_putObj' W D _) hI.below.size (fun k e => by cases e; omega)⟩
end Go.Proofs.YtfdppggdgdnnaaaGreatDoor

namespace Go.Proofs.YtfdppggdgdnnaaaGreatDoor
open Go.RowKit Go.Maps Go.Sort

set_option maxRecDepth 100000 in
theorem values_any (b : Nat) (w : World) :
    Calls Tryz.prog 115 #[.map (some b)] w fun e w' => e = .returned (.func (.func 133) #[] #[.pointer (some ⟨w.heap.size, 0, none⟩)]) ∧ w' = w.alloc (.cells #[.map (some b)] 123) := by
  go_enter Tryz.func115, Tryz.ntmps115
  go_wp2_with fail
  go_ret
  exact ⟨rfl, rfl⟩

set_option maxRecDepth 100000 in
theorem collect_in (F : Fence) (n : Nat) (h8 : F.fn 131) (h11 : F.fn 146) (hFg : F.fn 133) (hro : F.round = none) (hn : 4 ≤ n) (Bm b nn : Nat) (f : Dk.Dir) (w : World) (hm : w.cell? ⟨Bm, 0, none⟩ = some (.map (some b))) (h : NamesAt w b nn f) (hnn : nn ≤ 1099511627776) :
    CallsIn F n Tryz.prog 131 #[.func (.func 133) #[] #[.pointer (some ⟨Bm, 0, none⟩)]] w fun e w' =>
      ∃ v xs, e = .returned v ∧ (Dk.Vals f xs ∧ xs.length ≤ nn) ∧ w'.ownsRow w.heap.size 128 1 v xs.length (xs.map fileE) ∧ Below w.heap.size w w' := by
  obtain ⟨N, hN, hseq⟩ := values_seq F (n - 1 - 1) hFg hro (by omega) Bm b nn f w hm h
  have hap := appendSeq_in F (n - 1) h11 hro (by omega) Bm f N (by omega) w hFg hseq
  have h1 : 1 ≤ n := by omega
  have e11 : ∀ args w, (callFunc 146 args).run Tryz.prog w = .ok (.enter 146 args) w := enters_of Tryz.func146 (by kernel_rfl) rfl
  clear hseq h
  refine callsIn_of_wp Tryz.func131 rfl h8 ?_ hro
  simp only [Tryz.ntmps131, List.size_toArray, List.length_cons, List.length_nil, Nat.reduceAdd, Nat.reduceSub, Array.replicate_succ, Array.replicate_zero, List.push_toArray, List.append_toArray, List.nil_append, List.cons_append]
  gi_wp2_with (gi_at_fn 146; refine hap.mono ?_; rintro e w' ⟨v, xs, rfl, hS, hrow, hb⟩)
  go_ret
  exact ⟨v, xs, rfl, ⟨hS.1, by have := hS.2; omega⟩, hrow, hb⟩
end Go.Proofs.YtfdppggdgdnnaaaGreatDoor

namespace Go.Proofs.YtfdppggdgdnnaaaGreatDoor
open Go.Shelf
def lay_sortFiles_ren : Go.Shelf.Ren := ⟨fun | 6 => 132 | 15 => 148 | 14 => 147 | 28 => 173 | 29 => 174 | 20 => 165 | 21 => 166 | 22 => 167 | 23 => 168 | 24 => 169 | 25 => 170 | 26 => 171 | 27 => 172 | 46 => 189 | 47 => 190 | 48 => 191 | 49 => 192 | 50 => 193 | 57 => 200 | n => n, fun | 22 => 129 | 24 => 128 | 25 => 163 | 3 => 3 | 39 => 146 | 0 => 0 | 53 => 92 | 55 => 89 | 4 => 4 | 46 => 214 | 45 => 213 | 50 => 218 | 5 => 5 | 9 => 9 | 66 => 239 | 70 => 243 | 76 => 253 | 77 => 254 | n => n, fun | n => n⟩
theorem lay_sortFiles : Go.Proofs.SlLaysF.n6 Tryz.prog lay_sortFiles_ren := {
  mixed := by kernel_rfl
  f6 := ⟨Tryz.f132.name, by decide, Tryz.func132.trans (congrArg some (by kernel_rfl))⟩
  f14 := ⟨Tryz.f147.name, by decide, Tryz.func147.trans (congrArg some (by kernel_rfl))⟩
  f15 := Tryz.func148.trans (congrArg some (by kernel_rfl))
  f20 := ⟨Tryz.f165.name, by decide, Tryz.func165.trans (congrArg some (by kernel_rfl))⟩
  f21 := ⟨Tryz.f166.name, by decide, Tryz.func166.trans (congrArg some (by kernel_rfl))⟩
  f22 := ⟨Tryz.f167.name, by decide, Tryz.func167.trans (congrArg some (by kernel_rfl))⟩
  f23 := ⟨Tryz.f168.name, by decide, Tryz.func168.trans (congrArg some (by kernel_rfl))⟩
  f24 := ⟨Tryz.f169.name, by decide, Tryz.func169.trans (congrArg some (by kernel_rfl))⟩
  f25 := ⟨Tryz.f170.name, by decide, Tryz.func170.trans (congrArg some (by kernel_rfl))⟩
  f26 := ⟨Tryz.f171.name, by decide, Tryz.func171.trans (congrArg some (by kernel_rfl))⟩
  f27 := ⟨Tryz.f172.name, by decide, Tryz.func172.trans (congrArg some (by kernel_rfl))⟩
  f28 := Tryz.func173.trans (congrArg some (by kernel_rfl))
  f29 := Tryz.func174.trans (congrArg some (by kernel_rfl))
  f46 := ⟨Tryz.f189.name, by decide, Tryz.func189.trans (congrArg some (by kernel_rfl))⟩
  f47 := Tryz.func190.trans (congrArg some (by kernel_rfl))
  f48 := Tryz.func191.trans (congrArg some (by kernel_rfl))
  f49 := ⟨Tryz.f192.name, by decide, Tryz.func192.trans (congrArg some (by kernel_rfl))⟩
  f50 := ⟨Tryz.f193.name, by decide, Tryz.func193.trans (congrArg some (by kernel_rfl))⟩
  f57 := ⟨Tryz.f200.name, by decide, Tryz.func200.trans (congrArg some (by kernel_rfl))⟩
  t0 := Tryz.underlying0
  a0 := Tryz.isAgg0
  z0 := Tryz.sizeOf0
  v0 := Tryz.zeroValue0
  t3 := Tryz.underlying3
  a3 := Tryz.isAgg3
  z3 := Tryz.sizeOf3
  v3 := Tryz.zeroValue3
  t4 := Tryz.underlying4
  a4 := Tryz.isAgg4
  z4 := Tryz.sizeOf4
  v4 := Tryz.zeroValue4
  t5 := Tryz.underlying5
  a5 := Tryz.isAgg5
  z5 := Tryz.sizeOf5
  v5 := Tryz.zeroValue5
  t9 := Tryz.underlying9
  a9 := Tryz.isAgg9
  z9 := Tryz.sizeOf9
  v9 := Tryz.zeroValue9
  t22 := Tryz.underlying129
  a22 := Tryz.isAgg129
  z22 := Tryz.sizeOf129
  v22 := Tryz.zeroValue129
  a24 := Tryz.isAgg128
  z24 := Tryz.sizeOf128
  t25 := Tryz.underlying163
  a25 := Tryz.isAgg163
  z25 := Tryz.sizeOf163
  v25 := Tryz.zeroValue163
  t39 := Tryz.underlying146
  a39 := Tryz.isAgg146
  z39 := Tryz.sizeOf146
  v39 := Tryz.zeroValue146
  t45 := Tryz.underlying213
  a45 := Tryz.isAgg213
  z45 := Tryz.sizeOf213
  v45 := Tryz.zeroValue213
  t46 := Tryz.underlying214
  a46 := Tryz.isAgg214
  z46 := Tryz.sizeOf214
  v46 := Tryz.zeroValue214
  t50 := Tryz.underlying218
  a50 := Tryz.isAgg218
  z50 := Tryz.sizeOf218
  v50 := Tryz.zeroValue218
  t53 := Tryz.underlying92
  a53 := Tryz.isAgg92
  z53 := Tryz.sizeOf92
  v53 := Tryz.zeroValue92
  t55 := Tryz.underlying89
  a55 := Tryz.isAgg89
  z55 := Tryz.sizeOf89
  v55 := Tryz.zeroValue89
  t66 := Tryz.underlying239
  a66 := Tryz.isAgg239
  z66 := Tryz.sizeOf239
  v66 := Tryz.zeroValue239
  t70 := Tryz.underlying243
  a70 := Tryz.isAgg243
  z70 := Tryz.sizeOf243
  v70 := Tryz.zeroValue243
  t76 := Tryz.underlying253
  a76 := Tryz.isAgg253
  z76 := Tryz.sizeOf253
  v76 := Tryz.zeroValue253
  t77 := Tryz.underlying254
  a77 := Tryz.isAgg254
  z77 := Tryz.sizeOf254
  v77 := Tryz.zeroValue254 }
end Go.Proofs.YtfdppggdgdnnaaaGreatDoor

namespace Go.Proofs.YtfdppggdgdnnaaaGreatDoor
open Go.RowKit Go.Maps Go.Sort Go.Shelf

section
variable {α : Type} [Inhabited α] (enc : α → Value)
theorem sorted_heap {w : World} {g n : Nat} {os : Array Obj} {cur : Array Value} {e : TypeId} {fr : Nat × Nat} (d : Array α) (hb : w.heap[g]? = some (.cells cur e fr)) :
    (sortWorld enc w g 0 n d os).heap[g]? = some (.cells (putCells enc 0 d cur) e fr) := by
  have hg : g < w.heap.size := (Array.getElem?_eq_some_iff.1 hb).1
  unfold sortWorld
  rw [heap_grow_old _ _ (by simpa using hg)]
  simp [putRow, mapBlock, Sort.ahead, Array.getElem?_modify, hb, onCells]
theorem sorted_other {w : World} {g n : Nat} {os : Array Obj} (d : Array α) (k : Nat) (hk : k < w.heap.size) (hne : k ≠ g) : (sortWorld enc w g 0 n d os).heap[k]? = w.heap[k]? := by
  unfold sortWorld
  rw [heap_grow_old _ _ (by simpa using hk)]
  simp [putRow, mapBlock, Sort.ahead, Array.getElem?_modify, hne.symm]
theorem sorted_size {w : World} {g n : Nat} {os : Array Obj} (d : Array α) : w.heap.size ≤ (sortWorld enc w g 0 n d os).heap.size := by
  unfold sortWorld
  simp [grow]
theorem sorted_take (cur : Array Value) (ts : List α) (h : ts.length ≤ cur.size) : (putCells enc 0 ts.toArray cur).toList.take ts.length = ts.map enc := by
  apply List.ext_getElem?
  intro j
  by_cases hj : j < ts.length
  · rw [List.getElem?_take_of_lt hj, Array.getElem?_toList]
    simp [putCells, hj, show j < cur.size by omega]
  · rw [List.getElem?_take_eq_none (by omega), List.getElem?_eq_none (by simp; omega)]
end

theorem cmp_order {α : Type} (bn : α → Int) : SWO (ltOf fun x y : α => cmpI (bn x) (bn y)) := by
  have key : ∀ x y : α, ltOf (fun x y : α => cmpI (bn x) (bn y)) x y = decide (bn x < bn y) := fun x y => by
    unfold ltOf cmpI
    by_cases h1 : bn x < bn y
    · simp [h1]
    · by_cases h2 : bn y < bn x
      · simp [h1, h2]
      · simp [h1, h2]
  refine ⟨fun x => ?_, fun x y z h1 h2 => ?_, fun x y z h1 h2 => ?_⟩
  · rw [key]; simp
  · rw [key] at h1 h2 ⊢; simp at h1 h2 ⊢; omega
  · rw [key] at h1 h2 ⊢; simp at h1 h2 ⊢; omega

/-- A file whose birth is known, apart from the row. -/
abbrev El (w : World) (g : Nat) (bn : Nat → Int) : Type := { i : Nat // i ≠ g ∧ i < w.heap.size ∧ w.cell? ⟨i, 0, none⟩ = some (.int .i64 (bn i)) }

theorem cell_of_heap {w w' : World} {i : Nat} (h : w'.heap[i]? = w.heap[i]?) (k : Nat) : w'.cell? ⟨i, k, none⟩ = w.cell? ⟨i, k, none⟩ := by simp [World.cell?, h]

theorem els_of {w : World} {g : Nat} {bn : Nat → Int} : ∀ xs : List Nat, (∀ x ∈ xs, x ≠ g ∧ x < w.heap.size ∧ w.cell? ⟨x, 0, none⟩ = some (.int .i64 (bn x))) → ∃ es : List (El w g bn), es.map (·.1) = xs
  | [], _ => ⟨[], rfl⟩
  | x :: xs, h => by
    obtain ⟨es, he⟩ := els_of xs fun y hy => h y (List.mem_cons_of_mem _ hy)
    exact ⟨⟨x, h x List.mem_cons_self⟩ :: es, by rw [List.map_cons, he]⟩

theorem sort_any (base g cap n : Nat) (xs : List Nat) (bn : Nat → Int) (w : World) (hrow : w.ownsRow base 128 1 (.slice (some ⟨g, 0, none⟩) n cap) n (xs.map fileE)) (hn : xs.length = n) (h0 : xs ≠ []) (hsz : n < 1099511627776)
    (hb : ∀ x ∈ xs, x ≠ g ∧ x < w.heap.size ∧ w.cell? ⟨x, 0, none⟩ = some (.int .i64 (bn x))) :
    Calls Tryz.prog 132 #[.slice (some ⟨g, 0, none⟩) n cap, .func (.func 116) #[] #[]] w fun e w' => e = .returned (.tuple #[]) ∧
      ∃ ys : List Nat, ys.Perm xs ∧ ys.Pairwise (fun a b => bn a ≤ bn b) ∧ w'.ownsRow base 128 1 (.slice (some ⟨g, 0, none⟩) n cap) n (ys.map fileE) ∧ Chg (fun k => k = g) w w' := by
  subst hn
  obtain ⟨es, rfl⟩ := els_of (w := w) (g := g) (bn := bn) xs hb
  obtain ⟨x0, es', rfl⟩ : ∃ x0 es', es = x0 :: es' := by cases es with | nil => exact absurd rfl h0 | cons a b => exact ⟨a, b, rfl⟩
  letI : Inhabited (El w g bn) := ⟨x0⟩
  generalize hes : x0 :: es' = es at *
  obtain ⟨cur, hgb, hle, hmax, hcs, htk⟩ : ∃ cur, w.heap[g]? = some (.cells cur 128 (0, 0)) ∧ (es.map (·.1)).length ≤ cap ∧ cap ≤ maxLen ∧ cur.size = cap * 1 ∧ base ≤ g := by
    rcases hrow.2 with ⟨h, _⟩ | ⟨g', cap', cur, h, h1, h2, h3, h4, h5, _⟩
    · cases h
    · injection h with e1 e2 e3
      injection e1 with e1
      injection e1 with e1
      subst e1 e3
      exact ⟨cur, h2, h3, h4, h5, h1⟩
  have hlt : g < w.heap.size := (Array.getElem?_eq_some_iff.1 hgb).1
  have hH : Holds (fun x : El w g bn => fileE x.1) w g 0 es.toArray := fun j hj => by
    have hj' : j < es.length := by simpa using hj
    refine ⟨?_, ?_⟩
    · rw [hrow.cellAt (0 + j) (by simp; omega), getElem!_pos _ j hj]
      simp [hj']
    · exact hrow.frozenAt (0 + j)
  have hcmp : CmpLays1 Tryz.prog 116 #[] (fun x : El w g bn => fileE x.1) (fun x y => cmpI (bn x.1) (bn y.1)) g 0 es.toArray.size w := CmpReads.lays fun m os dk _ x y => by
    have hx := (cell_of_heap (sorted_other (fun x : El w g bn => fileE x.1) (n := m) (os := os) dk x.1 x.2.2.1 x.2.1) 0).trans x.2.2.2
    have hy := (cell_of_heap (sorted_other (fun x : El w g bn => fileE x.1) (n := m) (os := os) dk y.1 y.2.2.1 y.2.1) 0).trans y.2.2.2
    exact elder_any x.1 y.1 (bn x.1) (bn y.1) _ hx hy
  have hc := Any.slices_SortFunc lay_sortFiles (fun x : El w g bn => fileE x.1) (fun x => rfl) (fun x y => cmpI (bn x.1) (bn y.1)) (cmp_order fun x : El w g bn => bn x.1) 116 #[] g 0 cap es.toArray w
    (enters_of Tryz.func116 (by kernel_rfl) rfl) hcmp hH hlt (by simp at hsz ⊢; omega)
  have hsize : es.toArray.size = (es.map (·.1)).length := by simp
  rw [hsize] at hc
  refine hc.mono ?_
  rintro e w' ⟨rfl, d', m, os, hperm, hsorted, rfl⟩
  have hds : d'.size = es.length := by rw [hperm.1]; simp
  have hln : (es.map (·.1)).length = es.length := by simp
  refine ⟨rfl, d'.toList.map (·.1), ?_, ?_, ?_, ?_⟩
  · have h9 := hperm.2.2
    rw [hln, Array.extract_eq_self_of_le (by omega), Array.extract_eq_self_of_le (by simp)] at h9
    exact h9.map _
  · rw [List.pairwise_map, List.pairwise_iff_getElem]
    intro i j hi hj hij
    have h9 := hsorted i j (Nat.zero_le _) hij (by rw [hln, ← hds]; simpa using hj)
    rw [getElem!_pos d' j (by simpa using hj), getElem!_pos d' i (by simpa using hi)] at h9
    unfold ltOf at h9
    have h10 := of_decide_eq_false h9
    simp only [Array.getElem_toList]
    by_cases hba : bn (d'[j]'(by simpa using hj)).1 < bn (d'[i]'(by simpa using hi)).1
    · refine absurd ?_ h10
      show cmpI _ _ < 0
      unfold cmpI
      rw [if_pos hba]
      decide
    · omega
  · have ht := sorted_take (fun x : El w g bn => fileE x.1) cur d'.toList (by simp at hle ⊢; omega)
    have hs := sorted_heap (fun x : El w g bn => fileE x.1) (n := m) (os := os) d' hgb
    refine ⟨by simp; omega, .inr ⟨g, cap, _, rfl, htk, hs, hle, hmax, by simp [putCells, hcs], ?_⟩⟩
    rw [show (es.map (·.1)).length * 1 = d'.toList.length by simp; omega]
    rw [List.map_map]
    simpa using ht
  · exact ⟨rfl, rfl, rfl, sorted_size _ d', fun k hk hne => sorted_other _ d' k hk hne⟩
end Go.Proofs.YtfdppggdgdnnaaaGreatDoor

namespace Go.Proofs.YtfdppggdgdnnaaaGreatDoor
open Go.RowKit Go.Maps Go.Sort Go.Shelf

theorem vals_mem {f : Dk.Dir} {xs : List Nat} (h : Dk.Vals f xs) : ∀ x ∈ xs, ∃ k, f k = some x := by
  obtain ⟨ks, _, _, e⟩ := h
  intro x hx
  have h1 : some x ∈ ks.map f := by rw [← e]; exact List.mem_map.2 ⟨x, hx, rfl⟩
  obtain ⟨k, _, hk⟩ := List.mem_map.1 h1
  exact ⟨k, hk⟩

set_option maxRecDepth 100000 in
set_option maxHeartbeats 1000000 in
theorem sortedFunc_any (Bm b nn : Nat) (f : Dk.Dir) (bn : Nat → Int) (w : World) (hm : w.cell? ⟨Bm, 0, none⟩ = some (.map (some b))) (h : NamesAt w b nn f) (hnn : nn ≤ 1099511627775) (hb : ∀ k i, f k = some i → w.cell? ⟨i, 0, none⟩ = some (.int .i64 (bn i))) :
    Calls Tryz.prog 114 #[.func (.func 133) #[] #[.pointer (some ⟨Bm, 0, none⟩)], .func (.func 116) #[] #[]] w fun e w' =>
      ∃ (v : Value) (ys : List Nat), e = .returned v ∧ ((∃ xs, Dk.Vals f xs ∧ ys.Perm xs) ∧ ys.length ≤ nn) ∧ ys.Pairwise (fun a c => bn a ≤ bn c) ∧ w'.ownsRow w.heap.size 128 1 v ys.length (ys.map fileE) ∧ Below w.heap.size w w' := by
  have HCO := hide (callsIn_wide.1 (collect_in Fence.wide 10 trivial trivial trivial rfl (by omega) Bm b nn f w hm h (by omega)))
  have HNN := hide (fun xs (hv : Dk.Vals f xs) => vals_mem hv)
  have HB := hide hb
  clear h hm hb
  go_enter Tryz.func114, Tryz.ntmps114
  go_upto_region 2 with (first
    | (go_at_call 131; refine HCO.out.mono ?_; rintro e w1 ⟨v, xs, rfl, ⟨hvals, hxl⟩, hrow, hbl⟩)
    | fail)
  have HVA := hide hvals
  have HBL := hide hbl
  cases xs with
  | nil =>
    obtain ⟨A, c, rfl⟩ : ∃ A c, v = .slice A 0 c := by
      rcases hrow.2 with ⟨rfl, _⟩ | ⟨g, cap, cur, rfl, _⟩
      · exact ⟨_, _, rfl⟩
      · exact ⟨_, _, rfl⟩
    have HRO := hide hrow
    have HSO := hide (fun W => AnyF.slices_SortFunc_none (P := Tryz.prog) (ρ := lay_sortFiles_ren) { lay_sortFiles with } A c (.func (.func 116) #[] #[]) W)
    clear hvals hbl hrow
    go_wp2_with (first
      | (go_at_call 132; refine (HSO.out _).mono ?_; rintro e w2 ⟨rfl, rfl⟩)
      | fail)
    go_ret
    exact ⟨_, [], rfl, ⟨⟨[], HVA.out, List.Perm.refl _⟩, Nat.zero_le _⟩, List.Pairwise.nil, HRO.out, HBL.out⟩
  | cons x0 xs' =>
    obtain ⟨g, cap, cur, rfl, hbg, hgb⟩ : ∃ g cap cur, v = .slice (some ⟨g, 0, none⟩) (x0 :: xs').length cap ∧ w.heap.size ≤ g ∧ w1.heap[g]? = some (.cells cur 128 (0, 0)) := by
      rcases hrow.2 with ⟨_, h0⟩ | ⟨g, cap, cur, e, h1, h2, _⟩
      · simp at h0
      · exact ⟨g, cap, cur, e, h1, h2⟩
    have hlen : (x0 :: xs').length ≤ 1099511627775 := by omega
    have HSO := hide (sort_any w.heap.size g cap _ (x0 :: xs') bn w1 hrow rfl (by simp) (by omega) (fun x hx => by
      obtain ⟨k, hk⟩ := HNN.out _ hvals x hx
      have hc := HB.out k x hk
      have hlt := World.block_lt_of_cell? w _ hc
      exact ⟨by show x ≠ g; have : x < w.heap.size := hlt; omega, Nat.lt_of_lt_of_le hlt hbl.size, (hbl.cell (p := ⟨x, 0, none⟩) hlt).trans hc⟩))
    generalize hnl : (x0 :: xs').length = n at *
    clear hvals hbl hrow hgb
    go_wp2_with (first
      | (go_at_call 132; refine HSO.out.mono ?_; rintro e w2 ⟨rfl, ys, hperm, hpw, hrow2, hc2⟩)
      | fail)
    go_ret
    have hyl : ys.length = n := by rw [hperm.length_eq, hnl]
    refine ⟨_, ys, rfl, ⟨⟨_, HVA.out, hperm⟩, by rw [hyl]; exact hxl⟩, hpw, by rw [hyl]; exact hrow2, HBL.out.trans ?_⟩
    exact hc2.below HBL.out.size (fun k e => by subst e; exact hbg)
end Go.Proofs.YtfdppggdgdnnaaaGreatDoor

namespace Go.Proofs.YtfdppggdgdnnaaaGreatDoor
open Go.RowKit Go.Maps Go.Sort Go.Shelf

set_option maxRecDepth 100000 in
theorem elderFirst_any (b nn : Nat) (f : Dk.Dir) (bn : Nat → Int) (w : World) (h : NamesAt w b nn f) (hnn : nn ≤ 1099511627775) (hb : ∀ k i, f k = some i → w.cell? ⟨i, 0, none⟩ = some (.int .i64 (bn i))) :
    Calls Tryz.prog 84 #[.map (some b)] w fun e w' =>
      ∃ (v : Value) (ys : List Nat), e = .returned v ∧ ((∃ xs, Dk.Vals f xs ∧ ys.Perm xs) ∧ ys.length ≤ nn) ∧ ys.Pairwise (fun a c => bn a ≤ bn c) ∧ w'.ownsRow w.heap.size 128 1 v ys.length (ys.map fileE) ∧ Below w.heap.size w w' := by
  have hVA := fun W => values_any b W
  obtain ⟨W, hW⟩ : ∃ W, W = w.alloc (.cells #[.map (some b)] 123) := ⟨_, rfl⟩
  have hb1 : Below w.heap.size w W := by rw [hW]; exact balloc (Below.refl _ _) _
  have hm : W.cell? ⟨w.heap.size, 0, none⟩ = some (.map (some b)) := by rw [hW]; simp
  have hz : W.heap.size = w.heap.size + 1 := by rw [hW]; simp
  have HSF := hide (sortedFunc_any w.heap.size b nn f bn W hm (h.same (hb1.block b h.lt)) hnn (fun k i hk => (hb1.cell (p := ⟨i, 0, none⟩) (World.block_lt_of_cell? w _ (hb k i hk))).trans (hb k i hk)))
  have HB1 := hide hb1
  have HZ := hide hz
  have HW := hide hW
  have HVA := hide hVA
  clear hb1 hm hz hW h hb hVA
  go_enter Tryz.func84, Tryz.ntmps84
  go_wp2_with (first
    | (go_at_call 115; refine (HVA.out _).mono ?_; rintro e w1 ⟨rfl, rfl⟩; rw [← HW.out])
    | (go_at_call 114; refine HSF.out.mono ?_; rintro e w2 ⟨v, ys, rfl, hv, hpw, hrow, hb2⟩)
    | fail)
  go_ret
  refine ⟨v, ys, rfl, hv, hpw, ?_, HB1.out.trans (hb2.mono HB1.out.size)⟩
  have := HZ.out
  exact ⟨hrow.1, by
    rcases hrow.2 with h | ⟨g, cap, cur, e, h1, h2⟩
    · exact .inl h
    · exact .inr ⟨g, cap, cur, e, by omega, h2⟩⟩
end Go.Proofs.YtfdppggdgdnnaaaGreatDoor

namespace Go.Proofs.YtfdppggdgdnnaaaGreatDoor
open Go.RowKit Go.Maps Go.Sort Go.Shelf

/-- The names are a new map: a copy of the durable ones. -/
theorem DiskL.renamed {w w' : World} {Bd nb db : Nat} {sv : Value} {ids : List Nat} {row : Nat → Value} {s : Dk.St} {S : Nat → Prop} (h : DiskL w Bd nb db sv ids row s S) (nb2 : Nat)
    (hbox : w'.heap[Bd]? = some (.cells (diskCells s nb2 db sv) 126 (0, 0))) (hn : NamesAt w' nb2 s.calls.toNat s.dur) (hk : ∀ k, k < w.heap.size → k ≠ Bd → w'.heap[k]? = w.heap[k]?) (hnb : w.heap.size ≤ nb2) :
    DiskL w' Bd nb2 db sv ids row { s with names := s.dur } (Up S w w') := by
  have lt : ∀ {k : Nat} {o : Obj}, w.heap[k]? = some o → k < w.heap.size := fun h => (Array.getElem?_eq_some_iff.1 h).1
  obtain ⟨m, hd, hm⟩ := h.dur
  have kc : ∀ {k : Nat} {c : Array Value} {t : TypeId}, w.heap[k]? = some (.cells c t (0, 0)) → t ≠ 126 → w'.heap[k]? = w.heap[k]? := fun h1 h2 => hk _ (lt h1) (types_ne h1 h.box h2)
  refine { box := hbox, names := hn, dur := ⟨m, hd.same (hk _ hd.lt (map_ne hd h.box)), hm⟩, ne := by have := hd.lt; omega, since := ownsRow_same h.since fun g hg => ?_, nodup := h.nodup, file := fun i hi => ?_, apart := h.apart, nref := h.dref, dref := h.dref, sref := h.sref, calls := h.calls, mBd := .inl h.mBd, mnb := .inr ⟨hnb, hn.lt⟩, mdb := .inl h.mdb, msv := fun g hg => .inl (h.msv g hg), mid := fun i hi => .inl (h.mid i hi), mrow := fun i hi g hg => .inl (h.mrow i hi g hg) }
  · obtain ⟨cur, h2⟩ := rowBlock_at h.since hg
    exact kc h2 (by decide)
  · have hfi := h.file i hi
    refine hfi.same (kc hfi.box (by decide)) fun g hg => ?_
    obtain ⟨cur, h4⟩ := ownBlock_lt hfi.row hg
    exact kc h4 (by decide)

end Go.Proofs.YtfdppggdgdnnaaaGreatDoor

namespace Go.Proofs.YtfdppggdgdnnaaaGreatDoor

/-- One file is kept so far. -/
def Dk.St.keepOne (picks : List Int) (i f : Nat) (s : Dk.St) : Dk.St :=
  { s.setFile f ((s.files f).keep ((s.files f).synced + Dk.pick picks i ((s.files f).bytes.length - (s.files f).synced))) with used := s.used + (((s.files f).synced + Dk.pick picks i ((s.files f).bytes.length - (s.files f).synced) : Nat) : Int) }
theorem keepAll_snoc (picks : List Int) : ∀ (l : List Nat) (i f : Nat) (s : Dk.St), Dk.St.keepAll picks i (l ++ [f]) s = (Dk.St.keepAll picks i l s).keepOne picks (i + l.length) f := by
  intro l
  induction l with
  | nil => intro i f s; simp [Dk.St.keepAll, Dk.St.keepOne]
  | cons x l ih =>
    intro i f s
    simp only [List.cons_append, Dk.St.keepAll, List.length_cons]
    rw [ih]
    congr 1
    omega
theorem keepAll_take (picks : List Int) (ys : List Nat) (j : Nat) (hj : j < ys.length) (s : Dk.St) : Dk.St.keepAll picks 1 (ys.take (j + 1)) s = (Dk.St.keepAll picks 1 (ys.take j) s).keepOne picks (1 + j) (ys.getD j 0) := by
  have e : ys.take (j + 1) = ys.take j ++ [ys.getD j 0] := by
    rw [List.take_add_one, List.getElem?_eq_getElem hj, Option.toList_some]
    simp [List.getD, hj]
  rw [e, keepAll_snoc, List.length_take, Nat.min_eq_left (by omega)]
/-- A row of files, read. -/
structure FileRow (w : World) (base : Nat) (A : Option Addr) (c : Nat) (ys : List Nat) : Prop where
  le : ys.length ≤ c
  max : c ≤ 9223372036854775807
  nil : A = none → c = 0
  get : ∀ j, j < ys.length → ∃ g, base ≤ g ∧ A = some ⟨g, 0, none⟩ ∧ w.cell? ⟨g, j, none⟩ = some (fileE (ys.getD j 0))
theorem files_read {w : World} {base : Nat} {v : Value} {ys : List Nat} (h : w.ownsRow base 128 1 v ys.length (ys.map fileE)) : ∃ A c, v = .slice A ys.length c ∧ FileRow w base A c ys := by
  rcases h.2 with ⟨e, h0⟩ | ⟨g, cap, cur, e, hg, hh, hle, hmax, -, -⟩
  · exact ⟨none, 0, by rw [e, h0], by omega, by omega, fun _ => rfl, fun j hj => by omega⟩
  · subst e
    refine ⟨_, _, rfl, hle, by unfold maxLen at hmax; omega, fun e => (by cases e), fun j hj => ⟨g, hg, rfl, ?_⟩⟩
    rw [h.cellAt j (by omega)]
    simp [List.getD, hj]
end Go.Proofs.YtfdppggdgdnnaaaGreatDoor

namespace Go.Proofs.YtfdppggdgdnnaaaGreatDoor
open Go.RowKit Go.Maps Go.Sort Go.Shelf

set_option maxRecDepth 100000 in
set_option maxHeartbeats 1000000 in
theorem crash_any (Bd : Nat) (s : Dk.St) (S : Nat → Prop) (A : Option Addr) (c n : Nat) (zs : List Int) (w : World) (h : IsDisk w Bd s S) (hft : Dk.Fit s) (hc6 : s.calls ≤ 1000000) (hz : IntsArg w A c zs) (hn : zs.length = n) (hzS : ∀ x o, A = some ⟨x, o, none⟩ → zs ≠ [] → ¬ S x ∧ x < w.heap.size) :
    Calls Tryz.prog 38 #[.pointer (some ⟨Bd, 0, none⟩), .slice A n c] w fun e w' => e = .returned (.tuple #[]) ∧ ∃ ys, (Dk.Order (s.settle (Dk.pick zs 0 s.since.length)) (s.settle (Dk.pick zs 0 s.since.length)).dur ys ∧ ys.length ≤ 1000000) ∧ IsDisk w' Bd (s.crash zs ys) (Up S w w') ∧ Chg S w w' := by
  obtain ⟨nb, db, sv, ids, row, h⟩ := h
  obtain ⟨Av, cv, hsv⟩ : ∃ Av cv, sv = .slice Av s.since.length cv := by
    rcases h.since.2 with ⟨e, h0⟩ | ⟨g, cap, cur, e, _⟩
    · exact ⟨none, 0, by rw [e, h0]⟩
    · exact ⟨_, _, e⟩
  have c3 : w.cell? ⟨Bd, 3, none⟩ = some sv := box_cell h.box 3
  rw [hsv] at c3
  have hsl : s.since.length ≤ 1000000 := by obtain ⟨m, _, hm⟩ := h.dur; have := h.calls; omega
  have HPK := hide (pick_any A c n zs 0 s.since.length w hz hn (by omega) (by omega))
  have HSE := hide (settle_any Bd nb db sv ids row s S (Dk.pick zs 0 s.since.length) w h (by omega) (Dk.pick_le _ _ _))
  obtain ⟨t, ht⟩ : ∃ t, t = s.settle (Dk.pick zs 0 s.since.length) := ⟨_, rfl⟩
  have HT := hide ht
  have HFT := hide hft
  have HZ := hide hz
  have HN := hide hn
  have HZS := hide hzS
  have HD := hide h
  rw [← ht] at HSE
  have htc : t.calls = s.calls := by rw [ht]; rfl
  have HTC := hide htc
  have HC6 := hide hc6
  clear h hft hz hn hzS ht hsv htc hc6
  go_enter Tryz.func38, Tryz.ntmps38
  go_upto_region 3 with (first
    | (go_at_call 82; refine HPK.out.mono ?_; rintro e w ⟨rfl, rfl⟩)
    | (go_at_call 81; refine HSE.out.mono ?_; rintro e w2 ⟨rfl, hd2, hc2⟩; have HD2 := hide hd2; have HC2 := hide hc2; have d2 : w2.cell? ⟨Bd, 2, none⟩ = some (.map (some db)) := box_cell hd2.box 2; have d1 : w2.cell? ⟨Bd, 1, none⟩ = some (.map (some nb)) := box_cell hd2.box 1; have f1 := box_free hd2.box 1; obtain ⟨mm, hdn, hmm⟩ := hd2.dur; have HCL := hide (mapClone_any db mm t.dur w2 hdn); have HMM := hide hmm; clear hd2 hc2 hdn hmm)
    | (go_at_call 83; refine HCL.out.mono ?_; rintro e w3 ⟨rfl, hn3, hb3, hz3⟩; have HN3 := hide hn3; have HB3 := hide hb3; have HZ3 := hide hz3; have hbx3 := (hb3.block Bd (Array.getElem?_eq_some_iff.1 HD2.out.box).1).trans HD2.out.box; have HBX3 := hide hbx3; have e1 : w3.cell? ⟨Bd, 1, none⟩ = some (.map (some nb)) := box_cell hbx3 1; have g1 := box_free hbx3 1; have e4 : w3.cell? ⟨Bd, 4, none⟩ = some (.int .i64 t.used) := box_cell hbx3 4; have g4 := box_free hbx3 4; clear hn3 hb3 hz3 hbx3 d1 d2 f1)
    | fail)
  have hb5a := heap_setCell_same w3 Bd 1 _ _ (.map (some w2.heap.size)) HBX3.out
  have hb5 := heap_setCell_same _ Bd 4 _ _ (.int .i64 0) hb5a
  have ho5 : ∀ k, k ≠ Bd → ((w3.setCell ⟨Bd, 1, none⟩ (.map (some w2.heap.size))).setCell ⟨Bd, 4, none⟩ (.int .i64 0)).heap[k]? = w3.heap[k]? := fun k hk => by
    rw [Below.heap_setCell _ _ _ _ (by exact hk), Below.heap_setCell _ _ _ _ (by exact hk)]
  have hc5 : Chg (fun b => b = Bd) w3 ((w3.setCell ⟨Bd, 1, none⟩ (.map (some w2.heap.size))).setCell ⟨Bd, 4, none⟩ (.int .i64 0)) := (Chg.setCell (S := fun b => b = Bd) _ _ _ _ rfl).then (Chg.setCell (S := fun b => b = Bd) _ _ _ _ rfl)
  have hz5 : ((w3.setCell ⟨Bd, 1, none⟩ (.map (some w2.heap.size))).setCell ⟨Bd, 4, none⟩ (.int .i64 0)).heap.size = w3.heap.size := by simp
  generalize (w3.setCell ⟨Bd, 1, none⟩ (.map (some w2.heap.size))).setCell ⟨Bd, 4, none⟩ (.int .i64 0) = w5 at *
  have lt : ∀ {w : World} {k : Nat} {o : Obj}, w.heap[k]? = some o → k < w.heap.size := fun h => (Array.getElem?_eq_some_iff.1 h).1
  have hnB : w2.heap.size ≠ Bd := fun e => by have := lt HD2.out.box; omega
  have hD5 := (HD2.out.set 4 (.int .i64 0) { t with used := 0 } rfl rfl rfl rfl rfl (Int.le_refl _))
  have hd5 : DiskL w5 Bd w2.heap.size db (.slice none 0 0) ids row { t with names := t.dur, used := 0 } (Up S w2 w5) := by
    have h0 : DiskL (w2.setCell ⟨Bd, 4, none⟩ (.int .i64 0)) Bd nb db (.slice none 0 0) ids row { t with used := 0 } S := hD5
    have h1 := h0.renamed (w' := w5) w2.heap.size (by rw [hb5]; rfl) ((HN3.out.same (ho5 _ hnB)).mono (by show mm ≤ t.calls.toNat; have := HMM.out; omega)) (fun k hk hkB => by
      rw [World.size_setCell] at hk
      rw [ho5 k hkB, HB3.out.block k hk, Below.heap_setCell _ _ _ _ (by exact hkB)]) (by rw [World.size_setCell]; exact Nat.le_refl _)
    exact h1.mono fun k hk => by
      rcases hk with hk | hk
      · exact .inl hk
      · rw [World.size_setCell] at hk; exact .inr hk
  have HD5 := hide hd5
  have HC5 : Hid (Chg S w w5) := hide (((HC2.out.mono fun b e => by rcases e with e | e; exact e ▸ HD.out.mBd; exact e ▸ HD.out.mdb).then (Chg.of_below HB3.out)).then (hc5.mono fun b e => e ▸ HD.out.mBd))
  have k1 : w5.cell? ⟨Bd, 1, none⟩ = some (.map (some w2.heap.size)) := box_cell hd5.box 1
  have HEF := hide (elderFirst_any w2.heap.size _ t.dur (fun i => (t.files i).born) w5 hd5.names (by show t.calls.toNat ≤ _; have := HTC.out; have := HC6.out; omega) (fun k i hk => box_cell (hd5.file i (hd5.nref k i hk).1).box 0))
  clear hd5 hD5 hb5a hb5 hc5 e1 g1 e4 g4 lt
  go_upto_region 4 with (first
    | (go_at_call 84; refine HEF.out.mono ?_; rintro e w6 ⟨v, ys, rfl, ⟨hvals, hyl⟩, hpw, hrow, hb6⟩; obtain ⟨Ay, cy, rfl, hfr⟩ := files_read hrow; have HFR := hide hfr; have HVL := hide hvals; have HYL := hide hyl; have HPW := hide hpw; have HB6 := hide hb6; have hle6 := hfr.le; have hmx6 := hfr.max; have hA6 := hfr.nil; clear hfr hvals hyl hpw hrow hb6)
    | fail)
  have hyn : ys.length ≤ 1000000 := by have h1 : ys.length ≤ t.calls.toNat := HYL.out; have := HTC.out; have := HC6.out; omega
  have HD6 : Hid (DiskL w6 Bd w2.heap.size db (.slice none 0 0) ids row { t with names := t.dur, used := 0 } (Up S w2 w5)) := hide (HD5.out.kept fun k _ hk => HB6.out.block k hk)
  have hyi : ∀ j, j < ys.length → ys.getD j 0 ∈ ids := fun j hj => by
    obtain ⟨xs, hv, hp⟩ := HVL.out
    have hm : ys.getD j 0 ∈ ys := by rw [show ys.getD j 0 = ys[j] from by simp [List.getD, hj]]; exact List.getElem_mem _
    obtain ⟨k, hk⟩ := vals_mem hv _ (hp.mem_iff.1 hm)
    exact (HD5.out.nref k _ hk).1
  have HYI := hide hyi
  clear hyi k1
  generalize hyl0 : ys.length = L at *
  have HL := hide hyl0
  have HLN := hide hyn
  clear hyl0
  go_loopw [32] (fun i wr => ∃ (j : Nat) (rw_ : Nat → Value), j ≤ L ∧ i = .int .i64 j ∧ DiskL wr Bd w2.heap.size db (.slice none 0 0) ids rw_ (Dk.St.keepAll zs 1 (ys.take j) { t with names := t.dur, used := 0 }) (Up S w2 w5) ∧ (0 ≤ (Dk.St.keepAll zs 1 (ys.take j) { t with names := t.dur, used := 0 }).used ∧ (Dk.St.keepAll zs 1 (ys.take j) { t with names := t.dur, used := 0 }).used ≤ (j : Int) * 1000000000) ∧ (∀ i, ((Dk.St.keepAll zs 1 (ys.take j) { t with names := t.dur, used := 0 }).files i).bytes.length ≤ 1000000000) ∧ Chg (fun b => b = Bd ∨ b ∈ ids) w6 wr ∧ wr.heap.size = w6.heap.size) (fun i _ => L - (intOf i).toNat)
  case atStart => exact ⟨0, row, Nat.zero_le _, rfl, HD6.out, ⟨Int.le_refl _, (by show (0 : Int) ≤ _; simp)⟩, fun i => by have := HFT.out.file i; rw [HT.out] at *; exact this, Chg.refl _ _, rfl⟩
  case round =>
    obtain ⟨j, rj, hj, rfl, hdj, huj, hfj, hcj, hzj⟩ := hrel
    by_cases hlt : j < L
    · obtain ⟨g, hbg, rfl, hcg⟩ := HFR.out.get j (by rw [HL.out]; exact hlt)
      have hst := keepAll_take zs ys j (by rw [HL.out]; exact hlt) { t with names := t.dur, used := 0 }
      have hii := HYI.out j hlt
      generalize ys.getD j 0 = x at *
      generalize Dk.St.keepAll zs 1 (ys.take j) { t with names := t.dur, used := 0 } = u at *
      have hfi := hdj.file x hii
      have hfx := hfj x
      have hsy := hfi.sync
      obtain ⟨Ax, cx, hrv, -⟩ := hfi.row.arg
      have c1x : wr.cell? ⟨x, 1, none⟩ = some (rj x) := box_cell hfi.box 1
      rw [hrv] at c1x
      have c2x : wr.cell? ⟨x, 2, none⟩ = some (.int .i64 ((u.files x).synced : Int)) := box_cell hfi.box 2
      have lt5 : ∀ {k : Nat} {o : Obj}, w5.heap[k]? = some o → k < w5.heap.size := fun h => (Array.getElem?_eq_some_iff.1 h).1
      have hgn : ¬ (g = Bd ∨ g ∈ ids) := fun e => by
        rcases e with e | e
        · have := lt5 HD5.out.box; omega
        · have := lt5 (HD5.out.file g e).box; omega
      have cg := hcj.cell hcg hgn
      have HZR : Hid (IntsArg wr.drew A c zs) := hide ⟨HZ.out.le, HZ.out.max, HZ.out.nil, fun k hk => by
        obtain ⟨b, off, e, hb⟩ := HZ.out.get k hk
        obtain ⟨hnS, hbl⟩ := HZS.out b off e (by intro e0; subst e0; simp at hk)
        have h1 := HC5.out.cell hb hnS
        have h2 := (HB6.out.cell (p := ⟨b, off + k, none⟩) (Nat.lt_of_lt_of_le hbl HC5.out.size)).trans h1
        exact ⟨b, off, e, hcj.cell h2 fun e => by
          rcases e with e | e
          · exact hnS (e ▸ HD.out.mBd)
          · exact hnS (HD.out.mid b e)⟩, HZ.out.fit⟩
      have hpl := Dk.pick_le zs (1 + j) ((u.files x).bytes.length - (u.files x).synced)
      have HPR := hide (pick_any A c n zs (1 + j) ((u.files x).bytes.length - (u.files x).synced) wr.drew HZR.out HN.out (by omega) (by omega))
      generalize hlen : (u.files x).bytes.length = len at *
      generalize hsyn : (u.files x).synced = syn at *
      have hw1 : IntKind.i64.wrap ((len : Int) - (syn : Int)) = ((len - syn : Nat) : Int) := by rw [IntWalk.i64_in _ (by omega)]; omega
      have hw2 : IntKind.i64.wrap ((j : Int) + 1) = ((1 + j : Nat) : Int) := by rw [IntWalk.i64_in _ (by omega)]; omega
      generalize hpk : Dk.pick zs (1 + j) (len - syn) = pk at *
      have hw3 : IntKind.i64.wrap ((syn : Int) + (pk : Int)) = ((syn + pk : Nat) : Int) := by rw [IntWalk.i64_in _ (by omega)]; omega
      have HDJ := hide hdj
      have HFI := hide hfi
      have HCJ := hide hcj
      clear hdj hfi hcj hcg hgn hrv
      go_upto_region 6 with fail
      go_still_tail 20, (by kernel_rfl)
      still_call (HPR.out)
      repeat still_step
      refine wpStill_nil ?_
      change wpList _ _ _ _ _ wr.drew
      have HDQ : Hid (DiskL wr.drew Bd w2.heap.size db (.slice none 0 0) ids rj u (Up S w2 w5)) := hide (HDJ.out.kept fun _ _ _ => rfl)
      have HKP := hide (keep_any x (rj x) (u.files x) (syn + pk) wr.drew (HDQ.out.file x hii) (by rw [hlen]; omega))
      have HCQ : Hid (Chg (fun b => b = Bd ∨ b ∈ ids) w6 wr.drew) := hide ⟨HCJ.out.os, HCJ.out.tape, HCJ.out.output, HCJ.out.size, HCJ.out.block⟩
      have HZQ : Hid (wr.drew.heap.size = w6.heap.size) := hide hzj
      have HST := hide hst
      clear c1x c2x cg hzj hst
      generalize wr.drew = wq at *
      go_upto_region 7 with (first
        | (go_at_call 85; refine HKP.out.mono ?_; rintro e w7 ⟨rfl, v', hf7, hv7, hc7, hz7⟩)
        | fail)
      have hd7 := HDQ.out.file_ x hii v' _ hf7 (fun b hb hbi _ => hc7.block b hb hbi) (fun g hg => .inl (hv7 g hg)) (by omega)
      have hd7 := hd7.mono (up_same hz7)
      obtain ⟨A7, c7, rfl, -⟩ := hf7.row.arg
      have hkl : ((u.files x).keep (syn + pk)).bytes.length = syn + pk := by simp only [Dk.File.keep, List.length_take]; omega
      have c71 : w7.cell? ⟨x, 1, none⟩ = some (.slice A7 ((u.files x).keep (syn + pk)).bytes.length c7) := box_cell hf7.box 1
      rw [hkl] at c71
      have c74 : w7.cell? ⟨Bd, 4, none⟩ = some (.int .i64 u.used) := box_cell hd7.box 4
      have f74 := box_free hd7.box 4
      have hw4 : IntKind.i64.wrap (u.used + ((syn + pk : Nat) : Int)) = u.used + ((syn + pk : Nat) : Int) := IntWalk.i64_in _ (by have h8 : (j : Int) ≤ 1000000 := (by omega); omega)
      generalize hsp : syn + pk = sp at *
      have hd8 := (hd7.kept (w' := w7.drew) fun _ _ _ => rfl).set 4 (.int .i64 (u.used + (sp : Int))) { u.setFile x ((u.files x).keep sp) with used := u.used + (sp : Int) } rfl rfl rfl rfl rfl (Int.le_refl _)
      have HD8 := hide hd8
      have HC7 := hide hc7
      have HZ7 := hide hz7
      clear hf7 hv7 hc7 hz7 hd7 hd8
      go_still_tail 10, (by kernel_rfl)
      change wpList _ _ _ _ _ w7.drew
      have x74 : w7.drew.cell? ⟨Bd, 4, none⟩ = some (.int .i64 u.used) := c74
      have y74 : w7.drew.frozen? ⟨Bd, 4, none⟩ = false := f74
      have HC8 : Hid (Chg (fun b => b = Bd ∨ b ∈ ids) w6 w7.drew) := hide ((HCQ.out.then (HC7.out.mono fun b e => .inr (e ▸ hii))).then ⟨rfl, rfl, rfl, Nat.le_refl _, fun _ _ _ => rfl⟩)
      have HZ8 : Hid (w7.drew.heap.size = w6.heap.size) := hide (HZ7.out.trans HZQ.out)
      clear c71 c74 f74
      generalize w7.drew = w8 at *
      have hone : u.keepOne zs (1 + j) x = { u.setFile x ((u.files x).keep sp) with used := u.used + (sp : Int) } := by
        unfold Dk.St.keepOne
        rw [hlen, hsyn, hpk, hsp]
      have HONE := hide hone
      clear hone
      go_wp2_with fail
      refine ⟨⟨j + 1, _, by omega, by congr 1; omega, by rw [HST.out, HONE.out]; exact HD8.out, ?_, ?_, HC8.out.then (Chg.setCell _ _ _ _ (.inl rfl)), by rw [World.size_setCell]; exact HZ8.out⟩, by simp [intOf]; omega⟩
      · rw [HST.out, HONE.out]
        show 0 ≤ u.used + (sp : Int) ∧ u.used + (sp : Int) ≤ _
        omega
      · intro i
        rw [HST.out, HONE.out]
        show ((u.setFile x ((u.files x).keep sp)).files i).bytes.length ≤ _
        by_cases e : i = x
        · subst e
          rw [Dk.setFile_same]
          simp only [Dk.File.keep, List.length_take]
          omega
        · rw [Dk.setFile_other _ _ _ _ e]
          exact hfj i
    · obtain rfl : j = L := by omega
      have z6 : wr.cell? ⟨Bd, 6, none⟩ = some (.int .i64 _) := box_cell hdj.box 6
      have z7 : wr.cell? ⟨Bd, 7, none⟩ = some (.bool _) := box_cell hdj.box 7
      have y6 := box_free hdj.box 6
      have y7 := box_free hdj.box 7
      have hall : ys.take j = ys := List.take_of_length_le (by rw [HL.out]; exact Nat.le_refl _)
      rw [hall] at hdj
      have HDJ := hide (begin_set hdj 0 false)
      have HCJ := hide hcj
      clear hdj hcj huj hfj
      generalize Dk.St.keepAll zs 1 (ys.take j) { t with names := t.dur, used := 0 } = u1 at *
      go_wp2_with fail
      go_end0
      have hcr : s.crash zs ys = { Dk.St.keepAll zs 1 ys { t with names := t.dur, used := 0 } with armed := 0, down := false } := by
        unfold Dk.St.crash
        rw [← HT.out]
      obtain ⟨xs, hv, hp⟩ := HVL.out
      have hcS : Chg S w6 wr := HCJ.out.mono fun b e => by
        rcases e with e | e
        · exact e ▸ HD.out.mBd
        · exact HD.out.mid b e
      refine ⟨rfl, ys, ⟨by rw [← HT.out]; exact ⟨xs, hv, hp, HPW.out⟩, by rw [HL.out]; exact HLN.out⟩, ⟨w2.heap.size, db, .slice none 0 0, ids, rj, hcr ▸ HDJ.out.mono fun k hk => ?_⟩, (((HC5.out.then (Chg.of_below HB6.out)).then hcS).then (Chg.setCell _ _ _ _ HD.out.mBd)).then (Chg.setCell _ _ _ _ HD.out.mBd)⟩
      rcases hk with hk | hk
      · exact .inl hk
      · refine .inr ?_
        have h1 := HC2.out.size
        have h2 := HB6.out.size
        simp only [World.size_setCell]
        omega
end Go.Proofs.YtfdppggdgdnnaaaGreatDoor
