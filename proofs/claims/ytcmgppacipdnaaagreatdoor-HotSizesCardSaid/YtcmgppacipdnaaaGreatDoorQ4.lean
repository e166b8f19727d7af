/-
  A statement whose order is open, in which memory is made: each operation is shown once, from what its own operands are known to be; whatever order is drawn, at the end all that was shown holds. (What is known of a slot must outlive new blocks and draws.) Nothing of any program is named here.
  Errors as plain data: what the statements' own helpers (Is, Same, Fault, sentinel) answer at nil and at the package's errors as they are laid.
-/
import Derived.Orders
import Derived.Below
import Derived.Tactics
import Derived.Test.YtcmgppacipdnaaaGreatDoorRows
import Derived.WalkKit
import Derived.ProofKit
import Derived.LoopTactic
import Derived.Deep.Draws
import Derived.LaidEqlPtr
import Derived.Outline
import Derived.Test.YtcmgppacipdnaaaGreatDoorQ0
namespace Go.Proofs.YtcmgppacipdnaaaGreatDoor
open Go Go.RowKit

/-- What an operation does, its operands read by 'ev'. -/
def OpRuns (P : Program) (ev : Operand → Value) (o : Oper) (w : World) (Post : Value → World → Prop) : Prop :=
  match (execOp ev o).run P w with
  | .ok (.value v) w' => Post v w'
  | .ok .skip w' => Post undef w'
  | .ok (.enter f args) w' => Calls P f args w' fun e w'' => ∃ v, e = .returned v ∧ Post v w''
  | _ => False

theorem OpRuns.wp {P : Program} {a : Act} {o : Oper} {w : World} {Post : Value → World → Prop} {K : Act → World → Prop} {Q : Exit → Act → World → Prop}
    (h : OpRuns P a.eval o w Post) (hK : ∀ v w', Post v w' → K (a.put o.dst v) w') : o.wp P a w K Q := by
  unfold OpRuns at h
  unfold Oper.wp
  generalize (execOp a.eval o).run P w = r at *
  cases r with
  | ok n w' =>
    cases n <;> simp only at h <;> simp only [Oper.upon]
    case value v => exact hK _ _ h
    case skip => exact hK _ _ h
    case enter f args => exact h.mono fun e w'' ⟨v, he, hp⟩ => by subst he; exact hK _ _ hp
  | halt x w' => simp only at h

/-- Where an operation leaves its value. -/
def dstOf (ops : Array Oper) (i : Nat) : Nat := ((ops[i]?).bind (·.dst)).getD 0
def dstsOf (ops : Array Oper) : List Nat := (List.range (ops.size - 1)).map (dstOf ops)

/-- The form of such a region: no guard; each but the last leaves a value in a slot of its own; each waits for earlier ones alone; the last waits for all. -/
def openForm (ops : Array Oper) : Bool :=
  decide (0 < ops.size) &&
  (List.range ops.size).all (fun i => match ops[i]? with
    | some o => o.guard.isNone && o.after.all (fun e => decide (e.on < i)) && (decide (i = ops.size - 1) || o.dst.isSome)
    | none => false) &&
  (List.range (ops.size - 1)).all (fun i => match ops[ops.size - 1]? with
    | some o => o.after.any (fun e => e.on == i && Region.binds .any e)
    | none => false) &&
  decide (dstsOf ops).Nodup

/-- The frame with such values in such slots. -/
def puts (a : Act) (f : Nat → Value) : List Nat → Act
  | [] => a
  | d :: ds => puts (a.put (some d) (f d)) f ds

theorem puts_defers (a : Act) (f : Nat → Value) (ds : List Nat) : (puts a f ds).defers = a.defers := by
  induction ds generalizing a with
  | nil => rfl
  | cons d ds ih => simp only [puts]; rw [ih]; rfl
theorem puts_get (a : Act) (f : Nat → Value) (ds : List Nat) (k : Nat) : (puts a f ds).tmps[k]? = if k ∈ ds ∧ k < a.tmps.size then some (f k) else a.tmps[k]? := by
  induction ds generalizing a with
  | nil => simp [puts]
  | cons d ds ih =>
    simp only [puts]
    rw [ih]
    by_cases hk : k < a.tmps.size
    · by_cases hm : k ∈ ds
      · simp [hm, hk, Act.put]
      · by_cases hd : k = d
        · subst hd; simp [hm, hk, Act.put]
        · have hd' : d ≠ k := fun e => hd e.symm
          simp [hm, hd, hd', Act.put]
    · simp [hk, Act.put]

theorem act_eq {x y : Act} (h1 : x.tmps = y.tmps) (h2 : x.defers = y.defers) : x = y := by
  cases x; cases y
  simp only at h1 h2
  subst h1 h2; rfl

/-- What holds in the midst of the region. -/
structure Midst (P : Program) (ops : Array Oper) (D : Nat → Value → World → Prop) (a : Act) (w : World) (listed : Array Bool) (a' : Act) (w' : World) : Prop where
  size : a'.tmps.size = a.tmps.size
  defers : a'.defers = a.defers
  same : ∀ k, k ∉ dstsOf ops → a'.tmps[k]? = a.tmps[k]?
  below : Below w.heap.size w w'
  known : ∀ i, i < ops.size - 1 → listed.getD i false = true → D (dstOf ops i) (a'.tmps.getD (dstOf ops i) undef) w'

theorem dst_mem {ops : Array Oper} {i : Nat} (h : i < ops.size - 1) : dstOf ops i ∈ dstsOf ops := List.mem_map.2 ⟨i, List.mem_range.2 h, rfl⟩
theorem dst_inj {ops : Array Oper} (hn : (dstsOf ops).Nodup) {i j : Nat} (hi : i < ops.size - 1) (hj : j < ops.size - 1) (h : dstOf ops i = dstOf ops j) : i = j := by
  have h1 : (dstsOf ops)[i]? = some (dstOf ops i) := by simp [dstsOf, hi]
  have h2 : (dstsOf ops)[j]? = some (dstOf ops j) := by simp [dstsOf, hj]
  have hl : (dstsOf ops).length = ops.size - 1 := by simp [dstsOf]
  exact (List.getElem?_inj (by omega) hn).1 (by rw [h1, h2, h])

theorem getD_set_self {listed : Array Bool} {i : Nat} (h : i < listed.size) (d : Bool) : (listed.setIfInBounds i true).getD i d = true := by
  simp [h]

/-- How many are still to come. -/
def todo (listed : Array Bool) : Nat := listed.toList.count false
theorem todo_set {listed : Array Bool} {i : Nat} (hi : i < listed.size) (h : listed.getD i true = false) : todo (listed.setIfInBounds i true) + 1 = todo listed := by
  unfold todo
  have hg : listed.toList[i]? = some false := by
    have : listed[i] = false := by simpa [hi] using h
    simp [hi, this]
  obtain ⟨l1, l2, e, hl⟩ : ∃ l1 l2, listed.toList = l1 ++ false :: l2 ∧ l1.length = i := by
    refine ⟨listed.toList.take i, listed.toList.drop (i + 1), ?_, by simp; omega⟩
    have hlt : i < listed.toList.length := by simpa using hi
    have hv : listed.toList[i] = false := by
      rw [List.getElem?_eq_getElem hlt] at hg
      exact Option.some.inj hg
    have h2 := List.take_append_drop i listed.toList
    rw [List.drop_eq_getElem_cons hlt, hv] at h2
    exact h2.symm
  rw [Array.toList_setIfInBounds, e, ← hl]
  simp [List.count_append]
  omega

theorem wpAny_open {P : Program} {ops : Array Oper} {Q : Exit → Act → World → Prop} {D : Nat → Value → World → Prop} {a : Act} {w : World} (hB : openForm ops = true)
    (hfit : ∀ d ∈ dstsOf ops, d < a.tmps.size)
    (stable : ∀ d v w1 w2, D d v w1 → Below w1.heap.size w1 w2 → D d v w2)
    (step : ∀ i o, i < ops.size - 1 → ops[i]? = some o → ∀ (ev : Operand → Value) w1, Below w.heap.size w w1 → (∀ x, (∀ d ∈ dstsOf ops, x ≠ .tmp d) → ev x = a.eval x) →
      (∀ e ∈ o.after.toList, e.on < ops.size - 1 → Region.binds .any e = true → D (dstOf ops e.on) (ev (.tmp (dstOf ops e.on))) w1) → OpRuns P ev o w1 fun v w2 => Below w1.heap.size w1 w2 ∧ D (dstOf ops i) v w2)
    (last : ∀ o, ops[ops.size - 1]? = some o → ∀ f w1, Below w.heap.size w w1 → (∀ d ∈ dstsOf ops, D d (f d) w1) → o.wp P (puts a f (dstsOf ops)) w1 (fun a' w' => Q .normal a' w') Q ∨ (o.asks P (puts a f (dstsOf ops)) w1 ∧ LetsOut Q)) :
    ∀ (fuel : Nat) (listed : Array Bool) (a' : Act) (w' : World), listed.size = ops.size → todo listed = fuel →
      (listed.getD (ops.size - 1) true = false → Midst P ops D a w listed a' w') → (listed.getD (ops.size - 1) true = true → todo listed = 0 ∧ Q .normal a' w') → wpAny P .any ops Q fuel listed a' w' := by
  have hB' := hB
  simp only [openForm, Bool.and_eq_true, decide_eq_true_eq, List.all_eq_true, List.mem_range] at hB'
  obtain ⟨⟨⟨hpos, hall⟩, hlast⟩, hnd⟩ := hB'
  -- each operation's own form
  have form : ∀ i o, ops[i]? = some o → o.guard = none ∧ (∀ e ∈ o.after.toList, e.on < i) ∧ (i = ops.size - 1 ∨ o.dst.isSome = true) := by
    intro i o ho
    have hi : i < ops.size := (Array.getElem?_eq_some_iff.1 ho).1
    have h := hall i hi
    rw [ho] at h
    simp only [Bool.and_eq_true, Bool.or_eq_true, decide_eq_true_eq, Option.isNone_iff_eq_none] at h
    refine ⟨h.1.1, fun e he => ?_, h.2⟩
    have := Array.all_eq_true_iff_forall_mem.1 h.1.2 e (by simpa using he)
    simpa using this
  -- where some are still to come one may come up
  have alive : ∀ listed : Array Bool, listed.size = ops.size → 0 < todo listed → Region.ready .any ops listed ≠ [] := by
    intro listed hs ht he
    obtain ⟨i, hi⟩ : ∃ i, i < ops.size ∧ listed.getD i true = false := by
      unfold todo at ht
      obtain ⟨i, hi, e⟩ := List.mem_iff_getElem.1 (List.count_pos_iff.1 ht)
      have hi' : i < listed.size := by simpa using hi
      exact ⟨i, by omega, by simpa [hi'] using e⟩
    obtain ⟨n, ⟨hn, hf⟩, hmin⟩ : ∃ n, (n < ops.size ∧ listed.getD n true = false) ∧ ∀ m, m < n → listed.getD m true = true := by
      have : ∀ k i, i < k → i < ops.size → listed.getD i true = false → ∃ n, (n < ops.size ∧ listed.getD n true = false) ∧ ∀ m, m < n → listed.getD m true = true := by
        intro k
        induction k with
        | zero => intro i h; omega
        | succ k ih =>
          intro i hik h1 h2
          by_cases hm : ∃ m, m < i ∧ listed.getD m true = false
          · obtain ⟨m, hmi, hmf⟩ := hm
            exact ih m (by omega) (by omega) hmf
          · refine ⟨i, ⟨h1, h2⟩, fun m hmi => ?_⟩
            rcases Bool.eq_false_or_eq_true (listed.getD m true) with h | h
            · exact h
            · exact absurd ⟨m, hmi, h⟩ hm
      exact this (i + 1) i (by omega) hi.1 hi.2
    have hmem : n ∈ Region.ready .any ops listed := by
      refine mem_ready.2 ⟨hf, ops[n], by simp [hn], fun e hee _ => ?_⟩
      have hlt := (form n ops[n] (by simp [hn])).2.1 e (by simpa using hee)
      have := hmin e.on hlt
      have hsz : e.on < listed.size := by omega
      simpa [hsz] using this
    rw [he] at hmem
    cases hmem
  intro fuel
  induction fuel with
  | zero =>
    intro listed a' w' hs ht _ hdone
    have hl : listed.getD (ops.size - 1) true = true := by
      rcases Bool.eq_false_or_eq_true (listed.getD (ops.size - 1) true) with h | h
      · exact h
      · have := todo_set (i := ops.size - 1) (listed := listed) (by omega) h
        omega
    refine ⟨?_, (hdone hl).2⟩
    match hr : Region.ready .any ops listed with
    | [] => rfl
    | i :: _ =>
      exfalso
      have hi : i ∈ Region.ready .any ops listed := by rw [hr]; exact List.mem_cons_self
      obtain ⟨h1, o, ho, _⟩ := mem_ready.1 hi
      have hlt : i < ops.size := (Array.getElem?_eq_some_iff.1 ho).1
      have := todo_set (i := i) (listed := listed) (by omega) h1
      omega
  | succ fuel ih =>
    intro listed a' w' hs ht hmid hdone
    refine ⟨fun he => absurd he (alive listed hs (by omega)), fun i hi => ?_⟩
    obtain ⟨h1, o, ho, hdeps⟩ := mem_ready.1 hi
    have hlt : i < ops.size := (Array.getElem?_eq_some_iff.1 ho).1
    have hset := todo_set (i := i) (listed := listed) (by omega) h1
    obtain ⟨hg, hon, hdst⟩ := form i o ho
    have hl : listed.getD (ops.size - 1) true = false := by
      rcases Bool.eq_false_or_eq_true (listed.getD (ops.size - 1) true) with h | h
      · have := (hdone h).1; omega
      · exact h
    have M := hmid hl
    unfold wpOp
    simp only [ho]
    rw [if_pos (by simp [Region.wanted, hg])]
    by_cases hil : i = ops.size - 1
    · -- the last: all others have come up
      subst hil
      have hallL : ∀ j, j < ops.size - 1 → listed.getD j false = true := by
        intro j hj
        have h := hlast j hj
        rw [ho] at h
        simp only [Array.any_eq_true, Bool.and_eq_true, beq_iff_eq] at h
        obtain ⟨k, hk, h2, h3⟩ := h
        have := hdeps o.after[k] (Array.getElem_mem hk) h3
        rwa [h2] at this
      have hput : a' = puts a (fun k => a'.tmps.getD k undef) (dstsOf ops) := by
        have ht : a'.tmps = (puts a (fun k => a'.tmps.getD k undef) (dstsOf ops)).tmps := by
          apply Array.ext_getElem?
          intro k
          rw [puts_get]
          split
          · rename_i h
            have hk : k < a'.tmps.size := by rw [M.size]; exact h.2
            simp [hk]
          · rename_i h
            by_cases hk : k ∈ dstsOf ops
            · exact absurd ⟨hk, hfit k hk⟩ h
            · exact M.same k hk
        have hd : a'.defers = (puts a (fun k => a'.tmps.getD k undef) (dstsOf ops)).defers := by rw [puts_defers, M.defers]
        exact act_eq ht hd
      have h := last o ho (fun k => a'.tmps.getD k undef) w' M.below (fun d hd => by
        obtain ⟨j, hj, rfl⟩ := List.mem_map.1 hd
        exact M.known j (List.mem_range.1 hj) (hallL j (List.mem_range.1 hj)))
      rw [← hput] at h
      have hall0 : todo (listed.setIfInBounds (ops.size - 1) true) = 0 := by
        unfold todo
        rw [List.count_eq_zero]
        intro hmem
        obtain ⟨j, hj, e⟩ := List.mem_iff_getElem.1 hmem
        have hj' : j < listed.size := by simpa using hj
        by_cases hjl : j = ops.size - 1
        · subst hjl
          simp at e
        · have h2 := hallL j (by omega)
          have e2 : listed[j] = false := by
            simpa [Array.getElem_setIfInBounds, Ne.symm hjl] using e
          simp [hj', e2] at h2
      refine h.imp (fun h => Oper.wp_mono (fun a2 w2 hq => ih _ a2 w2 (by simpa using hs) (by omega) (fun h => ?_) (fun _ => ⟨hall0, hq⟩)) h) id
      rw [getD_set_self (by omega)] at h
      cases h
    · -- one of the others
      have hi1 : i < ops.size - 1 := by omega
      obtain ⟨d, hd⟩ : ∃ d, o.dst = some d := Option.isSome_iff_exists.1 (hdst.resolve_left hil)
      have hdi : dstOf ops i = d := by simp [dstOf, ho, hd]
      have hdm : d ∈ dstsOf ops := hdi ▸ dst_mem hi1
      have hr := step i o hi1 ho a'.eval w' M.below (fun x hx => by
        cases x with
        | tmp t =>
          have hm : t ∉ dstsOf ops := fun hm => hx t hm rfl
          have := M.same t hm
          simp only [Act.eval, Array.getD_eq_getD_getElem?, this]
        | const c => rfl
        | global g => rfl
        | func f => rfl) (fun e he hen hbd => M.known e.on hen (hdeps e (by simpa using he) hbd))
      left
      refine hr.wp fun v w2 ⟨hb2, hD⟩ => ih _ _ w2 (by simpa using hs) (by omega) (fun _ => ?_) (fun h => ?_)
      · rw [hd]
        refine ⟨by simp [Act.put, M.size], by simp [Act.put, M.defers], fun k hk => ?_, M.below.trans (hb2.mono M.below.size), fun j hj hjl => ?_⟩
        · have hkd : d ≠ k := fun e => hk (e ▸ hdm)
          simp only [Act.put, Array.getElem?_setIfInBounds, if_neg hkd]
          exact M.same k hk
        · by_cases hji : j = i
          · subst hji
            rw [hdi] at hD ⊢
            have hds : d < a'.tmps.size := by rw [M.size]; exact hfit d hdm
            simpa [Act.put, hds] using hD
          · have hne : d ≠ dstOf ops j := fun e => hji (dst_inj hnd hj hi1 (by rw [hdi, e]))
            have hold : listed.getD j false = true := by rwa [getD_set_ne false (Ne.symm hji)] at hjl
            have := stable _ _ _ _ (M.known j hj hold) hb2
            simpa [Act.put, Array.getElem?_setIfInBounds, hne] using this
      · rw [getD_set_ne true hil] at h
        rw [hl] at h
        cases h

/-- THE LAW. -/
theorem wp_region_open {P : Program} {id : Nat} {ops : Array Oper} {Q : Exit → Act → World → Prop} (D : Nat → Value → World → Prop) {a : Act} {w : World} (hm : P.follows .mixedOrders = true) (hB : openForm ops = true)
    (hfit : ((dstsOf ops).all fun d => decide (d < a.tmps.size)) = true)
    (stable : ∀ d v w1 w2, D d v w1 → Below w1.heap.size w1 w2 → D d v w2)
    (step : ∀ i o, i < ops.size - 1 → ops[i]? = some o → ∀ (ev : Operand → Value) w1, Below w.heap.size w w1 → (∀ x, (∀ d ∈ dstsOf ops, x ≠ .tmp d) → ev x = a.eval x) →
      (∀ e ∈ o.after.toList, e.on < ops.size - 1 → Region.binds .any e = true → D (dstOf ops e.on) (ev (.tmp (dstOf ops e.on))) w1) → OpRuns P ev o w1 fun v w2 => Below w1.heap.size w1 w2 ∧ D (dstOf ops i) v w2)
    (last : ∀ o, ops[ops.size - 1]? = some o → ∀ f w1, Below w.heap.size w w1 → (∀ d ∈ dstsOf ops, D d (f d) w1) → wpList P ops Q [o] (puts a f (dstsOf ops)) w1) : (Code.region id ops true).wp P Q a w := by
  have hB' := hB
  simp only [openForm, Bool.and_eq_true, decide_eq_true_eq] at hB'
  have hpos := hB'.1.1.1
  refine wp_region_any hm (wpAny_open (D := D) (w := { w with drawn := w.drawn + 1 }) hB (fun d hd => by simpa using List.all_eq_true.1 hfit d hd) stable
    (fun i o hi ho ev w1 hb => step i o hi ho ev w1 ⟨hb.os, hb.tape, hb.output, hb.size, hb.block⟩) (fun o ho f w1 hb hD => ?_) _ _ _ _ (by simp) ?_ (fun _ => ?_) (fun h => ?_))
  · have h := last o ho f w1 ⟨hb.os, hb.tape, hb.output, hb.size, hb.block⟩ hD
    have hall := hB'.1.1.2
    rw [List.all_eq_true] at hall
    have hg := hall (ops.size - 1) (List.mem_range.2 (by omega))
    rw [ho] at hg
    simp only [Bool.and_eq_true, Option.isNone_iff_eq_none] at hg
    unfold wpList at h
    rw [if_pos (by simp [Region.wanted, hg.1.1])] at h
    exact h
  · simp [todo]
  · refine ⟨rfl, rfl, fun _ _ => rfl, Below.refl _ _, fun i hi h => ?_⟩
    have h0 : (Array.replicate ops.size false).getD i false = false := by simp [show i < ops.size by omega]
    rw [h0] at h; cases h
  · have h0 : (Array.replicate ops.size false).getD (ops.size - 1) true = false := by simp [show ops.size - 1 < ops.size by omega]
    rw [h0] at h; cases h
/-! ### The same, for a region that is written out -/

/-- What is known of a slot, and outlives new blocks and draws. -/
structure Known where
  p : Value → World → Prop
  st : ∀ v w1 w2, p v w1 → Below w1.heap.size w1 w2 → p v w2
/-- The slot holds this value. -/
def Known.is (x : Value) : Known := ⟨fun v _ => v = x, fun _ _ _ h _ => h⟩
def Known.any : Known := ⟨fun _ _ => True, fun _ _ _ _ _ => trivial⟩
/-- The slot holds a slice of one cell, a new block's, with this in it. -/
def Known.one (x : Value) : Known := ⟨fun v w => ∃ g, v = .slice (some ⟨g, 0, none⟩) 1 1 ∧ g < w.heap.size ∧ w.cell? ⟨g, 0, none⟩ = some x,
  fun _ _ _ ⟨g, h1, h2, h3⟩ hb => ⟨g, h1, Nat.lt_of_lt_of_le h2 hb.size, (hb.cell (p := ⟨g, 0, none⟩) h2).trans h3⟩⟩

def DepsOk (dsts : List Nat) (T : Nat → Known) (ev : Operand → Value) (w1 : World) : List Edge → Prop
  | [] => True
  | e :: es => (T (dsts.getD e.on 0)).p (ev (.tmp (dsts.getD e.on 0))) w1 ∧ DepsOk dsts T ev w1 es
def StepOk (P : Program) (dsts : List Nat) (T : Nat → Known) (a : Act) (w : World) (o : Oper) (d : Nat) : Prop :=
  ∀ (ev : Operand → Value) w1, Below w.heap.size w w1 → (∀ x, (∀ d ∈ dsts, x ≠ .tmp d) → ev x = a.eval x) → DepsOk dsts T ev w1 o.after.toList → OpRuns P ev o w1 fun v w2 => Below w1.heap.size w1 w2 ∧ (T d).p v w2
def StepsOk (P : Program) (dsts : List Nat) (T : Nat → Known) (a : Act) (w : World) : List Oper → List Nat → Prop
  | o :: os, d :: ds => StepOk P dsts T a w o d ∧ StepsOk P dsts T a w os ds
  | _, _ => True

theorem depsOk_of {dsts : List Nat} {T : Nat → Known} {ev : Operand → Value} {w1 : World} : ∀ {es : List Edge}, (∀ e ∈ es, (T (dsts.getD e.on 0)).p (ev (.tmp (dsts.getD e.on 0))) w1) → DepsOk dsts T ev w1 es
  | [], _ => trivial
  | e :: _, h => ⟨h e List.mem_cons_self, depsOk_of fun e' he => h e' (List.mem_cons_of_mem _ he)⟩
theorem stepsOk_at {P : Program} {dsts : List Nat} {T : Nat → Known} {a : Act} {w : World} : ∀ {os : List Oper} {ds : List Nat} (_ : StepsOk P dsts T a w os ds) (i : Nat) {o : Oper} {d : Nat}, os[i]? = some o → ds[i]? = some d → StepOk P dsts T a w o d
  | [], _, _, i, o, _, ho, _ => by simp at ho
  | _ :: _, [], _, i, _, d, _, hd => by simp at hd
  | o' :: os, d' :: ds, h, 0, o, d, ho, hd => by
    simp at ho hd
    subst ho hd
    exact h.1
  | o' :: os, d' :: ds, h, i + 1, o, d, ho, hd => stepsOk_at h.2 i (by simpa using ho) (by simpa using hd)

/-- All edges bind. -/
def edgesBind (ops : Array Oper) : Bool := ops.all fun o => o.after.all fun e => Region.binds .any e

theorem wp_region_made {P : Program} {id : Nat} {ops : Array Oper} {Q : Exit → Act → World → Prop} (dsts : List Nat) (T : Nat → Known) (o : Oper) {a : Act} {w : World} (hm : P.follows .mixedOrders = true)
    (hB : (openForm ops && edgesBind ops && decide (dstsOf ops = dsts)) = true)
    (ho : ops[ops.size - 1]? = some o)
    (hfit : (dsts.all fun d => decide (d < a.tmps.size)) = true)
    (steps : StepsOk P dsts T a w (ops.toList.take (ops.size - 1)) dsts)
    (last : ∀ f w1, Below w.heap.size w w1 → (∀ d ∈ dsts, (T d).p (f d) w1) → wpList P ops Q [o] (puts a f dsts) w1) : (Code.region id ops true).wp P Q a w := by
  simp only [Bool.and_eq_true, decide_eq_true_eq] at hB
  obtain ⟨⟨hB, hbind⟩, rfl⟩ := hB
  have hB' := hB
  simp only [openForm, Bool.and_eq_true, decide_eq_true_eq] at hB'
  have hform := hB'.1.1.2
  rw [List.all_eq_true] at hform
  refine wp_region_open (fun d v w => (T d).p v w) hm hB hfit (fun d v w1 w2 h hb => (T d).st v w1 w2 h hb) ?_ (fun o' ho' f w1 hb h => ?_)
  · intro i o hi ho ev w1 hb hev hdeps
    have hlt : i < ops.size := by omega
    have h1 := stepsOk_at steps i (o := o) (d := dstOf ops i) (by
      rw [List.getElem?_take, if_pos hi]
      simpa using ho) (by simp [dstsOf, hi])
    refine h1 ev w1 hb hev (depsOk_of fun e he => ?_)
    have hf := hform i (List.mem_range.2 hlt)
    rw [ho] at hf
    simp only [Bool.and_eq_true] at hf
    have hon : e.on < i := by simpa using Array.all_eq_true_iff_forall_mem.1 hf.1.2 e (by simpa using he)
    have hbd : Region.binds .any e = true := by
      have h2 := Array.all_eq_true_iff_forall_mem.1 hbind o (Array.mem_of_getElem? ho)
      exact Array.all_eq_true_iff_forall_mem.1 h2 e (by simpa using he)
    have hg : (dstsOf ops).getD e.on 0 = dstOf ops e.on := by simp [dstsOf, List.getD, show e.on < ops.size - 1 by omega]
    rw [hg]
    exact hdeps e he (by omega) hbd
  · obtain rfl : o' = o := Option.some.inj (ho'.symm.trans ho)
    exact last f w1 hb h

/-! ### The same where the last operation too only leaves a value (and need not wait for all) -/

def dstsAll (ops : Array Oper) : List Nat := (List.range ops.size).map (dstOf ops)
theorem dstAll_mem {ops : Array Oper} {i : Nat} (h : i < ops.size) : dstOf ops i ∈ dstsAll ops := List.mem_map.2 ⟨i, List.mem_range.2 h, rfl⟩
theorem dstAll_inj {ops : Array Oper} (hn : (dstsAll ops).Nodup) {i j : Nat} (hi : i < ops.size) (hj : j < ops.size) (h : dstOf ops i = dstOf ops j) : i = j := by
  have h1 : (dstsAll ops)[i]? = some (dstOf ops i) := by simp [dstsAll, hi]
  have h2 : (dstsAll ops)[j]? = some (dstOf ops j) := by simp [dstsAll, hj]
  have hl : (dstsAll ops).length = ops.size := by simp [dstsAll]
  exact (List.getElem?_inj (by omega) hn).1 (by rw [h1, h2, h])

end Go.Proofs.YtcmgppacipdnaaaGreatDoor

namespace Go.Proofs.YtcmgppacipdnaaaGreatDoor
open Go.RowKit

/-- An error of errors.New at an address. -/
def errV (p : Addr) : Value := .iface 297 (.pointer (some p))
/-- The errors' variables, in the order in which they are asked. -/
def gs : List Nat := [8, 9, 2, 5, 3, 10, 1, 11, 6, 7, 12, 13, 4, 14, 0, 15, 16, 17, 18]

/-- Some of the nineteen errors, as the program lays them: each its own pointer. -/
structure SentsOn (S : Nat → Prop) (w : World) (p : Nat → Addr) : Prop where
  cell : ∀ j, S j → w.cell? ⟨gs.getD j 0, 0, none⟩ = some (errV (p j))
  blk : ∀ j, S j → (p j).block < w.heap.size ∧ ∃ c t, w.heap[(p j).block]? = some (.cells c t (0, 0))
  ne : ∀ i j, S i → S j → i ≠ j → p i ≠ p j
/-- All of them. -/
abbrev Sents (w : World) (p : Nat → Addr) : Prop := SentsOn (fun j => j < 19) w p
/-- The first five: those that readers and batches tell. -/
abbrev Sents5 (w : World) (p : Nat → Addr) : Prop := SentsOn (fun j => j < 5) w p
/-- Those that a batch's Valid tells. -/
abbrev Sents2 (w : World) (p : Nat → Addr) : Prop := SentsOn (fun j => j = 3 ∨ j = 4) w p
theorem SentsOn.mono {S T : Nat → Prop} {w : World} {p : Nat → Addr} (h : SentsOn S w p) (hT : ∀ j, T j → S j) : SentsOn T w p :=
  ⟨fun j hj => h.cell j (hT j hj), fun j hj => h.blk j (hT j hj), fun i j hi hj => h.ne i j (hT i hi) (hT j hj)⟩
/-- Those that a reader of numbers tells, and those that a sealed text's Open tells. -/
abbrev SentsV (w : World) (p : Nat → Addr) : Prop := SentsOn (fun j => j = 0 ∨ j = 2 ∨ j = 4) w p
instance sents5_v (w : World) (p : Nat → Addr) : Coe (SentsOn (fun j => j < 5) w p) (SentsOn (fun j => j = 0 ∨ j = 2 ∨ j = 4) w p) := ⟨fun h => h.mono fun j hj => by omega⟩
instance sents_o (w : World) (p : Nat → Addr) : Coe (SentsOn (fun j => j < 19) w p) (SentsOn (fun j => j < 2) w p) := ⟨fun h => h.mono fun j hj => by omega⟩
theorem SentsOn.five {w : World} {p : Nat → Addr} (h : Sents w p) : Sents5 w p := h.mono fun j hj => by omega
theorem SentsOn.two {w : World} {p : Nat → Addr} (h : Sents5 w p) : Sents2 w p := h.mono fun j hj => by omega

theorem SentsOn.size {S : Nat → Prop} {w : World} {p : Nat → Addr} (h : SentsOn S w p) (j : Nat) (hj : S j) : gs.getD j 0 < w.heap.size := by
  have hc := h.cell j hj
  generalize gs.getD j 0 = g at *
  rcases Nat.lt_or_ge g w.heap.size with h | h
  · exact h
  · simp [World.cell?, Array.getElem?_eq_none h] at hc
theorem SentsOn.below {S : Nat → Prop} {w w' : World} {p : Nat → Addr} (h : SentsOn S w p) (hb : Below w.heap.size w w') : SentsOn S w' p :=
  ⟨fun j hj => (hb.cell (p := ⟨gs.getD j 0, 0, none⟩) (h.size j hj)).trans (h.cell j hj),
   fun j hj => by
    obtain ⟨h1, c, t, h2⟩ := h.blk j hj
    exact ⟨Nat.lt_of_lt_of_le h1 hb.size, c, t, (hb.block _ h1).trans h2⟩, h.ne⟩

theorem es_pointee : Tryz.prog.underlying 297 = some (.pointer 299) := by kernel_rfl
theorem es_facts : ∃ ms i j, Tryz.prog.underlying 46 = some (.interface ms) ∧ Tryz.prog.info? 297 = some i ∧ i.comparable = true ∧ Tryz.prog.info? 299 = some j ∧ j.size ≠ 0 := by
  have h1 : (match Tryz.prog.underlying 46 with | some (.interface _) => true | _ => false) = true := by kernel_rfl
  have h2 : (Tryz.prog.info? 297).map (·.comparable) = some true := by kernel_rfl
  have h3 : (Tryz.prog.info? 299).map (·.size) = some 1 := by kernel_rfl
  obtain ⟨i, h4, h5⟩ := Option.map_eq_some_iff.1 h2
  obtain ⟨j, h6, h7⟩ := Option.map_eq_some_iff.1 h3
  cases hu : Tryz.prog.underlying 46 with
  | none => rw [hu] at h1; cases h1
  | some u =>
    rw [hu] at h1
    cases u with
    | interface ms => exact ⟨ms, i, j, rfl, h4, h5, h6, by omega⟩
    | _ => cases h1
end Go.Proofs.YtcmgppacipdnaaaGreatDoor
