/-
  A statement whose order is open, with operations that are guarded ('&&', '||') and calls that may write: each operation is shown once, from what its own operands are known to be; what is known of a slot must outlive whatever the region does (a relation G of worlds). Not of any one program.
  A statement whose order is open, whose last operation stores what the others have made: each operation is shown once; what is known of a slot outlives whatever the region may do (a relation G of worlds). Not of any one program.
-/
import Derived.Test.YtcmgppacipdnaaaGreatDoorQTable
namespace Go.Proofs.YtcmgppacipdnaaaGreatDoor
open Go Go.RowKit

/-- A relation of worlds that goes on. -/
structure Goes (G : World → World → Prop) : Prop where
  refl : ∀ w, G w w
  trans : ∀ {a b c}, G a b → G b c → G a c
/-- What is known of a slot: it outlives what G lets happen. -/
structure Held (G : World → World → Prop) where
  p : Value → World → Prop
  st : ∀ v w1 w2, p v w1 → G w1 w2 → p v w2
def Held.is {G : World → World → Prop} (x : Value) : Held G := ⟨fun v _ => v = x, fun _ _ _ h _ => h⟩
def Held.any {G : World → World → Prop} : Held G := ⟨fun _ _ => True, fun _ _ _ _ _ => trivial⟩

/-- The form: each operation leaves a value in a slot of its own, and waits for earlier ones alone; for its guard, too. -/
def guardAll (ops : Array Oper) : Bool :=
  (List.range ops.size).all (fun i => match ops[i]? with
    | some o => (match o.guard with | none => true | some (j, _) => decide (j < i) && o.after.any (fun e => e.on == j && Region.binds .any e)) && o.after.all (fun e => decide (e.on < i)) && o.dst.isSome
    | none => false) &&
  decide (dstsAll ops).Nodup

structure MidstG (G : World → World → Prop) (ops : Array Oper) (D : Nat → Value → World → Prop) (a : Act) (w : World) (listed : Array Bool) (a' : Act) (w' : World) : Prop where
  size : a'.tmps.size = a.tmps.size
  defers : a'.defers = a.defers
  same : ∀ k, k ∉ dstsAll ops → a'.tmps[k]? = a.tmps[k]?
  goes : G w w'
  known : ∀ i, i < ops.size → listed.getD i false = true → D (dstOf ops i) (a'.tmps.getD (dstOf ops i) undef) w'

def OpGuard (P : Program) (ev : Operand → Value) (o : Oper) (dj : Nat → Nat) (w1 : World) (Post : Value → World → Prop) : Prop :=
  match o.guard with
  | none => OpRuns P ev o w1 Post
  | some (j, b) => ∃ c, ev (.tmp (dj j)) = .bool c ∧ (c = b → OpRuns P ev o w1 Post) ∧ (c ≠ b → Post undef w1)

theorem wpAny_guard {P : Program} {ops : Array Oper} {Q : Exit → Act → World → Prop} {D : Nat → Value → World → Prop} {G : World → World → Prop} (hG : Goes G) {a : Act} {w : World} (hB : guardAll ops = true)
    (hfit : ∀ d ∈ dstsAll ops, d < a.tmps.size)
    (stable : ∀ d v w1 w2, D d v w1 → G w1 w2 → D d v w2)
    (step : ∀ i o, ops[i]? = some o → ∀ (ev : Operand → Value) w1, G w w1 → (∀ x, (∀ d ∈ dstsAll ops, x ≠ .tmp d) → ev x = a.eval x) →
      (∀ e ∈ o.after.toList, Region.binds .any e = true → D (dstOf ops e.on) (ev (.tmp (dstOf ops e.on))) w1) → OpGuard P ev o (dstOf ops) w1 fun v w2 => G w1 w2 ∧ D (dstOf ops i) v w2)
    (last : ∀ f w1, G w w1 → (∀ d ∈ dstsAll ops, D d (f d) w1) → Q .normal (puts a f (dstsAll ops)) w1) :
    ∀ (fuel : Nat) (listed : Array Bool) (a' : Act) (w' : World), listed.size = ops.size → todo listed = fuel → MidstG G ops D a w listed a' w' → wpAny P .any ops Q fuel listed a' w' := by
  have hB' := hB
  simp only [guardAll, Bool.and_eq_true, decide_eq_true_eq, List.all_eq_true, List.mem_range] at hB'
  obtain ⟨hall, hnd⟩ := hB'
  have form : ∀ (i : Nat) (o : Oper), ops[i]? = some o → (∀ j b, o.guard = some (j, b) → j < i ∧ ∃ e ∈ o.after.toList, e.on = j ∧ Region.binds .any e = true) ∧ (∀ e ∈ o.after.toList, e.on < i) ∧ o.dst.isSome = true := by
    intro i o ho
    have hi : i < ops.size := (Array.getElem?_eq_some_iff.1 ho).1
    have h := hall i hi
    rw [ho] at h
    simp only [Bool.and_eq_true] at h
    refine ⟨fun j b hg => ?_, fun e he => ?_, h.2⟩
    · have h1 := h.1.1
      rw [hg] at h1
      simp only [Bool.and_eq_true, decide_eq_true_eq, Array.any_eq_true, beq_iff_eq] at h1
      obtain ⟨h2, k, hk, h3, h4⟩ := h1
      exact ⟨h2, o.after[k], by simp, h3, h4⟩
    · have := Array.all_eq_true_iff_forall_mem.1 h.1.2 e (by simpa using he)
      simpa using this
  have alive : ∀ listed : Array Bool, listed.size = ops.size → 0 < todo listed → Region.ready .any ops listed ≠ [] := by
    intro listed hs ht he
    obtain ⟨i, hi⟩ : ∃ i, i < ops.size ∧ listed.getD i true = false := by
      unfold todo at ht
      obtain ⟨i, hi, e⟩ := List.mem_iff_getElem.1 (List.count_pos_iff.1 ht)
      have hi' : i < listed.size := by simpa using hi
      exact ⟨i, by omega, by simpa [hi'] using e⟩
    obtain ⟨n, ⟨hn, hf⟩, hmin⟩ : ∃ n, (n < ops.size ∧ listed.getD n true = false) ∧ ∀ m, m < n → listed.getD m true = true := by
      have : ∀ k i, i < k → i < ops.size → listed.getD i true = false → ∃ n, (n < ops.size ∧ listed.getD n true = false) ∧ ∀ m, m < n → listed.getD m true = true := by
        intro k
        induction k with
        | zero => intro i h; omega
        | succ k ih =>
          intro i hik h1 h2
          by_cases hm : ∃ m, m < i ∧ listed.getD m true = false
          · obtain ⟨m, hmi, hmf⟩ := hm
            exact ih m (by omega) (by omega) hmf
          · refine ⟨i, ⟨h1, h2⟩, fun m hmi => ?_⟩
            rcases Bool.eq_false_or_eq_true (listed.getD m true) with h | h
            · exact h
            · exact absurd ⟨m, hmi, h⟩ hm
      exact this (i + 1) i (by omega) hi.1 hi.2
    have hmem : n ∈ Region.ready .any ops listed := by
      refine mem_ready.2 ⟨hf, ops[n], by simp [hn], fun e hee _ => ?_⟩
      have hlt := (form n ops[n] (by simp [hn])).2.1 e (by simpa using hee)
      have := hmin e.on hlt
      have hsz : e.on < listed.size := by omega
      simpa [hsz] using this
    rw [he] at hmem
    cases hmem
  intro fuel
  induction fuel with
  | zero =>
    intro listed a' w' hs ht M
    have hdone : ∀ i, i < ops.size → listed.getD i true = true := by
      intro i hi
      rcases Bool.eq_false_or_eq_true (listed.getD i true) with h | h
      · exact h
      · have := todo_set (i := i) (listed := listed) (by omega) h
        omega
    refine ⟨?_, ?_⟩
    · match hr : Region.ready .any ops listed with
      | [] => rfl
      | i :: _ =>
        exfalso
        have hi : i ∈ Region.ready .any ops listed := by rw [hr]; exact List.mem_cons_self
        obtain ⟨h1, o, ho, _⟩ := mem_ready.1 hi
        have hlt : i < ops.size := (Array.getElem?_eq_some_iff.1 ho).1
        rw [hdone i hlt] at h1
        cases h1
    · have hput : a' = puts a (fun k => a'.tmps.getD k undef) (dstsAll ops) := by
        refine act_eq ?_ (by rw [puts_defers, M.defers])
        apply Array.ext_getElem?
        intro k
        rw [puts_get]
        split
        · rename_i h
          have hk : k < a'.tmps.size := by rw [M.size]; exact h.2
          simp [hk]
        · rename_i h
          by_cases hk : k ∈ dstsAll ops
          · exact absurd ⟨hk, hfit k hk⟩ h
          · exact M.same k hk
      have h := last (fun k => a'.tmps.getD k undef) w' M.goes (fun d hd => by
        obtain ⟨j, hj, rfl⟩ := List.mem_map.1 hd
        have hj' := List.mem_range.1 hj
        refine M.known j hj' ?_
        have := hdone j hj'
        have hsz : j < listed.size := by omega
        simpa [hsz] using this)
      rwa [← hput] at h
  | succ fuel ih =>
    intro listed a' w' hs ht M
    refine ⟨fun he => absurd he (alive listed hs (by omega)), fun i hi => ?_⟩
    obtain ⟨h1, o, ho, hdeps⟩ := mem_ready.1 hi
    have hlt : i < ops.size := (Array.getElem?_eq_some_iff.1 ho).1
    have hset := todo_set (i := i) (listed := listed) (by omega) h1
    obtain ⟨hg, hon, hdst⟩ := form i o ho
    obtain ⟨d, hd⟩ : ∃ d, o.dst = some d := Option.isSome_iff_exists.1 hdst
    have hdi : dstOf ops i = d := by simp [dstOf, ho, hd]
    have hdm : d ∈ dstsAll ops := hdi ▸ dstAll_mem hlt
    have hr := step i o ho a'.eval w' M.goes (fun x hx => by
      cases x with
      | tmp t =>
        have hm : t ∉ dstsAll ops := fun hm => hx t hm rfl
        have := M.same t hm
        simp only [Act.eval, Array.getD_eq_getD_getElem?, this]
      | const c => rfl
      | global g => rfl
      | func f => rfl) (fun e he hbd => M.known e.on (by have := hon e he; omega) (hdeps e (by simpa using he) hbd))
    have fin : ∀ v w2, G w' w2 → D (dstOf ops i) v w2 → wpAny P .any ops Q fuel (listed.setIfInBounds i true) (a'.put o.dst v) w2 := fun v w2 hb2 hD => by
      refine ih _ _ w2 (by simpa using hs) (by omega) ?_
      rw [hd]
      refine ⟨by simp [Act.put, M.size], by simp [Act.put, M.defers], fun k hk => ?_, hG.trans M.goes hb2, fun j hj hjl => ?_⟩
      · have hkd : d ≠ k := fun e => hk (e ▸ hdm)
        simp only [Act.put, Array.getElem?_setIfInBounds, if_neg hkd]
        exact M.same k hk
      · by_cases hji : j = i
        · subst hji
          rw [hdi] at hD ⊢
          have hds : d < a'.tmps.size := by rw [M.size]; exact hfit d hdm
          simpa [Act.put, hds] using hD
        · have hne : d ≠ dstOf ops j := fun e => hji (dstAll_inj hnd hj hlt (by rw [hdi, e]))
          have hold : listed.getD j false = true := by rwa [getD_set_ne false (Ne.symm hji)] at hjl
          have := stable _ _ _ _ (M.known j hj hold) hb2
          simpa [Act.put, Array.getElem?_setIfInBounds, hne] using this
    unfold wpOp
    simp only [ho]
    unfold OpGuard at hr
    cases hgd : o.guard with
    | none =>
      rw [hgd] at hr
      rw [if_pos (by simp [Region.wanted, hgd])]
      exact .inl (hr.wp fun v w2 ⟨hb2, hD⟩ => fin v w2 hb2 hD)
    | some jb =>
      obtain ⟨j, b⟩ := jb
      rw [hgd] at hr
      obtain ⟨c, hc, hy, hn⟩ := hr
      have hj : j < ops.size := by have := (hg j b hgd).1; omega
      have hyd : yielded ops a'.tmps j = some c := by
        have hoj : ops[j]? = some ops[j] := by simp [hj]
        obtain ⟨dj, hdj⟩ : ∃ dj, ops[j].dst = some dj := Option.isSome_iff_exists.1 (form j _ hoj).2.2
        have e1 : dstOf ops j = dj := by simp [dstOf, hoj, hdj]
        rw [e1] at hc
        have hcell : a'.tmps[dj]? = some (.bool c) := by
          simp only [Act.eval, Array.getD_eq_getD_getElem?] at hc
          cases ht : a'.tmps[dj]? with
          | none => rw [ht] at hc; simp [undef] at hc
          | some v => rw [ht] at hc; simp at hc; rw [hc]
        unfold yielded
        rw [hoj]
        simp [hdj, hcell]
      by_cases hcb : c = b
      · rw [if_pos (by simp [Region.wanted, hgd, hyd, hcb])]
        exact .inl ((hy hcb).wp fun v w2 ⟨hb2, hD⟩ => fin v w2 hb2 hD)
      · rw [if_neg (by simp [Region.wanted, hgd, hyd, hcb])]
        exact fin undef w' (hn hcb).1 (hn hcb).2

def DepsG {G : World → World → Prop} (dsts : List Nat) (T : Nat → Held G) (ev : Operand → Value) (w1 : World) : List Edge → Prop
  | [] => True
  | e :: es => (T (dsts.getD e.on 0)).p (ev (.tmp (dsts.getD e.on 0))) w1 ∧ DepsG dsts T ev w1 es
def StepG {G : World → World → Prop} (P : Program) (dsts : List Nat) (T : Nat → Held G) (a : Act) (w : World) (o : Oper) (d : Nat) : Prop :=
  ∀ (ev : Operand → Value) w1, G w w1 → (∀ x, (∀ d ∈ dsts, x ≠ .tmp d) → ev x = a.eval x) → DepsG dsts T ev w1 o.after.toList → OpGuard P ev o (fun j => dsts.getD j 0) w1 fun v w2 => G w1 w2 ∧ (T d).p v w2
def StepsG {G : World → World → Prop} (P : Program) (dsts : List Nat) (T : Nat → Held G) (a : Act) (w : World) : List Oper → List Nat → Prop
  | o :: os, d :: ds => StepG P dsts T a w o d ∧ StepsG P dsts T a w os ds
  | _, _ => True
theorem depsG_of {G : World → World → Prop} {dsts : List Nat} {T : Nat → Held G} {ev : Operand → Value} {w1 : World} : ∀ {es : List Edge}, (∀ e ∈ es, (T (dsts.getD e.on 0)).p (ev (.tmp (dsts.getD e.on 0))) w1) → DepsG dsts T ev w1 es
  | [], _ => trivial
  | _ :: _, h => ⟨h _ List.mem_cons_self, depsG_of fun e he => h e (List.mem_cons_of_mem _ he)⟩
theorem stepsG_at {G : World → World → Prop} {P : Program} {dsts : List Nat} {T : Nat → Held G} {a : Act} {w : World} : ∀ {os : List Oper} {ds : List Nat} (_ : StepsG P dsts T a w os ds) (i : Nat) {o : Oper} {d : Nat}, os[i]? = some o → ds[i]? = some d → StepG P dsts T a w o d
  | [], _, _, i, _, _, h, _ => by simp at h
  | _ :: _, [], _, i, _, _, _, h => by simp at h
  | _ :: os, _ :: ds, h, 0, _, _, ho, hd => by simp at ho hd; subst ho hd; exact h.1
  | _ :: os, _ :: ds, h, i + 1, _, _, ho, hd => stepsG_at h.2 i (by simpa using ho) (by simpa using hd)

/-- THE LAW. -/
theorem wp_region_guard {P : Program} {id : Nat} {ops : Array Oper} {Q : Exit → Act → World → Prop} {G : World → World → Prop} (hG : Goes G) (dsts : List Nat) (T : Nat → Held G) {a : Act} {w : World} (hm : P.follows .mixedOrders = true)
    (hB : (guardAll ops && edgesBind ops && decide (dstsAll ops = dsts)) = true)
    (hfit : (dsts.all fun d => decide (d < a.tmps.size)) = true)
    (steps : StepsG P dsts T a w.drew ops.toList dsts)
    (last : ∀ f w1, G w.drew w1 → (∀ d ∈ dsts, (T d).p (f d) w1) → Q .normal (puts a f dsts) w1) : (Code.region id ops true).wp P Q a w := by
  simp only [Bool.and_eq_true, decide_eq_true_eq] at hB
  obtain ⟨⟨hB, hbind⟩, rfl⟩ := hB
  have hB' := hB
  simp only [guardAll, Bool.and_eq_true] at hB'
  have hform := hB'.1
  rw [List.all_eq_true] at hform
  refine wp_region_any hm (wpAny_guard (D := fun d v w => (T d).p v w) hG (w := w.drew) hB (fun d hd => by simpa using List.all_eq_true.1 hfit d hd) (fun d v w1 w2 h hb => (T d).st v w1 w2 h hb)
    (fun i o ho ev w1 hb hev hdeps => ?_) (fun f w1 hb h => last f w1 hb h) _ _ _ _ (by simp) (by simp [todo]) ⟨rfl, rfl, fun _ _ => rfl, hG.refl _, fun i hi h => ?_⟩)
  · have hlt : i < ops.size := (Array.getElem?_eq_some_iff.1 ho).1
    have h1 := stepsG_at steps i (o := o) (d := dstOf ops i) (by simpa using ho) (by simp [dstsAll, hlt])
    have hf := hform i (List.mem_range.2 hlt)
    rw [ho] at hf
    simp only [Bool.and_eq_true] at hf
    have hget : ∀ j, j < ops.size → (dstsAll ops).getD j 0 = dstOf ops j := fun j hj => by simp [dstsAll, List.getD, hj]
    have h2 := h1 ev w1 hb hev (depsG_of fun e he => ?_)
    · unfold OpGuard at h2 ⊢
      cases hgd : o.guard with
      | none => rw [hgd] at h2; exact h2
      | some jb =>
        obtain ⟨j, b⟩ := jb
        rw [hgd] at h2
        have hj : j < i := by
          have h3 := hf.1.1
          rw [hgd] at h3
          simp only [Bool.and_eq_true, decide_eq_true_eq] at h3
          exact h3.1
        simp only [hget j (by omega)] at h2
        exact h2
    · have hon : e.on < i := by simpa using Array.all_eq_true_iff_forall_mem.1 hf.1.2 e (by simpa using he)
      have hbd : Region.binds .any e = true := by
        have h2 := Array.all_eq_true_iff_forall_mem.1 hbind o (Array.mem_of_getElem? ho)
        exact Array.all_eq_true_iff_forall_mem.1 h2 e (by simpa using he)
      rw [hget e.on (by omega)]
      exact hdeps e he hbd
  · have h0 : (Array.replicate ops.size false).getD i false = false := by simp [show i < ops.size by omega]
    rw [h0] at h; cases h
end Go.Proofs.YtcmgppacipdnaaaGreatDoor

namespace Go.Proofs.YtcmgppacipdnaaaGreatDoor
open Go Go.RowKit

/-- As openForm, but an operation may be waited for by one that is waited for. -/
def openForm2 (ops : Array Oper) : Bool :=
  decide (0 < ops.size) &&
  (List.range ops.size).all (fun i => match ops[i]? with
    | some o => o.guard.isNone && o.after.all (fun e => decide (e.on < i)) && (decide (i = ops.size - 1) || o.dst.isSome)
    | none => false) &&
  (List.range (ops.size - 1)).all (fun i => match ops[ops.size - 1]? with
    | some o => o.after.any (fun e => e.on == i && Region.binds .any e) || o.after.any (fun e => Region.binds .any e && (match ops[e.on]? with
      | some o2 => o2.after.any (fun e2 => e2.on == i && Region.binds .any e2)
      | none => false))
    | none => false) &&
  decide (dstsOf ops).Nodup

structure MidstS (G : World → World → Prop) (P : Program) (ops : Array Oper) (D : Nat → Value → World → Prop) (a : Act) (w : World) (listed : Array Bool) (a' : Act) (w' : World) : Prop where
  size : a'.tmps.size = a.tmps.size
  defers : a'.defers = a.defers
  same : ∀ k, k ∉ dstsOf ops → a'.tmps[k]? = a.tmps[k]?
  below : G w w'
  known : ∀ i, i < ops.size - 1 → listed.getD i false = true → D (dstOf ops i) (a'.tmps.getD (dstOf ops i) undef) w'
  closed : ∀ (j : Nat) (o : Oper), ops[j]? = some o → listed.getD j false = true → ∀ e ∈ o.after.toList, Region.binds .any e = true → listed.getD e.on false = true

theorem wpAny_openS {G : World → World → Prop} (hG : Goes G) {P : Program} {ops : Array Oper} {Q : Exit → Act → World → Prop} {D : Nat → Value → World → Prop} {a : Act} {w : World} (hB : openForm2 ops = true)
    (hfit : ∀ d ∈ dstsOf ops, d < a.tmps.size)
    (stable : ∀ d v w1 w2, D d v w1 → G w1 w2 → D d v w2)
    (step : ∀ i o, i < ops.size - 1 → ops[i]? = some o → ∀ (ev : Operand → Value) w1, G w w1 → (∀ x, (∀ d ∈ dstsOf ops, x ≠ .tmp d) → ev x = a.eval x) →
      (∀ e ∈ o.after.toList, e.on < ops.size - 1 → Region.binds .any e = true → D (dstOf ops e.on) (ev (.tmp (dstOf ops e.on))) w1) → OpRuns P ev o w1 fun v w2 => G w1 w2 ∧ D (dstOf ops i) v w2)
    (last : ∀ o, ops[ops.size - 1]? = some o → ∀ f w1, G w w1 → (∀ d ∈ dstsOf ops, D d (f d) w1) → o.wp P (puts a f (dstsOf ops)) w1 (fun a' w' => Q .normal a' w') Q ∨ (o.asks P (puts a f (dstsOf ops)) w1 ∧ LetsOut Q)) :
    ∀ (fuel : Nat) (listed : Array Bool) (a' : Act) (w' : World), listed.size = ops.size → todo listed = fuel →
      (listed.getD (ops.size - 1) true = false → MidstS G P ops D a w listed a' w') → (listed.getD (ops.size - 1) true = true → todo listed = 0 ∧ Q .normal a' w') → wpAny P .any ops Q fuel listed a' w' := by
  have hB' := hB
  simp only [openForm2, Bool.and_eq_true, decide_eq_true_eq, List.all_eq_true, List.mem_range] at hB'
  obtain ⟨⟨⟨hpos, hall⟩, hlast⟩, hnd⟩ := hB'
  -- each operation's own form
  have form : ∀ i o, ops[i]? = some o → o.guard = none ∧ (∀ e ∈ o.after.toList, e.on < i) ∧ (i = ops.size - 1 ∨ o.dst.isSome = true) := by
    intro i o ho
    have hi : i < ops.size := (Array.getElem?_eq_some_iff.1 ho).1
    have h := hall i hi
    rw [ho] at h
    simp only [Bool.and_eq_true, Bool.or_eq_true, decide_eq_true_eq, Option.isNone_iff_eq_none] at h
    refine ⟨h.1.1, fun e he => ?_, h.2⟩
    have := Array.all_eq_true_iff_forall_mem.1 h.1.2 e (by simpa using he)
    simpa using this
  -- where some are still to come one may come up
  have alive : ∀ listed : Array Bool, listed.size = ops.size → 0 < todo listed → Region.ready .any ops listed ≠ [] := by
    intro listed hs ht he
    obtain ⟨i, hi⟩ : ∃ i, i < ops.size ∧ listed.getD i true = false := by
      unfold todo at ht
      obtain ⟨i, hi, e⟩ := List.mem_iff_getElem.1 (List.count_pos_iff.1 ht)
      have hi' : i < listed.size := by simpa using hi
      exact ⟨i, by omega, by simpa [hi'] using e⟩
    obtain ⟨n, ⟨hn, hf⟩, hmin⟩ : ∃ n, (n < ops.size ∧ listed.getD n true = false) ∧ ∀ m, m < n → listed.getD m true = true := by
      have : ∀ k i, i < k → i < ops.size → listed.getD i true = false → ∃ n, (n < ops.size ∧ listed.getD n true = false) ∧ ∀ m, m < n → listed.getD m true = true := by
        intro k
        induction k with
        | zero => intro i h; omega
        | succ k ih =>
          intro i hik h1 h2
          by_cases hm : ∃ m, m < i ∧ listed.getD m true = false
          · obtain ⟨m, hmi, hmf⟩ := hm
            exact ih m (by omega) (by omega) hmf
          · refine ⟨i, ⟨h1, h2⟩, fun m hmi => ?_⟩
            rcases Bool.eq_false_or_eq_true (listed.getD m true) with h | h
            · exact h
            · exact absurd ⟨m, hmi, h⟩ hm
      exact this (i + 1) i (by omega) hi.1 hi.2
    have hmem : n ∈ Region.ready .any ops listed := by
      refine mem_ready.2 ⟨hf, ops[n], by simp [hn], fun e hee _ => ?_⟩
      have hlt := (form n ops[n] (by simp [hn])).2.1 e (by simpa using hee)
      have := hmin e.on hlt
      have hsz : e.on < listed.size := by omega
      simpa [hsz] using this
    rw [he] at hmem
    cases hmem
  intro fuel
  induction fuel with
  | zero =>
    intro listed a' w' hs ht _ hdone
    have hl : listed.getD (ops.size - 1) true = true := by
      rcases Bool.eq_false_or_eq_true (listed.getD (ops.size - 1) true) with h | h
      · exact h
      · have := todo_set (i := ops.size - 1) (listed := listed) (by omega) h
        omega
    refine ⟨?_, (hdone hl).2⟩
    match hr : Region.ready .any ops listed with
    | [] => rfl
    | i :: _ =>
      exfalso
      have hi : i ∈ Region.ready .any ops listed := by rw [hr]; exact List.mem_cons_self
      obtain ⟨h1, o, ho, _⟩ := mem_ready.1 hi
      have hlt : i < ops.size := (Array.getElem?_eq_some_iff.1 ho).1
      have := todo_set (i := i) (listed := listed) (by omega) h1
      omega
  | succ fuel ih =>
    intro listed a' w' hs ht hmid hdone
    refine ⟨fun he => absurd he (alive listed hs (by omega)), fun i hi => ?_⟩
    obtain ⟨h1, o, ho, hdeps⟩ := mem_ready.1 hi
    have hlt : i < ops.size := (Array.getElem?_eq_some_iff.1 ho).1
    have hset := todo_set (i := i) (listed := listed) (by omega) h1
    obtain ⟨hg, hon, hdst⟩ := form i o ho
    have hl : listed.getD (ops.size - 1) true = false := by
      rcases Bool.eq_false_or_eq_true (listed.getD (ops.size - 1) true) with h | h
      · have := (hdone h).1; omega
      · exact h
    have M := hmid hl
    unfold wpOp
    simp only [ho]
    rw [if_pos (by simp [Region.wanted, hg])]
    by_cases hil : i = ops.size - 1
    · -- the last: all others have come up
      subst hil
      have hallL : ∀ j, j < ops.size - 1 → listed.getD j false = true := by
        intro j hj
        have h := hlast j hj
        rw [ho] at h
        simp only [Bool.or_eq_true, Array.any_eq_true, Bool.and_eq_true, beq_iff_eq] at h
        rcases h with ⟨k, hk, h2, h3⟩ | ⟨k, hk, h3, h4⟩
        · have := hdeps o.after[k] (Array.getElem_mem hk) h3
          rwa [h2] at this
        · have h5 := hdeps o.after[k] (Array.getElem_mem hk) h3
          cases ho2 : ops[o.after[k].on]? with
          | none => rw [ho2] at h4; cases h4
          | some o2 =>
            rw [ho2] at h4
            simp only [Array.any_eq_true, Bool.and_eq_true, beq_iff_eq] at h4
            obtain ⟨k2, hk2, h6, h7⟩ := h4
            have := M.closed _ o2 ho2 h5 o2.after[k2] (by simp) h7
            rwa [h6] at this
      have hput : a' = puts a (fun k => a'.tmps.getD k undef) (dstsOf ops) := by
        have ht : a'.tmps = (puts a (fun k => a'.tmps.getD k undef) (dstsOf ops)).tmps := by
          apply Array.ext_getElem?
          intro k
          rw [puts_get]
          split
          · rename_i h
            have hk : k < a'.tmps.size := by rw [M.size]; exact h.2
            simp [hk]
          · rename_i h
            by_cases hk : k ∈ dstsOf ops
            · exact absurd ⟨hk, hfit k hk⟩ h
            · exact M.same k hk
        have hd : a'.defers = (puts a (fun k => a'.tmps.getD k undef) (dstsOf ops)).defers := by rw [puts_defers, M.defers]
        exact act_eq ht hd
      have h := last o ho (fun k => a'.tmps.getD k undef) w' M.below (fun d hd => by
        obtain ⟨j, hj, rfl⟩ := List.mem_map.1 hd
        exact M.known j (List.mem_range.1 hj) (hallL j (List.mem_range.1 hj)))
      rw [← hput] at h
      have hall0 : todo (listed.setIfInBounds (ops.size - 1) true) = 0 := by
        unfold todo
        rw [List.count_eq_zero]
        intro hmem
        obtain ⟨j, hj, e⟩ := List.mem_iff_getElem.1 hmem
        have hj' : j < listed.size := by simpa using hj
        by_cases hjl : j = ops.size - 1
        · subst hjl
          simp at e
        · have h2 := hallL j (by omega)
          have e2 : listed[j] = false := by
            simpa [Array.getElem_setIfInBounds, Ne.symm hjl] using e
          simp [hj', e2] at h2
      refine h.imp (fun h => Oper.wp_mono (fun a2 w2 hq => ih _ a2 w2 (by simpa using hs) (by omega) (fun h => ?_) (fun _ => ⟨hall0, hq⟩)) h) id
      rw [getD_set_self (by omega)] at h
      cases h
    · -- one of the others
      have hi1 : i < ops.size - 1 := by omega
      obtain ⟨d, hd⟩ : ∃ d, o.dst = some d := Option.isSome_iff_exists.1 (hdst.resolve_left hil)
      have hdi : dstOf ops i = d := by simp [dstOf, ho, hd]
      have hdm : d ∈ dstsOf ops := hdi ▸ dst_mem hi1
      have hr := step i o hi1 ho a'.eval w' M.below (fun x hx => by
        cases x with
        | tmp t =>
          have hm : t ∉ dstsOf ops := fun hm => hx t hm rfl
          have := M.same t hm
          simp only [Act.eval, Array.getD_eq_getD_getElem?, this]
        | const c => rfl
        | global g => rfl
        | func f => rfl) (fun e he hen hbd => M.known e.on hen (hdeps e (by simpa using he) hbd))
      left
      refine hr.wp fun v w2 ⟨hb2, hD⟩ => ih _ _ w2 (by simpa using hs) (by omega) (fun _ => ?_) (fun h => ?_)
      · rw [hd]
        refine ⟨by simp [Act.put, M.size], by simp [Act.put, M.defers], fun k hk => ?_, hG.trans M.below hb2, fun j hj hjl => ?_, fun j o2 ho2 hjl e he hbd => ?_⟩
        · have hkd : d ≠ k := fun e => hk (e ▸ hdm)
          simp only [Act.put, Array.getElem?_setIfInBounds, if_neg hkd]
          exact M.same k hk
        · by_cases hji : j = i
          · subst hji
            rw [hdi] at hD ⊢
            have hds : d < a'.tmps.size := by rw [M.size]; exact hfit d hdm
            simpa [Act.put, hds] using hD
          · have hne : d ≠ dstOf ops j := fun e => hji (dst_inj hnd hj hi1 (by rw [hdi, e]))
            have hold : listed.getD j false = true := by rwa [getD_set_ne false (Ne.symm hji)] at hjl
            have := stable _ _ _ _ (M.known j hj hold) hb2
            simpa [Act.put, Array.getElem?_setIfInBounds, hne] using this
        · have mono : ∀ x, listed.getD x false = true → (listed.setIfInBounds i true).getD x false = true := fun x hx => by
            by_cases hxi : x = i
            · subst hxi; exact getD_set_self (by omega) false
            · rw [getD_set_ne false (Ne.symm hxi)]; exact hx
          by_cases hji : j = i
          · subst hji
            obtain rfl : o2 = o := Option.some.inj (ho2.symm.trans ho)
            exact mono _ (hdeps e (by simpa using he) hbd)
          · have hold : listed.getD j false = true := by rwa [getD_set_ne false (Ne.symm hji)] at hjl
            exact mono _ (M.closed j o2 ho2 hold e he hbd)
      · rw [getD_set_ne true hil] at h
        rw [hl] at h
        cases h

/-- THE LAW. -/
theorem wp_region_openS {G : World → World → Prop} (hG : Goes G) {P : Program} {id : Nat} {ops : Array Oper} {Q : Exit → Act → World → Prop} (D : Nat → Value → World → Prop) {a : Act} {w : World} (hm : P.follows .mixedOrders = true) (hB : openForm2 ops = true)
    (hfit : ((dstsOf ops).all fun d => decide (d < a.tmps.size)) = true)
    (stable : ∀ d v w1 w2, D d v w1 → G w1 w2 → D d v w2)
    (step : ∀ i o, i < ops.size - 1 → ops[i]? = some o → ∀ (ev : Operand → Value) w1, G w.drew w1 → (∀ x, (∀ d ∈ dstsOf ops, x ≠ .tmp d) → ev x = a.eval x) →
      (∀ e ∈ o.after.toList, e.on < ops.size - 1 → Region.binds .any e = true → D (dstOf ops e.on) (ev (.tmp (dstOf ops e.on))) w1) → OpRuns P ev o w1 fun v w2 => G w1 w2 ∧ D (dstOf ops i) v w2)
    (last : ∀ o, ops[ops.size - 1]? = some o → ∀ f w1, G w.drew w1 → (∀ d ∈ dstsOf ops, D d (f d) w1) → wpList P ops Q [o] (puts a f (dstsOf ops)) w1) : (Code.region id ops true).wp P Q a w := by
  have hB' := hB
  simp only [openForm2, Bool.and_eq_true, decide_eq_true_eq] at hB'
  have hpos := hB'.1.1.1
  refine wp_region_any hm (wpAny_openS hG (D := D) (w := w.drew) hB (fun d hd => by simpa using List.all_eq_true.1 hfit d hd) stable
    step (fun o ho f w1 hb hD => ?_) _ _ _ _ (by simp) ?_ (fun _ => ?_) (fun h => ?_))
  · have h := last o ho f w1 hb hD
    have hall := hB'.1.1.2
    rw [List.all_eq_true] at hall
    have hg := hall (ops.size - 1) (List.mem_range.2 (by omega))
    rw [ho] at hg
    simp only [Bool.and_eq_true, Option.isNone_iff_eq_none] at hg
    unfold wpList at h
    rw [if_pos (by simp [Region.wanted, hg.1.1])] at h
    exact h
  · simp [todo]
  · refine ⟨rfl, rfl, fun _ _ => rfl, hG.refl _, fun i hi h => ?_, fun j o2 ho2 h => ?_⟩
    · have h0 : (Array.replicate ops.size false).getD i false = false := by simp [show i < ops.size by omega]
      rw [h0] at h; cases h
    · have hj : j < ops.size := (Array.getElem?_eq_some_iff.1 ho2).1
      have h0 : (Array.replicate ops.size false).getD j false = false := by simp [hj]
      rw [h0] at h; cases h
  · have h0 : (Array.replicate ops.size false).getD (ops.size - 1) true = false := by simp [show ops.size - 1 < ops.size by omega]
    rw [h0] at h; cases h
def StepH {G : World → World → Prop} (P : Program) (dsts : List Nat) (T : Nat → Held G) (a : Act) (w : World) (o : Oper) (d : Nat) : Prop :=
  ∀ (ev : Operand → Value) w1, G w w1 → (∀ x, (∀ d ∈ dsts, x ≠ .tmp d) → ev x = a.eval x) → DepsG dsts T ev w1 o.after.toList → OpRuns P ev o w1 fun v w2 => G w1 w2 ∧ (T d).p v w2
def StepsH {G : World → World → Prop} (P : Program) (dsts : List Nat) (T : Nat → Held G) (a : Act) (w : World) : List Oper → List Nat → Prop
  | o :: os, d :: ds => StepH P dsts T a w o d ∧ StepsH P dsts T a w os ds
  | _, _ => True
theorem stepsH_at {G : World → World → Prop} {P : Program} {dsts : List Nat} {T : Nat → Held G} {a : Act} {w : World} : ∀ {os : List Oper} {ds : List Nat} (_ : StepsH P dsts T a w os ds) (i : Nat) {o : Oper} {d : Nat}, os[i]? = some o → ds[i]? = some d → StepH P dsts T a w o d
  | [], _, _, i, _, _, h, _ => by simp at h
  | _ :: _, [], _, i, _, _, _, h => by simp at h
  | _ :: os, _ :: ds, h, 0, _, _, ho, hd => by simp at ho hd; subst ho hd; exact h.1
  | _ :: os, _ :: ds, h, i + 1, _, _, ho, hd => stepsH_at h.2 i (by simpa using ho) (by simpa using hd)

/-- A region that is written out, its last operation a store that waits for all. -/
theorem wp_region_store {G : World → World → Prop} (hG : Goes G) {P : Program} {id : Nat} {ops : Array Oper} {Q : Exit → Act → World → Prop} (dsts : List Nat) (T : Nat → Held G) (o : Oper) {a : Act} {w : World} (hm : P.follows .mixedOrders = true)
    (hB : (openForm2 ops && edgesBind ops && decide (dstsOf ops = dsts)) = true)
    (ho : ops[ops.size - 1]? = some o)
    (hfit : (dsts.all fun d => decide (d < a.tmps.size)) = true)
    (steps : StepsH P dsts T a w.drew (ops.toList.take (ops.size - 1)) dsts)
    (last : ∀ f w1, G w.drew w1 → (∀ d ∈ dsts, (T d).p (f d) w1) → wpList P ops Q [o] (puts a f dsts) w1) : (Code.region id ops true).wp P Q a w := by
  simp only [Bool.and_eq_true, decide_eq_true_eq] at hB
  obtain ⟨⟨hB, hbind⟩, rfl⟩ := hB
  have hB' := hB
  simp only [openForm2, Bool.and_eq_true, decide_eq_true_eq] at hB'
  have hform := hB'.1.1.2
  rw [List.all_eq_true] at hform
  refine wp_region_openS hG (fun d v w => (T d).p v w) hm hB hfit (fun d v w1 w2 h hb => (T d).st v w1 w2 h hb) ?_ (fun o' ho' f w1 hb h => ?_)
  · intro i o hi ho ev w1 hb hev hdeps
    have hlt : i < ops.size := by omega
    have h1 := stepsH_at steps i (o := o) (d := dstOf ops i) (by
      rw [List.getElem?_take, if_pos hi]
      simpa using ho) (by simp [dstsOf, hi])
    refine h1 ev w1 hb hev (depsG_of fun e he => ?_)
    have hf := hform i (List.mem_range.2 hlt)
    rw [ho] at hf
    simp only [Bool.and_eq_true] at hf
    have hon : e.on < i := by simpa using Array.all_eq_true_iff_forall_mem.1 hf.1.2 e (by simpa using he)
    have hbd : Region.binds .any e = true := by
      have h2 := Array.all_eq_true_iff_forall_mem.1 hbind o (Array.mem_of_getElem? ho)
      exact Array.all_eq_true_iff_forall_mem.1 h2 e (by simpa using he)
    have hg : (dstsOf ops).getD e.on 0 = dstOf ops e.on := by simp [dstsOf, List.getD, show e.on < ops.size - 1 by omega]
    rw [hg]
    exact hdeps e he (by omega) hbd
  · obtain rfl : o' = o := Option.some.inj (ho'.symm.trans ho)
    exact last f w1 hb h

end Go.Proofs.YtcmgppacipdnaaaGreatDoor
