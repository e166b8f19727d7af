/-
  A statement whose order is open, one of whose operations changes memory in the midst, and whose last one stores: each operation is shown once. Nothing of any program is named here.
-/
import Derived.Test.YtcmgppacipdnaaaGreatDoorQ20
namespace Go.Proofs.YtcmgppacipdnaaaGreatDoor
open Go Go.RowKit

/-- Operation jj waits for operation i by its own word. -/
def isBef (ops : Array Oper) (jj i : Nat) : Bool := match ops[jj]? with
  | some o => o.after.any (fun e => e.on == i && Region.binds .any e)
  | none => false
theorem isBef_of {ops : Array Oper} {jj i : Nat} (h : isBef ops jj i = true) : ∃ oj, ops[jj]? = some oj ∧ ∃ e ∈ oj.after.toList, Region.binds .any e = true ∧ e.on = i := by
  unfold isBef at h
  cases ho : ops[jj]? with
  | none => rw [ho] at h; cases h
  | some o =>
    rw [ho] at h
    simp only [Array.any_eq_true, Bool.and_eq_true, beq_iff_eq] at h
    obtain ⟨k, hk, h2, h3⟩ := h
    exact ⟨o, rfl, o.after[k], by simp, h3, h2⟩

structure MidstA (G0 G : World → World → Prop) (jj : Nat) (P : Program) (ops : Array Oper) (D : Nat → Value → World → Prop) (a : Act) (w : World) (listed : Array Bool) (a' : Act) (w' : World) : Prop where
  size : a'.tmps.size = a.tmps.size
  defers : a'.defers = a.defers
  same : ∀ k, k ∉ dstsOf ops → a'.tmps[k]? = a.tmps[k]?
  below : G w w'
  pre : listed.getD jj false = false → G0 w w'
  known : ∀ i, i < ops.size - 1 → listed.getD i false = true → D (dstOf ops i) (a'.tmps.getD (dstOf ops i) undef) w'
  closed : ∀ (j : Nat) (o : Oper), ops[j]? = some o → listed.getD j false = true → ∀ e ∈ o.after.toList, Region.binds .any e = true → listed.getD e.on false = true

theorem wpAny_openA {G0 G : World → World → Prop} (hG0 : Goes G0) (hG : Goes G) (_hsub : ∀ a b, G0 a b → G a b) {jj : Nat} {P : Program} {ops : Array Oper} {Q : Exit → Act → World → Prop} {D : Nat → Value → World → Prop} {a : Act} {w : World} (hB : openForm2 ops = true)
    (hfit : ∀ d ∈ dstsOf ops, d < a.tmps.size)
    (hjj : jj < ops.size - 1)
    (stable : ∀ d v w1 w2, d ≠ dstOf ops jj → D d v w1 → G w1 w2 → D d v w2)
    (stableJ : ∀ v w1 w2, D (dstOf ops jj) v w1 → G0 w1 w2 → D (dstOf ops jj) v w2)
    (step : ∀ i o, i < ops.size - 1 → ops[i]? = some o → ∀ (ev : Operand → Value) w1, G w w1 → ((i = jj ∨ isBef ops jj i = true) → G0 w w1) → (∀ x, (∀ d ∈ dstsOf ops, x ≠ .tmp d) → ev x = a.eval x) →
      (∀ e ∈ o.after.toList, e.on < ops.size - 1 → Region.binds .any e = true → D (dstOf ops e.on) (ev (.tmp (dstOf ops e.on))) w1) → OpRuns P ev o w1 fun v w2 => (G w1 w2 ∧ (i ≠ jj → G0 w1 w2)) ∧ D (dstOf ops i) v w2)
    (last : ∀ o, ops[ops.size - 1]? = some o → ∀ f w1, G w w1 → (∀ d ∈ dstsOf ops, D d (f d) w1) → o.wp P (puts a f (dstsOf ops)) w1 (fun a' w' => Q .normal a' w') Q ∨ (o.asks P (puts a f (dstsOf ops)) w1 ∧ LetsOut Q)) :
    ∀ (fuel : Nat) (listed : Array Bool) (a' : Act) (w' : World), listed.size = ops.size → todo listed = fuel →
      (listed.getD (ops.size - 1) true = false → MidstA G0 G jj P ops D a w listed a' w') → (listed.getD (ops.size - 1) true = true → todo listed = 0 ∧ Q .normal a' w') → wpAny P .any ops Q fuel listed a' w' := by
  have hB' := hB
  simp only [openForm2, Bool.and_eq_true, decide_eq_true_eq, List.all_eq_true, List.mem_range] at hB'
  obtain ⟨⟨⟨hpos, hall⟩, hlast⟩, hnd⟩ := hB'
  -- each operation's own form
  have form : ∀ i o, ops[i]? = some o → o.guard = none ∧ (∀ e ∈ o.after.toList, e.on < i) ∧ (i = ops.size - 1 ∨ o.dst.isSome = true) := by
    intro i o ho
    have hi : i < ops.size := (Array.getElem?_eq_some_iff.1 ho).1
    have h := hall i hi
    rw [ho] at h
    simp only [Bool.and_eq_true, Bool.or_eq_true, decide_eq_true_eq, Option.isNone_iff_eq_none] at h
    refine ⟨h.1.1, fun e he => ?_, h.2⟩
    have := Array.all_eq_true_iff_forall_mem.1 h.1.2 e (by simpa using he)
    simpa using this
  -- where some are still to come one may come up
  have alive : ∀ listed : Array Bool, listed.size = ops.size → 0 < todo listed → Region.ready .any ops listed ≠ [] := by
    intro listed hs ht he
    obtain ⟨i, hi⟩ : ∃ i, i < ops.size ∧ listed.getD i true = false := by
      unfold todo at ht
      obtain ⟨i, hi, e⟩ := List.mem_iff_getElem.1 (List.count_pos_iff.1 ht)
      have hi' : i < listed.size := by simpa using hi
      exact ⟨i, by omega, by simpa [hi'] using e⟩
    obtain ⟨n, ⟨hn, hf⟩, hmin⟩ : ∃ n, (n < ops.size ∧ listed.getD n true = false) ∧ ∀ m, m < n → listed.getD m true = true := by
      have : ∀ k i, i < k → i < ops.size → listed.getD i true = false → ∃ n, (n < ops.size ∧ listed.getD n true = false) ∧ ∀ m, m < n → listed.getD m true = true := by
        intro k
        induction k with
        | zero => intro i h; omega
        | succ k ih =>
          intro i hik h1 h2
          by_cases hm : ∃ m, m < i ∧ listed.getD m true = false
          · obtain ⟨m, hmi, hmf⟩ := hm
            exact ih m (by omega) (by omega) hmf
          · refine ⟨i, ⟨h1, h2⟩, fun m hmi => ?_⟩
            rcases Bool.eq_false_or_eq_true (listed.getD m true) with h | h
            · exact h
            · exact absurd ⟨m, hmi, h⟩ hm
      exact this (i + 1) i (by omega) hi.1 hi.2
    have hmem : n ∈ Region.ready .any ops listed := by
      refine mem_ready.2 ⟨hf, ops[n], by simp [hn], fun e hee _ => ?_⟩
      have hlt := (form n ops[n] (by simp [hn])).2.1 e (by simpa using hee)
      have := hmin e.on hlt
      have hsz : e.on < listed.size := by omega
      simpa [hsz] using this
    rw [he] at hmem
    cases hmem
  intro fuel
  induction fuel with
  | zero =>
    intro listed a' w' hs ht _ hdone
    have hl : listed.getD (ops.size - 1) true = true := by
      rcases Bool.eq_false_or_eq_true (listed.getD (ops.size - 1) true) with h | h
      · exact h
      · have := todo_set (i := ops.size - 1) (listed := listed) (by omega) h
        omega
    refine ⟨?_, (hdone hl).2⟩
    match hr : Region.ready .any ops listed with
    | [] => rfl
    | i :: _ =>
      exfalso
      have hi : i ∈ Region.ready .any ops listed := by rw [hr]; exact List.mem_cons_self
      obtain ⟨h1, o, ho, _⟩ := mem_ready.1 hi
      have hlt : i < ops.size := (Array.getElem?_eq_some_iff.1 ho).1
      have := todo_set (i := i) (listed := listed) (by omega) h1
      omega
  | succ fuel ih =>
    intro listed a' w' hs ht hmid hdone
    refine ⟨fun he => absurd he (alive listed hs (by omega)), fun i hi => ?_⟩
    obtain ⟨h1, o, ho, hdeps⟩ := mem_ready.1 hi
    have hlt : i < ops.size := (Array.getElem?_eq_some_iff.1 ho).1
    have hset := todo_set (i := i) (listed := listed) (by omega) h1
    obtain ⟨hg, hon, hdst⟩ := form i o ho
    have hl : listed.getD (ops.size - 1) true = false := by
      rcases Bool.eq_false_or_eq_true (listed.getD (ops.size - 1) true) with h | h
      · have := (hdone h).1; omega
      · exact h
    have M := hmid hl
    unfold wpOp
    simp only [ho]
    rw [if_pos (by simp [Region.wanted, hg])]
    by_cases hil : i = ops.size - 1
    · -- the last: all others have come up
      subst hil
      have hallL : ∀ j, j < ops.size - 1 → listed.getD j false = true := by
        intro j hj
        have h := hlast j hj
        rw [ho] at h
        simp only [Bool.or_eq_true, Array.any_eq_true, Bool.and_eq_true, beq_iff_eq] at h
        rcases h with ⟨k, hk, h2, h3⟩ | ⟨k, hk, h3, h4⟩
        · have := hdeps o.after[k] (Array.getElem_mem hk) h3
          rwa [h2] at this
        · have h5 := hdeps o.after[k] (Array.getElem_mem hk) h3
          cases ho2 : ops[o.after[k].on]? with
          | none => rw [ho2] at h4; cases h4
          | some o2 =>
            rw [ho2] at h4
            simp only [Array.any_eq_true, Bool.and_eq_true, beq_iff_eq] at h4
            obtain ⟨k2, hk2, h6, h7⟩ := h4
            have := M.closed _ o2 ho2 h5 o2.after[k2] (by simp) h7
            rwa [h6] at this
      have hput : a' = puts a (fun k => a'.tmps.getD k undef) (dstsOf ops) := by
        have ht : a'.tmps = (puts a (fun k => a'.tmps.getD k undef) (dstsOf ops)).tmps := by
          apply Array.ext_getElem?
          intro k
          rw [puts_get]
          split
          · rename_i h
            have hk : k < a'.tmps.size := by rw [M.size]; exact h.2
            simp [hk]
          · rename_i h
            by_cases hk : k ∈ dstsOf ops
            · exact absurd ⟨hk, hfit k hk⟩ h
            · exact M.same k hk
        have hd : a'.defers = (puts a (fun k => a'.tmps.getD k undef) (dstsOf ops)).defers := by rw [puts_defers, M.defers]
        exact act_eq ht hd
      have h := last o ho (fun k => a'.tmps.getD k undef) w' M.below (fun d hd => by
        obtain ⟨j, hj, rfl⟩ := List.mem_map.1 hd
        exact M.known j (List.mem_range.1 hj) (hallL j (List.mem_range.1 hj)))
      rw [← hput] at h
      have hall0 : todo (listed.setIfInBounds (ops.size - 1) true) = 0 := by
        unfold todo
        rw [List.count_eq_zero]
        intro hmem
        obtain ⟨j, hj, e⟩ := List.mem_iff_getElem.1 hmem
        have hj' : j < listed.size := by simpa using hj
        by_cases hjl : j = ops.size - 1
        · subst hjl
          simp at e
        · have h2 := hallL j (by omega)
          have e2 : listed[j] = false := by
            simpa [Array.getElem_setIfInBounds, Ne.symm hjl] using e
          simp [hj', e2] at h2
      refine h.imp (fun h => Oper.wp_mono (fun a2 w2 hq => ih _ a2 w2 (by simpa using hs) (by omega) (fun h => ?_) (fun _ => ⟨hall0, hq⟩)) h) id
      rw [getD_set_self (by omega)] at h
      cases h
    · -- one of the others
      have hi1 : i < ops.size - 1 := by omega
      obtain ⟨d, hd⟩ : ∃ d, o.dst = some d := Option.isSome_iff_exists.1 (hdst.resolve_left hil)
      have hdi : dstOf ops i = d := by simp [dstOf, ho, hd]
      have hdm : d ∈ dstsOf ops := hdi ▸ dst_mem hi1
      have hr := step i o hi1 ho a'.eval w' M.below (fun e => M.pre (by
        have h2 : listed.getD i false = false := by
          have h2 := h1
          have hsz : i < listed.size := by omega
          simpa [hsz] using h2
        rcases e with e | e
        · rw [← e]; exact h2
        · cases hl2 : listed.getD jj false with
          | false => rfl
          | true =>
            obtain ⟨oj, hoj, e2, he2, hb2, hon2⟩ := isBef_of e
            have := M.closed jj oj hoj hl2 e2 he2 hb2
            rw [hon2, h2] at this
            cases this)) (fun x hx => by
        cases x with
        | tmp t =>
          have hm : t ∉ dstsOf ops := fun hm => hx t hm rfl
          have := M.same t hm
          simp only [Act.eval, Array.getD_eq_getD_getElem?, this]
        | const c => rfl
        | global g => rfl
        | func f => rfl) (fun e he hen hbd => M.known e.on hen (hdeps e (by simpa using he) hbd))
      left
      refine hr.wp fun v w2 ⟨⟨hb2, hb0⟩, hD⟩ => ih _ _ w2 (by simpa using hs) (by omega) (fun _ => ?_) (fun h => ?_)
      · rw [hd]
        refine ⟨by simp [Act.put, M.size], by simp [Act.put, M.defers], fun k hk => ?_, hG.trans M.below hb2, fun hj0 => ?_, fun j hj hjl => ?_, fun j o2 ho2 hjl e he hbd => ?_⟩
        · have hkd : d ≠ k := fun e => hk (e ▸ hdm)
          simp only [Act.put, Array.getElem?_setIfInBounds, if_neg hkd]
          exact M.same k hk
        · by_cases hij : i = jj
          · subst hij
            rw [getD_set_self (by omega) false] at hj0
            cases hj0
          · rw [getD_set_ne false hij] at hj0
            exact hG0.trans (M.pre hj0) (hb0 hij)
        · by_cases hji : j = i
          · subst hji
            rw [hdi] at hD ⊢
            have hds : d < a'.tmps.size := by rw [M.size]; exact hfit d hdm
            simpa [Act.put, hds] using hD
          · have hne : d ≠ dstOf ops j := fun e => hji (dst_inj hnd hj hi1 (by rw [hdi, e]))
            have hold : listed.getD j false = true := by rwa [getD_set_ne false (Ne.symm hji)] at hjl
            have : D (dstOf ops j) (a'.tmps.getD (dstOf ops j) undef) w2 := by
              by_cases hjd : j = jj
              · subst hjd
                exact stableJ _ _ _ (M.known j hj hold) (hb0 (Ne.symm hji))
              · exact stable _ _ _ _ (fun e => hjd (dst_inj hnd hj hjj e)) (M.known j hj hold) hb2
            simpa [Act.put, Array.getElem?_setIfInBounds, hne] using this
        · have mono : ∀ x, listed.getD x false = true → (listed.setIfInBounds i true).getD x false = true := fun x hx => by
            by_cases hxi : x = i
            · subst hxi; exact getD_set_self (by omega) false
            · rw [getD_set_ne false (Ne.symm hxi)]; exact hx
          by_cases hji : j = i
          · subst hji
            obtain rfl : o2 = o := Option.some.inj (ho2.symm.trans ho)
            exact mono _ (hdeps e (by simpa using he) hbd)
          · have hold : listed.getD j false = true := by rwa [getD_set_ne false (Ne.symm hji)] at hjl
            exact mono _ (M.closed j o2 ho2 hold e he hbd)
      · rw [getD_set_ne true hil] at h
        rw [hl] at h
        cases h

/-- What is known of a slot: of dj what outlives new blocks alone. -/
def Dj {G0 G : World → World → Prop} (T : Nat → Held G) (TJ : Held G0) (dj d : Nat) (v : Value) (w : World) : Prop := if d = dj then TJ.p v w else (T d).p v w
def DepsD (dsts : List Nat) (D : Nat → Value → World → Prop) (ev : Operand → Value) (w1 : World) : List Edge → Prop
  | [] => True
  | e :: es => D (dsts.getD e.on 0) (ev (.tmp (dsts.getD e.on 0))) w1 ∧ DepsD dsts D ev w1 es
theorem depsD_of {dsts : List Nat} {D : Nat → Value → World → Prop} {ev : Operand → Value} {w1 : World} : ∀ {es : List Edge}, (∀ e ∈ es, D (dsts.getD e.on 0) (ev (.tmp (dsts.getD e.on 0))) w1) → DepsD dsts D ev w1 es
  | [], _ => trivial
  | _ :: _, h => ⟨h _ List.mem_cons_self, depsD_of fun e he => h e (List.mem_cons_of_mem _ he)⟩
/-- One operation: what it may find done, and what it may do. -/
def StepA (G1 G2 : World → World → Prop) (P : Program) (dsts : List Nat) (D : Nat → Value → World → Prop) (a : Act) (w : World) (o : Oper) (d : Nat) : Prop :=
  ∀ (ev : Operand → Value) w1, G1 w w1 → (∀ x, (∀ d ∈ dsts, x ≠ .tmp d) → ev x = a.eval x) → DepsD dsts D ev w1 o.after.toList → OpRuns P ev o w1 fun v w2 => G2 w1 w2 ∧ D d v w2
def StepsA (G0 G : World → World → Prop) (P : Program) (dsts : List Nat) (D : Nat → Value → World → Prop) (a : Act) (w : World) (jj : Nat) (bef : List Nat) : Nat → List Oper → List Nat → Prop
  | k, o :: os, d :: ds => (if k = jj then StepA G0 G P dsts D a w o d else if k ∈ bef then StepA G0 G0 P dsts D a w o d else StepA G G0 P dsts D a w o d) ∧ StepsA G0 G P dsts D a w jj bef (k + 1) os ds
  | _, _, _ => True
theorem stepsA_at {G0 G : World → World → Prop} {P : Program} {dsts : List Nat} {D : Nat → Value → World → Prop} {a : Act} {w : World} {jj : Nat} {bef : List Nat} : ∀ {os : List Oper} {ds : List Nat} {k : Nat} (_ : StepsA G0 G P dsts D a w jj bef k os ds) (i : Nat) {o : Oper} {d : Nat}, os[i]? = some o → ds[i]? = some d → (if k + i = jj then StepA G0 G P dsts D a w o d else if k + i ∈ bef then StepA G0 G0 P dsts D a w o d else StepA G G0 P dsts D a w o d)
  | [], _, _, _, i, _, _, h, _ => by simp at h
  | _ :: _, [], _, _, i, _, _, _, h => by simp at h
  | _ :: os, _ :: ds, _, h, 0, _, _, ho, hd => by simp at ho hd; subst ho hd; exact h.1
  | _ :: os, _ :: ds, k, h, i + 1, _, _, ho, hd => by
    have := stepsA_at h.2 i (by simpa using ho) (by simpa using hd)
    rwa [show k + 1 + i = k + (i + 1) by omega] at this
/-- A region whose last operation is a store that waits for all, and one of whose others (number jj) does more than to make new blocks. -/
theorem wp_region_app {G0 G : World → World → Prop} (hG0 : Goes G0) (hG : Goes G) (hsub : ∀ a b, G0 a b → G a b) {P : Program} {id : Nat} {ops : Array Oper} {Q : Exit → Act → World → Prop} (dsts : List Nat) (jj dj : Nat) (bef : List Nat) (T : Nat → Held G) (TJ : Held G0) (o : Oper) {a : Act} {w : World} (hm : P.follows .mixedOrders = true)
    (hB : (openForm2 ops && edgesBind ops && decide (dstsOf ops = dsts) && decide (jj < ops.size - 1) && decide (dstOf ops jj = dj) && bef.all (isBef ops jj)) = true)
    (ho : ops[ops.size - 1]? = some o)
    (hfit : (dsts.all fun d => decide (d < a.tmps.size)) = true)
    (steps : StepsA G0 G P dsts (Dj T TJ dj) a w.drew jj bef 0 (ops.toList.take (ops.size - 1)) dsts)
    (last : ∀ f w1, G w.drew w1 → (∀ d ∈ dsts, Dj T TJ dj d (f d) w1) → wpList P ops Q [o] (puts a f dsts) w1) : (Code.region id ops true).wp P Q a w := by
  simp only [Bool.and_eq_true, decide_eq_true_eq] at hB
  obtain ⟨⟨⟨⟨⟨hB, hbind⟩, rfl⟩, hjj⟩, rfl⟩, hbef⟩ := hB
  have hB' := hB
  simp only [openForm2, Bool.and_eq_true, decide_eq_true_eq] at hB'
  have hform := hB'.1.1.2
  rw [List.all_eq_true] at hform
  have hpos := hB'.1.1.1
  refine wp_region_any hm (wpAny_openA hG0 hG hsub (jj := jj) (D := Dj T TJ (dstOf ops jj)) (w := w.drew) hB (fun d hd => by simpa using List.all_eq_true.1 hfit d hd) hjj
    (fun d v w1 w2 hd h hg => by unfold Dj at h ⊢; rw [if_neg hd] at h ⊢; exact (T d).st v w1 w2 h hg)
    (fun v w1 w2 h hg => by unfold Dj at h ⊢; rw [if_pos rfl] at h ⊢; exact TJ.st v w1 w2 h hg)
    ?_ (fun o' ho' f w1 hb hD => ?_) _ _ _ _ (by simp) ?_ (fun _ => ?_) (fun h => ?_))
  · intro i oi hi hoi ev w1 hb hb0 hev hdeps
    have hlt : i < ops.size := by omega
    have h1 := stepsA_at steps i (o := oi) (d := dstOf ops i) (by
      rw [List.getElem?_take, if_pos hi]
      simpa using hoi) (by simp [dstsOf, hi])
    rw [Nat.zero_add] at h1
    have hdp : DepsD (dstsOf ops) (Dj T TJ (dstOf ops jj)) ev w1 oi.after.toList := depsD_of fun e he => by
      have hf := hform i (List.mem_range.2 hlt)
      rw [hoi] at hf
      simp only [Bool.and_eq_true] at hf
      have hon : e.on < i := by simpa using Array.all_eq_true_iff_forall_mem.1 hf.1.2 e (by simpa using he)
      have hbd : Region.binds .any e = true := by
        have h2 := Array.all_eq_true_iff_forall_mem.1 hbind oi (Array.mem_of_getElem? hoi)
        exact Array.all_eq_true_iff_forall_mem.1 h2 e (by simpa using he)
      have hg : (dstsOf ops).getD e.on 0 = dstOf ops e.on := by simp [dstsOf, List.getD, show e.on < ops.size - 1 by omega]
      rw [hg]
      exact hdeps e he (by omega) hbd
    have omono : ∀ {A B : Value → World → Prop}, (∀ v w, A v w → B v w) → OpRuns P ev oi w1 A → OpRuns P ev oi w1 B := fun hAB hr => by
      unfold OpRuns at hr ⊢
      split at hr
      · exact hAB _ _ hr
      · exact hAB _ _ hr
      · exact hr.mono fun e w'' ⟨v, he, hp⟩ => ⟨v, he, hAB _ _ hp⟩
      · exact hr
    by_cases hij : i = jj
    · rw [if_pos hij] at h1
      exact omono (fun v w2 ⟨k1, k2⟩ => ⟨⟨k1, fun hn => absurd hij hn⟩, k2⟩) (h1 ev w1 (hb0 (.inl hij)) hev hdp)
    · rw [if_neg hij] at h1
      by_cases hib : i ∈ bef
      · rw [if_pos hib] at h1
        exact omono (fun v w2 ⟨k1, k2⟩ => ⟨⟨hsub _ _ k1, fun _ => k1⟩, k2⟩) (h1 ev w1 (hb0 (.inr (List.all_eq_true.1 hbef i hib))) hev hdp)
      rw [if_neg hib] at h1
      exact omono (fun v w2 ⟨k1, k2⟩ => ⟨⟨hsub _ _ k1, fun _ => k1⟩, k2⟩) (h1 ev w1 hb hev hdp)
  · obtain rfl : o' = o := Option.some.inj (ho'.symm.trans ho)
    have h := last f w1 hb hD
    have hg := hform (ops.size - 1) (List.mem_range.2 (by omega))
    rw [ho] at hg
    simp only [Bool.and_eq_true, Option.isNone_iff_eq_none] at hg
    unfold wpList at h
    rw [if_pos (by simp [Region.wanted, hg.1.1])] at h
    exact h
  · simp [todo]
  · refine ⟨rfl, rfl, fun _ _ => rfl, hG.refl _, fun _ => hG0.refl _, fun i hi h => ?_, fun j o2 ho2 h => ?_⟩
    · have h0 : (Array.replicate ops.size false).getD i false = false := by simp [show i < ops.size by omega]
      rw [h0] at h; cases h
    · have hj : j < ops.size := (Array.getElem?_eq_some_iff.1 ho2).1
      have h0 : (Array.replicate ops.size false).getD j false = false := by simp [hj]
      rw [h0] at h; cases h
  · have h0 : (Array.replicate ops.size false).getD (ops.size - 1) true = false := by simp [show ops.size - 1 < ops.size by omega]
    rw [h0] at h; cases h
end Go.Proofs.YtcmgppacipdnaaaGreatDoor
