/-
  A statement whose order is open, with operations that are guarded ('&&', '||') and calls that may write: each operation is shown once, from what its own operands are known to be; what is known of a slot must outlive whatever the region does (a relation G of worlds). Not of any one program.
  A statement whose order is open, whose last operation stores what the others have made: each operation is shown once; what is known of a slot outlives whatever the region may do (a relation G of worlds). Not of any one program.
  slices.Delete at pairs, from the first one on.
  Package epoch: At, Last, CutEnd, CutStart.
  Package epoch: Begin.
  Package epoch: Begin, where a pair comes.
  The statements' own equality of pairs, where they are the same.
  Lineages side by side, and rows of pairs beside them.
-/
import Derived.Test.YtplpakdbahlgaaaDoorE1
import Derived.Test.YtplpakdbahlgaaaDoorE3
import Derived.Lib.SliceRun
import Derived.Deep.MidRow
import Derived.Deep.RegionLaw
import Derived.Laws.ResultCell
namespace Go.Proofs.YtplpakdbahlgaaaDoor
open Go Go.RowKit

/-- A relation of worlds that goes on. -/
structure Goes (G : World → World → Prop) : Prop where
  refl : ∀ w, G w w
  trans : ∀ {a b c}, G a b → G b c → G a c
theorem goes_below (C : Nat) : Goes (fun w w' => Below C w w' ∧ C ≤ w.heap.size ∧ C ≤ w'.heap.size ∨ w = w') :=
  ⟨fun _ => .inr rfl, fun {a b c} h k => by
    rcases h with ⟨h, h1, h2⟩ | rfl
    · rcases k with ⟨k, k1, k2⟩ | rfl
      · exact .inl ⟨h.trans k, h1, k2⟩
      · exact .inl ⟨h, h1, h2⟩
    · exact k⟩
/-- What is known of a slot: it outlives what G lets happen. -/
structure Held (G : World → World → Prop) where
  p : Value → World → Prop
  st : ∀ v w1 w2, p v w1 → G w1 w2 → p v w2
def Held.is {G : World → World → Prop} (x : Value) : Held G := ⟨fun v _ => v = x, fun _ _ _ h _ => h⟩
def Held.any {G : World → World → Prop} : Held G := ⟨fun _ _ => True, fun _ _ _ _ _ => trivial⟩

/-- The form: each operation leaves a value in a slot of its own, and waits for earlier ones alone; for its guard, too. -/
def guardAll (ops : Array Oper) : Bool :=
  (List.range ops.size).all (fun i => match ops[i]? with
    | some o => (match o.guard with | none => true | some (j, _) => decide (j < i) && o.after.any (fun e => e.on == j && Region.binds .any e)) && o.after.all (fun e => decide (e.on < i)) && o.dst.isSome
    | none => false) &&
  decide (dstsAll ops).Nodup

structure MidstG (G : World → World → Prop) (ops : Array Oper) (D : Nat → Value → World → Prop) (a : Act) (w : World) (listed : Array Bool) (a' : Act) (w' : World) : Prop where
  size : a'.tmps.size = a.tmps.size
  defers : a'.defers = a.defers
  same : ∀ k, k ∉ dstsAll ops → a'.tmps[k]? = a.tmps[k]?
  goes : G w w'
  known : ∀ i, i < ops.size → listed.getD i false = true → D (dstOf ops i) (a'.tmps.getD (dstOf ops i) undef) w'

def OpGuard (P : Program) (ev : Operand → Value) (o : Oper) (dj : Nat → Nat) (w1 : World) (Post : Value → World → Prop) : Prop :=
  match o.guard with
  | none => OpRuns P ev o w1 Post
  | some (j, b) => ∃ c, ev (.tmp (dj j)) = .bool c ∧ (c = b → OpRuns P ev o w1 Post) ∧ (c ≠ b → Post undef w1)

theorem wpAny_guard {P : Program} {ops : Array Oper} {Q : Exit → Act → World → Prop} {D : Nat → Value → World → Prop} {G : World → World → Prop} (hG : Goes G) {a : Act} {w : World} (hB : guardAll ops = true)
    (hfit : ∀ d ∈ dstsAll ops, d < a.tmps.size)
    (stable : ∀ d v w1 w2, D d v w1 → G w1 w2 → D d v w2)
    (step : ∀ i o, ops[i]? = some o → ∀ (ev : Operand → Value) w1, G w w1 → (∀ x, (∀ d ∈ dstsAll ops, x ≠ .tmp d) → ev x = a.eval x) →
      (∀ e ∈ o.after.toList, Region.binds .any e = true → D (dstOf ops e.on) (ev (.tmp (dstOf ops e.on))) w1) → OpGuard P ev o (dstOf ops) w1 fun v w2 => G w1 w2 ∧ D (dstOf ops i) v w2)
    (last : ∀ f w1, G w w1 → (∀ d ∈ dstsAll ops, D d (f d) w1) → Q .normal (puts a f (dstsAll ops)) w1) :
    ∀ (fuel : Nat) (listed : Array Bool) (a' : Act) (w' : World), listed.size = ops.size → todo listed = fuel → MidstG G ops D a w listed a' w' → wpAny P .any ops Q fuel listed a' w' := by
  have hB' := hB
  simp only [guardAll, Bool.and_eq_true, decide_eq_true_eq, List.all_eq_true, List.mem_range] at hB'
  obtain ⟨hall, hnd⟩ := hB'
  have form : ∀ (i : Nat) (o : Oper), ops[i]? = some o → (∀ j b, o.guard = some (j, b) → j < i ∧ ∃ e ∈ o.after.toList, e.on = j ∧ Region.binds .any e = true) ∧ (∀ e ∈ o.after.toList, e.on < i) ∧ o.dst.isSome = true := by
    intro i o ho
    have hi : i < ops.size := (Array.getElem?_eq_some_iff.1 ho).1
    have h := hall i hi
    rw [ho] at h
    simp only [Bool.and_eq_true] at h
    refine ⟨fun j b hg => ?_, fun e he => ?_, h.2⟩
    · have h1 := h.1.1
      rw [hg] at h1
      simp only [Bool.and_eq_true, decide_eq_true_eq, Array.any_eq_true, beq_iff_eq] at h1
      obtain ⟨h2, k, hk, h3, h4⟩ := h1
      exact ⟨h2, o.after[k], by simp, h3, h4⟩
    · have := Array.all_eq_true_iff_forall_mem.1 h.1.2 e (by simpa using he)
      simpa using this
  have alive : ∀ listed : Array Bool, listed.size = ops.size → 0 < todo listed → Region.ready .any ops listed ≠ [] := by
    intro listed hs ht he
    obtain ⟨i, hi⟩ : ∃ i, i < ops.size ∧ listed.getD i true = false := by
      unfold todo at ht
      obtain ⟨i, hi, e⟩ := List.mem_iff_getElem.1 (List.count_pos_iff.1 ht)
      have hi' : i < listed.size := by simpa using hi
      exact ⟨i, by omega, by simpa [hi'] using e⟩
    obtain ⟨n, ⟨hn, hf⟩, hmin⟩ : ∃ n, (n < ops.size ∧ listed.getD n true = false) ∧ ∀ m, m < n → listed.getD m true = true := by
      have : ∀ k i, i < k → i < ops.size → listed.getD i true = false → ∃ n, (n < ops.size ∧ listed.getD n true = false) ∧ ∀ m, m < n → listed.getD m true = true := by
        intro k
        induction k with
        | zero => intro i h; omega
        | succ k ih =>
          intro i hik h1 h2
          by_cases hm : ∃ m, m < i ∧ listed.getD m true = false
          · obtain ⟨m, hmi, hmf⟩ := hm
            exact ih m (by omega) (by omega) hmf
          · refine ⟨i, ⟨h1, h2⟩, fun m hmi => ?_⟩
            rcases Bool.eq_false_or_eq_true (listed.getD m true) with h | h
            · exact h
            · exact absurd ⟨m, hmi, h⟩ hm
      exact this (i + 1) i (by omega) hi.1 hi.2
    have hmem : n ∈ Region.ready .any ops listed := by
      refine mem_ready.2 ⟨hf, ops[n], by simp [hn], fun e hee _ => ?_⟩
      have hlt := (form n ops[n] (by simp [hn])).2.1 e (by simpa using hee)
      have := hmin e.on hlt
      have hsz : e.on < listed.size := by omega
      simpa [hsz] using this
    rw [he] at hmem
    cases hmem
  intro fuel
  induction fuel with
  | zero =>
    intro listed a' w' hs ht M
    have hdone : ∀ i, i < ops.size → listed.getD i true = true := by
      intro i hi
      rcases Bool.eq_false_or_eq_true (listed.getD i true) with h | h
      · exact h
      · have := todo_set (i := i) (listed := listed) (by omega) h
        omega
    refine ⟨?_, ?_⟩
    · match hr : Region.ready .any ops listed with
      | [] => rfl
      | i :: _ =>
        exfalso
        have hi : i ∈ Region.ready .any ops listed := by rw [hr]; exact List.mem_cons_self
        obtain ⟨h1, o, ho, _⟩ := mem_ready.1 hi
        have hlt : i < ops.size := (Array.getElem?_eq_some_iff.1 ho).1
        rw [hdone i hlt] at h1
        cases h1
    · have hput : a' = puts a (fun k => a'.tmps.getD k undef) (dstsAll ops) := by
        refine act_eq ?_ (by rw [puts_defers, M.defers])
        apply Array.ext_getElem?
        intro k
        rw [puts_get]
        split
        · rename_i h
          have hk : k < a'.tmps.size := by rw [M.size]; exact h.2
          simp [hk]
        · rename_i h
          by_cases hk : k ∈ dstsAll ops
          · exact absurd ⟨hk, hfit k hk⟩ h
          · exact M.same k hk
      have h := last (fun k => a'.tmps.getD k undef) w' M.goes (fun d hd => by
        obtain ⟨j, hj, rfl⟩ := List.mem_map.1 hd
        have hj' := List.mem_range.1 hj
        refine M.known j hj' ?_
        have := hdone j hj'
        have hsz : j < listed.size := by omega
        simpa [hsz] using this)
      rwa [← hput] at h
  | succ fuel ih =>
    intro listed a' w' hs ht M
    refine ⟨fun he => absurd he (alive listed hs (by omega)), fun i hi => ?_⟩
    obtain ⟨h1, o, ho, hdeps⟩ := mem_ready.1 hi
    have hlt : i < ops.size := (Array.getElem?_eq_some_iff.1 ho).1
    have hset := todo_set (i := i) (listed := listed) (by omega) h1
    obtain ⟨hg, hon, hdst⟩ := form i o ho
    obtain ⟨d, hd⟩ : ∃ d, o.dst = some d := Option.isSome_iff_exists.1 hdst
    have hdi : dstOf ops i = d := by simp [dstOf, ho, hd]
    have hdm : d ∈ dstsAll ops := hdi ▸ dstAll_mem hlt
    have hr := step i o ho a'.eval w' M.goes (fun x hx => by
      cases x with
      | tmp t =>
        have hm : t ∉ dstsAll ops := fun hm => hx t hm rfl
        have := M.same t hm
        simp only [Act.eval, Array.getD_eq_getD_getElem?, this]
      | const c => rfl
      | global g => rfl
      | func f => rfl) (fun e he hbd => M.known e.on (by have := hon e he; omega) (hdeps e (by simpa using he) hbd))
    have fin : ∀ v w2, G w' w2 → D (dstOf ops i) v w2 → wpAny P .any ops Q fuel (listed.setIfInBounds i true) (a'.put o.dst v) w2 := fun v w2 hb2 hD => by
      refine ih _ _ w2 (by simpa using hs) (by omega) ?_
      rw [hd]
      refine ⟨by simp [Act.put, M.size], by simp [Act.put, M.defers], fun k hk => ?_, hG.trans M.goes hb2, fun j hj hjl => ?_⟩
      · have hkd : d ≠ k := fun e => hk (e ▸ hdm)
        simp only [Act.put, Array.getElem?_setIfInBounds, if_neg hkd]
        exact M.same k hk
      · by_cases hji : j = i
        · subst hji
          rw [hdi] at hD ⊢
          have hds : d < a'.tmps.size := by rw [M.size]; exact hfit d hdm
          simpa [Act.put, hds] using hD
        · have hne : d ≠ dstOf ops j := fun e => hji (dstAll_inj hnd hj hlt (by rw [hdi, e]))
          have hold : listed.getD j false = true := by rwa [getD_set_ne false (Ne.symm hji)] at hjl
          have := stable _ _ _ _ (M.known j hj hold) hb2
          simpa [Act.put, Array.getElem?_setIfInBounds, hne] using this
    unfold wpOp
    simp only [ho]
    unfold OpGuard at hr
    cases hgd : o.guard with
    | none =>
      rw [hgd] at hr
      rw [if_pos (by simp [Region.wanted, hgd])]
      exact .inl (hr.wp fun v w2 ⟨hb2, hD⟩ => fin v w2 hb2 hD)
    | some jb =>
      obtain ⟨j, b⟩ := jb
      rw [hgd] at hr
      obtain ⟨c, hc, hy, hn⟩ := hr
      have hj : j < ops.size := by have := (hg j b hgd).1; omega
      have hyd : yielded ops a'.tmps j = some c := by
        have hoj : ops[j]? = some ops[j] := by simp [hj]
        obtain ⟨dj, hdj⟩ : ∃ dj, ops[j].dst = some dj := Option.isSome_iff_exists.1 (form j _ hoj).2.2
        have e1 : dstOf ops j = dj := by simp [dstOf, hoj, hdj]
        rw [e1] at hc
        have hcell : a'.tmps[dj]? = some (.bool c) := by
          simp only [Act.eval, Array.getD_eq_getD_getElem?] at hc
          cases ht : a'.tmps[dj]? with
          | none => rw [ht] at hc; simp [undef] at hc
          | some v => rw [ht] at hc; simp at hc; rw [hc]
        unfold yielded
        rw [hoj]
        simp [hdj, hcell]
      by_cases hcb : c = b
      · rw [if_pos (by simp [Region.wanted, hgd, hyd, hcb])]
        exact .inl ((hy hcb).wp fun v w2 ⟨hb2, hD⟩ => fin v w2 hb2 hD)
      · rw [if_neg (by simp [Region.wanted, hgd, hyd, hcb])]
        exact fin undef w' (hn hcb).1 (hn hcb).2

def DepsG {G : World → World → Prop} (dsts : List Nat) (T : Nat → Held G) (ev : Operand → Value) (w1 : World) : List Edge → Prop
  | [] => True
  | e :: es => (T (dsts.getD e.on 0)).p (ev (.tmp (dsts.getD e.on 0))) w1 ∧ DepsG dsts T ev w1 es
def StepG {G : World → World → Prop} (P : Program) (dsts : List Nat) (T : Nat → Held G) (a : Act) (w : World) (o : Oper) (d : Nat) : Prop :=
  ∀ (ev : Operand → Value) w1, G w w1 → (∀ x, (∀ d ∈ dsts, x ≠ .tmp d) → ev x = a.eval x) → DepsG dsts T ev w1 o.after.toList → OpGuard P ev o (fun j => dsts.getD j 0) w1 fun v w2 => G w1 w2 ∧ (T d).p v w2
def StepsG {G : World → World → Prop} (P : Program) (dsts : List Nat) (T : Nat → Held G) (a : Act) (w : World) : List Oper → List Nat → Prop
  | o :: os, d :: ds => StepG P dsts T a w o d ∧ StepsG P dsts T a w os ds
  | _, _ => True
theorem depsG_of {G : World → World → Prop} {dsts : List Nat} {T : Nat → Held G} {ev : Operand → Value} {w1 : World} : ∀ {es : List Edge}, (∀ e ∈ es, (T (dsts.getD e.on 0)).p (ev (.tmp (dsts.getD e.on 0))) w1) → DepsG dsts T ev w1 es
  | [], _ => trivial
  | _ :: _, h => ⟨h _ List.mem_cons_self, depsG_of fun e he => h e (List.mem_cons_of_mem _ he)⟩
theorem stepsG_at {G : World → World → Prop} {P : Program} {dsts : List Nat} {T : Nat → Held G} {a : Act} {w : World} : ∀ {os : List Oper} {ds : List Nat} (_ : StepsG P dsts T a w os ds) (i : Nat) {o : Oper} {d : Nat}, os[i]? = some o → ds[i]? = some d → StepG P dsts T a w o d
  | [], _, _, i, _, _, h, _ => by simp at h
  | _ :: _, [], _, i, _, _, _, h => by simp at h
  | _ :: os, _ :: ds, h, 0, _, _, ho, hd => by simp at ho hd; subst ho hd; exact h.1
  | _ :: os, _ :: ds, h, i + 1, _, _, ho, hd => stepsG_at h.2 i (by simpa using ho) (by simpa using hd)

/-- THE LAW. -/
theorem wp_region_guard {P : Program} {id : Nat} {ops : Array Oper} {Q : Exit → Act → World → Prop} {G : World → World → Prop} (hG : Goes G) (dsts : List Nat) (T : Nat → Held G) {a : Act} {w : World} (hm : P.follows .mixedOrders = true)
    (hB : (guardAll ops && edgesBind ops && decide (dstsAll ops = dsts)) = true)
    (hfit : (dsts.all fun d => decide (d < a.tmps.size)) = true)
    (steps : StepsG P dsts T a w.drew ops.toList dsts)
    (last : ∀ f w1, G w.drew w1 → (∀ d ∈ dsts, (T d).p (f d) w1) → Q .normal (puts a f dsts) w1) : (Code.region id ops true).wp P Q a w := by
  simp only [Bool.and_eq_true, decide_eq_true_eq] at hB
  obtain ⟨⟨hB, hbind⟩, rfl⟩ := hB
  have hB' := hB
  simp only [guardAll, Bool.and_eq_true] at hB'
  have hform := hB'.1
  rw [List.all_eq_true] at hform
  refine wp_region_any hm (wpAny_guard (D := fun d v w => (T d).p v w) hG (w := w.drew) hB (fun d hd => by simpa using List.all_eq_true.1 hfit d hd) (fun d v w1 w2 h hb => (T d).st v w1 w2 h hb)
    (fun i o ho ev w1 hb hev hdeps => ?_) (fun f w1 hb h => last f w1 hb h) _ _ _ _ (by simp) (by simp [todo]) ⟨rfl, rfl, fun _ _ => rfl, hG.refl _, fun i hi h => ?_⟩)
  · have hlt : i < ops.size := (Array.getElem?_eq_some_iff.1 ho).1
    have h1 := stepsG_at steps i (o := o) (d := dstOf ops i) (by simpa using ho) (by simp [dstsAll, hlt])
    have hf := hform i (List.mem_range.2 hlt)
    rw [ho] at hf
    simp only [Bool.and_eq_true] at hf
    have hget : ∀ j, j < ops.size → (dstsAll ops).getD j 0 = dstOf ops j := fun j hj => by simp [dstsAll, List.getD, hj]
    have h2 := h1 ev w1 hb hev (depsG_of fun e he => ?_)
    · unfold OpGuard at h2 ⊢
      cases hgd : o.guard with
      | none => rw [hgd] at h2; exact h2
      | some jb =>
        obtain ⟨j, b⟩ := jb
        rw [hgd] at h2
        have hj : j < i := by
          have h3 := hf.1.1
          rw [hgd] at h3
          simp only [Bool.and_eq_true, decide_eq_true_eq] at h3
          exact h3.1
        simp only [hget j (by omega)] at h2
        exact h2
    · have hon : e.on < i := by simpa using Array.all_eq_true_iff_forall_mem.1 hf.1.2 e (by simpa using he)
      have hbd : Region.binds .any e = true := by
        have h2 := Array.all_eq_true_iff_forall_mem.1 hbind o (Array.mem_of_getElem? ho)
        exact Array.all_eq_true_iff_forall_mem.1 h2 e (by simpa using he)
      rw [hget e.on (by omega)]
      exact hdeps e he hbd
  · have h0 : (Array.replicate ops.size false).getD i false = false := by simp [show i < ops.size by omega]
    rw [h0] at h; cases h
end Go.Proofs.YtplpakdbahlgaaaDoor

namespace Go.Proofs.YtplpakdbahlgaaaDoor
open Go Go.RowKit

/-- As openForm, but an operation may be waited for by one that is waited for. -/
def openForm2 (ops : Array Oper) : Bool :=
  decide (0 < ops.size) &&
  (List.range ops.size).all (fun i => match ops[i]? with
    | some o => o.guard.isNone && o.after.all (fun e => decide (e.on < i)) && (decide (i = ops.size - 1) || o.dst.isSome)
    | none => false) &&
  (List.range (ops.size - 1)).all (fun i => match ops[ops.size - 1]? with
    | some o => o.after.any (fun e => e.on == i && Region.binds .any e) || o.after.any (fun e => Region.binds .any e && (match ops[e.on]? with
      | some o2 => o2.after.any (fun e2 => e2.on == i && Region.binds .any e2)
      | none => false))
    | none => false) &&
  decide (dstsOf ops).Nodup

structure MidstS (G : World → World → Prop) (P : Program) (ops : Array Oper) (D : Nat → Value → World → Prop) (a : Act) (w : World) (listed : Array Bool) (a' : Act) (w' : World) : Prop where
  size : a'.tmps.size = a.tmps.size
  defers : a'.defers = a.defers
  same : ∀ k, k ∉ dstsOf ops → a'.tmps[k]? = a.tmps[k]?
  below : G w w'
  known : ∀ i, i < ops.size - 1 → listed.getD i false = true → D (dstOf ops i) (a'.tmps.getD (dstOf ops i) undef) w'
  closed : ∀ (j : Nat) (o : Oper), ops[j]? = some o → listed.getD j false = true → ∀ e ∈ o.after.toList, Region.binds .any e = true → listed.getD e.on false = true

theorem wpAny_openS {G : World → World → Prop} (hG : Goes G) {P : Program} {ops : Array Oper} {Q : Exit → Act → World → Prop} {D : Nat → Value → World → Prop} {a : Act} {w : World} (hB : openForm2 ops = true)
    (hfit : ∀ d ∈ dstsOf ops, d < a.tmps.size)
    (stable : ∀ d v w1 w2, D d v w1 → G w1 w2 → D d v w2)
    (step : ∀ i o, i < ops.size - 1 → ops[i]? = some o → ∀ (ev : Operand → Value) w1, G w w1 → (∀ x, (∀ d ∈ dstsOf ops, x ≠ .tmp d) → ev x = a.eval x) →
      (∀ e ∈ o.after.toList, e.on < ops.size - 1 → Region.binds .any e = true → D (dstOf ops e.on) (ev (.tmp (dstOf ops e.on))) w1) → OpRuns P ev o w1 fun v w2 => G w1 w2 ∧ D (dstOf ops i) v w2)
    (last : ∀ o, ops[ops.size - 1]? = some o → ∀ f w1, G w w1 → (∀ d ∈ dstsOf ops, D d (f d) w1) → o.wp P (puts a f (dstsOf ops)) w1 (fun a' w' => Q .normal a' w') Q ∨ (o.asks P (puts a f (dstsOf ops)) w1 ∧ LetsOut Q)) :
    ∀ (fuel : Nat) (listed : Array Bool) (a' : Act) (w' : World), listed.size = ops.size → todo listed = fuel →
      (listed.getD (ops.size - 1) true = false → MidstS G P ops D a w listed a' w') → (listed.getD (ops.size - 1) true = true → todo listed = 0 ∧ Q .normal a' w') → wpAny P .any ops Q fuel listed a' w' := by
  have hB' := hB
  simp only [openForm2, Bool.and_eq_true, decide_eq_true_eq, List.all_eq_true, List.mem_range] at hB'
  obtain ⟨⟨⟨hpos, hall⟩, hlast⟩, hnd⟩ := hB'
  -- each operation's own form
  have form : ∀ i o, ops[i]? = some o → o.guard = none ∧ (∀ e ∈ o.after.toList, e.on < i) ∧ (i = ops.size - 1 ∨ o.dst.isSome = true) := by
    intro i o ho
    have hi : i < ops.size := (Array.getElem?_eq_some_iff.1 ho).1
    have h := hall i hi
    rw [ho] at h
    simp only [Bool.and_eq_true, Bool.or_eq_true, decide_eq_true_eq, Option.isNone_iff_eq_none] at h
    refine ⟨h.1.1, fun e he => ?_, h.2⟩
    have := Array.all_eq_true_iff_forall_mem.1 h.1.2 e (by simpa using he)
    simpa using this
  -- where some are still to come one may come up
  have alive : ∀ listed : Array Bool, listed.size = ops.size → 0 < todo listed → Region.ready .any ops listed ≠ [] := by
    intro listed hs ht he
    obtain ⟨i, hi⟩ : ∃ i, i < ops.size ∧ listed.getD i true = false := by
      unfold todo at ht
      obtain ⟨i, hi, e⟩ := List.mem_iff_getElem.1 (List.count_pos_iff.1 ht)
      have hi' : i < listed.size := by simpa using hi
      exact ⟨i, by omega, by simpa [hi'] using e⟩
    obtain ⟨n, ⟨hn, hf⟩, hmin⟩ : ∃ n, (n < ops.size ∧ listed.getD n true = false) ∧ ∀ m, m < n → listed.getD m true = true := by
      have : ∀ k i, i < k → i < ops.size → listed.getD i true = false → ∃ n, (n < ops.size ∧ listed.getD n true = false) ∧ ∀ m, m < n → listed.getD m true = true := by
        intro k
        induction k with
        | zero => intro i h; omega
        | succ k ih =>
          intro i hik h1 h2
          by_cases hm : ∃ m, m < i ∧ listed.getD m true = false
          · obtain ⟨m, hmi, hmf⟩ := hm
            exact ih m (by omega) (by omega) hmf
          · refine ⟨i, ⟨h1, h2⟩, fun m hmi => ?_⟩
            rcases Bool.eq_false_or_eq_true (listed.getD m true) with h | h
            · exact h
            · exact absurd ⟨m, hmi, h⟩ hm
      exact this (i + 1) i (by omega) hi.1 hi.2
    have hmem : n ∈ Region.ready .any ops listed := by
      refine mem_ready.2 ⟨hf, ops[n], by simp [hn], fun e hee _ => ?_⟩
      have hlt := (form n ops[n] (by simp [hn])).2.1 e (by simpa using hee)
      have := hmin e.on hlt
      have hsz : e.on < listed.size := by omega
      simpa [hsz] using this
    rw [he] at hmem
    cases hmem
  intro fuel
  induction fuel with
  | zero =>
    intro listed a' w' hs ht _ hdone
    have hl : listed.getD (ops.size - 1) true = true := by
      rcases Bool.eq_false_or_eq_true (listed.getD (ops.size - 1) true) with h | h
      · exact h
      · have := todo_set (i := ops.size - 1) (listed := listed) (by omega) h
        omega
    refine ⟨?_, (hdone hl).2⟩
    match hr : Region.ready .any ops listed with
    | [] => rfl
    | i :: _ =>
      exfalso
      have hi : i ∈ Region.ready .any ops listed := by rw [hr]; exact List.mem_cons_self
      obtain ⟨h1, o, ho, _⟩ := mem_ready.1 hi
      have hlt : i < ops.size := (Array.getElem?_eq_some_iff.1 ho).1
      have := todo_set (i := i) (listed := listed) (by omega) h1
      omega
  | succ fuel ih =>
    intro listed a' w' hs ht hmid hdone
    refine ⟨fun he => absurd he (alive listed hs (by omega)), fun i hi => ?_⟩
    obtain ⟨h1, o, ho, hdeps⟩ := mem_ready.1 hi
    have hlt : i < ops.size := (Array.getElem?_eq_some_iff.1 ho).1
    have hset := todo_set (i := i) (listed := listed) (by omega) h1
    obtain ⟨hg, hon, hdst⟩ := form i o ho
    have hl : listed.getD (ops.size - 1) true = false := by
      rcases Bool.eq_false_or_eq_true (listed.getD (ops.size - 1) true) with h | h
      · have := (hdone h).1; omega
      · exact h
    have M := hmid hl
    unfold wpOp
    simp only [ho]
    rw [if_pos (by simp [Region.wanted, hg])]
    by_cases hil : i = ops.size - 1
    · -- the last: all others have come up
      subst hil
      have hallL : ∀ j, j < ops.size - 1 → listed.getD j false = true := by
        intro j hj
        have h := hlast j hj
        rw [ho] at h
        simp only [Bool.or_eq_true, Array.any_eq_true, Bool.and_eq_true, beq_iff_eq] at h
        rcases h with ⟨k, hk, h2, h3⟩ | ⟨k, hk, h3, h4⟩
        · have := hdeps o.after[k] (Array.getElem_mem hk) h3
          rwa [h2] at this
        · have h5 := hdeps o.after[k] (Array.getElem_mem hk) h3
          cases ho2 : ops[o.after[k].on]? with
          | none => rw [ho2] at h4; cases h4
          | some o2 =>
            rw [ho2] at h4
            simp only [Array.any_eq_true, Bool.and_eq_true, beq_iff_eq] at h4
            obtain ⟨k2, hk2, h6, h7⟩ := h4
            have := M.closed _ o2 ho2 h5 o2.after[k2] (by simp) h7
            rwa [h6] at this
      have hput : a' = puts a (fun k => a'.tmps.getD k undef) (dstsOf ops) := by
        have ht : a'.tmps = (puts a (fun k => a'.tmps.getD k undef) (dstsOf ops)).tmps := by
          apply Array.ext_getElem?
          intro k
          rw [puts_get]
          split
          · rename_i h
            have hk : k < a'.tmps.size := by rw [M.size]; exact h.2
            simp [hk]
          · rename_i h
            by_cases hk : k ∈ dstsOf ops
            · exact absurd ⟨hk, hfit k hk⟩ h
            · exact M.same k hk
        have hd : a'.defers = (puts a (fun k => a'.tmps.getD k undef) (dstsOf ops)).defers := by rw [puts_defers, M.defers]
        exact act_eq ht hd
      have h := last o ho (fun k => a'.tmps.getD k undef) w' M.below (fun d hd => by
        obtain ⟨j, hj, rfl⟩ := List.mem_map.1 hd
        exact M.known j (List.mem_range.1 hj) (hallL j (List.mem_range.1 hj)))
      rw [← hput] at h
      have hall0 : todo (listed.setIfInBounds (ops.size - 1) true) = 0 := by
        unfold todo
        rw [List.count_eq_zero]
        intro hmem
        obtain ⟨j, hj, e⟩ := List.mem_iff_getElem.1 hmem
        have hj' : j < listed.size := by simpa using hj
        by_cases hjl : j = ops.size - 1
        · subst hjl
          simp at e
        · have h2 := hallL j (by omega)
          have e2 : listed[j] = false := by
            simpa [Array.getElem_setIfInBounds, Ne.symm hjl] using e
          simp [hj', e2] at h2
      refine h.imp (fun h => Oper.wp_mono (fun a2 w2 hq => ih _ a2 w2 (by simpa using hs) (by omega) (fun h => ?_) (fun _ => ⟨hall0, hq⟩)) h) id
      rw [getD_set_self (by omega)] at h
      cases h
    · -- one of the others
      have hi1 : i < ops.size - 1 := by omega
      obtain ⟨d, hd⟩ : ∃ d, o.dst = some d := Option.isSome_iff_exists.1 (hdst.resolve_left hil)
      have hdi : dstOf ops i = d := by simp [dstOf, ho, hd]
      have hdm : d ∈ dstsOf ops := hdi ▸ dst_mem hi1
      have hr := step i o hi1 ho a'.eval w' M.below (fun x hx => by
        cases x with
        | tmp t =>
          have hm : t ∉ dstsOf ops := fun hm => hx t hm rfl
          have := M.same t hm
          simp only [Act.eval, Array.getD_eq_getD_getElem?, this]
        | const c => rfl
        | global g => rfl
        | func f => rfl) (fun e he hen hbd => M.known e.on hen (hdeps e (by simpa using he) hbd))
      left
      refine hr.wp fun v w2 ⟨hb2, hD⟩ => ih _ _ w2 (by simpa using hs) (by omega) (fun _ => ?_) (fun h => ?_)
      · rw [hd]
        refine ⟨by simp [Act.put, M.size], by simp [Act.put, M.defers], fun k hk => ?_, hG.trans M.below hb2, fun j hj hjl => ?_, fun j o2 ho2 hjl e he hbd => ?_⟩
        · have hkd : d ≠ k := fun e => hk (e ▸ hdm)
          simp only [Act.put, Array.getElem?_setIfInBounds, if_neg hkd]
          exact M.same k hk
        · by_cases hji : j = i
          · subst hji
            rw [hdi] at hD ⊢
            have hds : d < a'.tmps.size := by rw [M.size]; exact hfit d hdm
            simpa [Act.put, hds] using hD
          · have hne : d ≠ dstOf ops j := fun e => hji (dst_inj hnd hj hi1 (by rw [hdi, e]))
            have hold : listed.getD j false = true := by rwa [getD_set_ne false (Ne.symm hji)] at hjl
            have := stable _ _ _ _ (M.known j hj hold) hb2
            simpa [Act.put, Array.getElem?_setIfInBounds, hne] using this
        · have mono : ∀ x, listed.getD x false = true → (listed.setIfInBounds i true).getD x false = true := fun x hx => by
            by_cases hxi : x = i
            · subst hxi; exact getD_set_self (by omega) false
            · rw [getD_set_ne false (Ne.symm hxi)]; exact hx
          by_cases hji : j = i
          · subst hji
            obtain rfl : o2 = o := Option.some.inj (ho2.symm.trans ho)
            exact mono _ (hdeps e (by simpa using he) hbd)
          · have hold : listed.getD j false = true := by rwa [getD_set_ne false (Ne.symm hji)] at hjl
            exact mono _ (M.closed j o2 ho2 hold e he hbd)
      · rw [getD_set_ne true hil] at h
        rw [hl] at h
        cases h

/-- THE LAW. -/
theorem wp_region_openS {G : World → World → Prop} (hG : Goes G) {P : Program} {id : Nat} {ops : Array Oper} {Q : Exit → Act → World → Prop} (D : Nat → Value → World → Prop) {a : Act} {w : World} (hm : P.follows .mixedOrders = true) (hB : openForm2 ops = true)
    (hfit : ((dstsOf ops).all fun d => decide (d < a.tmps.size)) = true)
    (stable : ∀ d v w1 w2, D d v w1 → G w1 w2 → D d v w2)
    (step : ∀ i o, i < ops.size - 1 → ops[i]? = some o → ∀ (ev : Operand → Value) w1, G w.drew w1 → (∀ x, (∀ d ∈ dstsOf ops, x ≠ .tmp d) → ev x = a.eval x) →
      (∀ e ∈ o.after.toList, e.on < ops.size - 1 → Region.binds .any e = true → D (dstOf ops e.on) (ev (.tmp (dstOf ops e.on))) w1) → OpRuns P ev o w1 fun v w2 => G w1 w2 ∧ D (dstOf ops i) v w2)
    (last : ∀ o, ops[ops.size - 1]? = some o → ∀ f w1, G w.drew w1 → (∀ d ∈ dstsOf ops, D d (f d) w1) → wpList P ops Q [o] (puts a f (dstsOf ops)) w1) : (Code.region id ops true).wp P Q a w := by
  have hB' := hB
  simp only [openForm2, Bool.and_eq_true, decide_eq_true_eq] at hB'
  have hpos := hB'.1.1.1
  refine wp_region_any hm (wpAny_openS hG (D := D) (w := w.drew) hB (fun d hd => by simpa using List.all_eq_true.1 hfit d hd) stable
    step (fun o ho f w1 hb hD => ?_) _ _ _ _ (by simp) ?_ (fun _ => ?_) (fun h => ?_))
  · have h := last o ho f w1 hb hD
    have hall := hB'.1.1.2
    rw [List.all_eq_true] at hall
    have hg := hall (ops.size - 1) (List.mem_range.2 (by omega))
    rw [ho] at hg
    simp only [Bool.and_eq_true, Option.isNone_iff_eq_none] at hg
    unfold wpList at h
    rw [if_pos (by simp [Region.wanted, hg.1.1])] at h
    exact h
  · simp [todo]
  · refine ⟨rfl, rfl, fun _ _ => rfl, hG.refl _, fun i hi h => ?_, fun j o2 ho2 h => ?_⟩
    · have h0 : (Array.replicate ops.size false).getD i false = false := by simp [show i < ops.size by omega]
      rw [h0] at h; cases h
    · have hj : j < ops.size := (Array.getElem?_eq_some_iff.1 ho2).1
      have h0 : (Array.replicate ops.size false).getD j false = false := by simp [hj]
      rw [h0] at h; cases h
  · have h0 : (Array.replicate ops.size false).getD (ops.size - 1) true = false := by simp [show ops.size - 1 < ops.size by omega]
    rw [h0] at h; cases h
def StepH {G : World → World → Prop} (P : Program) (dsts : List Nat) (T : Nat → Held G) (a : Act) (w : World) (o : Oper) (d : Nat) : Prop :=
  ∀ (ev : Operand → Value) w1, G w w1 → (∀ x, (∀ d ∈ dsts, x ≠ .tmp d) → ev x = a.eval x) → DepsG dsts T ev w1 o.after.toList → OpRuns P ev o w1 fun v w2 => G w1 w2 ∧ (T d).p v w2
def StepsH {G : World → World → Prop} (P : Program) (dsts : List Nat) (T : Nat → Held G) (a : Act) (w : World) : List Oper → List Nat → Prop
  | o :: os, d :: ds => StepH P dsts T a w o d ∧ StepsH P dsts T a w os ds
  | _, _ => True
theorem stepsH_at {G : World → World → Prop} {P : Program} {dsts : List Nat} {T : Nat → Held G} {a : Act} {w : World} : ∀ {os : List Oper} {ds : List Nat} (_ : StepsH P dsts T a w os ds) (i : Nat) {o : Oper} {d : Nat}, os[i]? = some o → ds[i]? = some d → StepH P dsts T a w o d
  | [], _, _, i, _, _, h, _ => by simp at h
  | _ :: _, [], _, i, _, _, _, h => by simp at h
  | _ :: os, _ :: ds, h, 0, _, _, ho, hd => by simp at ho hd; subst ho hd; exact h.1
  | _ :: os, _ :: ds, h, i + 1, _, _, ho, hd => stepsH_at h.2 i (by simpa using ho) (by simpa using hd)

/-- A region that is written out, its last operation a store that waits for all. -/
theorem wp_region_store {G : World → World → Prop} (hG : Goes G) {P : Program} {id : Nat} {ops : Array Oper} {Q : Exit → Act → World → Prop} (dsts : List Nat) (T : Nat → Held G) (o : Oper) {a : Act} {w : World} (hm : P.follows .mixedOrders = true)
    (hB : (openForm2 ops && edgesBind ops && decide (dstsOf ops = dsts)) = true)
    (ho : ops[ops.size - 1]? = some o)
    (hfit : (dsts.all fun d => decide (d < a.tmps.size)) = true)
    (steps : StepsH P dsts T a w.drew (ops.toList.take (ops.size - 1)) dsts)
    (last : ∀ f w1, G w.drew w1 → (∀ d ∈ dsts, (T d).p (f d) w1) → wpList P ops Q [o] (puts a f dsts) w1) : (Code.region id ops true).wp P Q a w := by
  simp only [Bool.and_eq_true, decide_eq_true_eq] at hB
  obtain ⟨⟨hB, hbind⟩, rfl⟩ := hB
  have hB' := hB
  simp only [openForm2, Bool.and_eq_true, decide_eq_true_eq] at hB'
  have hform := hB'.1.1.2
  rw [List.all_eq_true] at hform
  refine wp_region_openS hG (fun d v w => (T d).p v w) hm hB hfit (fun d v w1 w2 h hb => (T d).st v w1 w2 h hb) ?_ (fun o' ho' f w1 hb h => ?_)
  · intro i o hi ho ev w1 hb hev hdeps
    have hlt : i < ops.size := by omega
    have h1 := stepsH_at steps i (o := o) (d := dstOf ops i) (by
      rw [List.getElem?_take, if_pos hi]
      simpa using ho) (by simp [dstsOf, hi])
    refine h1 ev w1 hb hev (depsG_of fun e he => ?_)
    have hf := hform i (List.mem_range.2 hlt)
    rw [ho] at hf
    simp only [Bool.and_eq_true] at hf
    have hon : e.on < i := by simpa using Array.all_eq_true_iff_forall_mem.1 hf.1.2 e (by simpa using he)
    have hbd : Region.binds .any e = true := by
      have h2 := Array.all_eq_true_iff_forall_mem.1 hbind o (Array.mem_of_getElem? ho)
      exact Array.all_eq_true_iff_forall_mem.1 h2 e (by simpa using he)
    have hg : (dstsOf ops).getD e.on 0 = dstOf ops e.on := by simp [dstsOf, List.getD, show e.on < ops.size - 1 by omega]
    rw [hg]
    exact hdeps e he (by omega) hbd
  · obtain rfl : o' = o := Option.some.inj (ho'.symm.trans ho)
    exact last f w1 hb h


end Go.Proofs.YtplpakdbahlgaaaDoor

namespace Go.Proofs.YtplpakdbahlgaaaDoor
open Go.RowKit Go.Lib

/-- A block behind cells that are stored one behind the other. -/
theorem heap_setCells (g : Nat) (t : TypeId) : ∀ (vs : List Value) (o : Nat) (w : World) (cur : Array Value), w.heap[g]? = some (.cells cur t (0, 0)) → o + vs.length ≤ cur.size →
    ∃ cur', (w.setCells g o vs).heap[g]? = some (.cells cur' t (0, 0)) ∧ cur'.size = cur.size ∧ (∀ j, o ≤ j → j < o + vs.length → cur'[j]? = vs[j - o]?) ∧ ∀ j, (j < o ∨ o + vs.length ≤ j) → cur'[j]? = cur[j]?
  | [], o, w, cur, h, _ => ⟨cur, h, rfl, fun j h1 h2 => by simp at h2; omega, fun _ _ => rfl⟩
  | v :: vs, o, w, cur, h, hl => by
    simp only [List.length_cons] at hl
    have h1 := heap_setCell_same w g o _ _ v h
    obtain ⟨cur', e1, e2, e3, e4⟩ := heap_setCells g t vs (o + 1) (w.setCell ⟨g, o, none⟩ v) _ h1 (by simp; omega)
    refine ⟨cur', e1, by rw [e2]; simp, fun j h1 h2 => ?_, fun j h1 => ?_⟩
    · simp only [List.length_cons] at h2
      by_cases e : j = o
      · subst e
        rw [e4 j (.inl (by omega)), Nat.sub_self, Array.getElem?_setIfInBounds, if_pos rfl, if_pos (by omega)]; rfl
      · rw [e3 j (by omega) (by omega), show j - o = (j - (o + 1)) + 1 by omega]; rfl
    · simp only [List.length_cons] at h1
      rw [e4 j (by omega)]
      rw [Array.getElem?_setIfInBounds]
      rw [if_neg (by omega)]
theorem size_setCells9 (g : Nat) : ∀ (vs : List Value) (o : Nat) (w : World), (w.setCells g o vs).heap.size = w.heap.size
  | [], _, _ => rfl
  | v :: vs, o, w => by rw [World.setCells, size_setCells9 g vs]; simp
theorem Chg.setCells {S : Nat → Prop} (g : Nat) (hS : S g) : ∀ (vs : List Value) (o : Nat) (w : World), Chg S w (w.setCells g o vs)
  | [], _, w => Chg.refl S w
  | v :: vs, o, w => (Chg.setCell w g o v hS).then (Chg.setCells g hS vs (o + 1) _)

theorem run_clear_pairs (w : World) (ty : TypeId) (b o n c : Nat) (hn : 0 < n) (hc : ∀ j, j < n * 2 → (w.cell? ⟨b, o + j, none⟩).isSome = true) (hf : ∀ j, j < n * 2 → w.frozen? ⟨b, o + j, none⟩ = false) :
    (Builtin.clear_ #[22] ty #[.slice (some ⟨b, o, none⟩) n c]).run Tryd.prog w = .ok (.tuple #[]) (w.setCells b o (List.replicate (n * 2) (.int .i64 0))) := by
  have ht : Tryd.prog.underlying 22 = some (.slice 59) := by kernel_rfl
  have hv : ∀ w, (zeroValue 59).run Tryd.prog w = .ok (.agg #[.int .i64 0, .int .i64 0]) w := Tryd.zeroValue59
  have hz : (Value.agg #[.int .i64 0, .int .i64 0]).cells = #[.int .i64 0, .int .i64 0] := rfl
  have hzc : (Builtin.zeroCells (Value.agg #[.int .i64 0, .int .i64 0]).cells n).toList = List.replicate (n * 2) (.int .i64 0) := by
    rw [hz]
    apply List.ext_getElem
    · simp [Builtin.zeroCells]
    · intro i h1 h2
      rcases Nat.mod_two_eq_zero_or_one i with e | e <;> simp [Builtin.zeroCells, e]
  have hst := run_storeCells_cells (P := Tryd.prog) b o (List.replicate (n * 2) (.int .i64 0)) 0 w (by simpa using hc) (by simpa using hf) (by intro v hv'; rw [List.eq_of_mem_replicate hv']; rfl)
  simp only [Nat.add_zero] at hst
  obtain ⟨m, rfl⟩ : ∃ m, n = m + 1 := ⟨n - 1, by omega⟩
  simp [Builtin.clear_, run_underlying ht, hv, hzc, hst]

/-- What Delete leaves of an own row's block. -/
theorem del_row {w : World} {g c k : Nat} {l : List Ep.Pr} (ho : w.ownsRow 0 59 2 (.slice (some ⟨g, 0, none⟩) l.length c) l.length (l.flatMap prCells)) (hk : k ≤ l.length) (q : Nat) :
    (((w.drewN q).setCells g 0 ((l.drop k).flatMap prCells)).setCells g ((l.length - k) * 2) (List.replicate (k * 2) (.int .i64 0))).ownsRow 0 59 2 (.slice (some ⟨g, 0, none⟩) (l.length - k) c) (l.length - k) ((l.drop k).flatMap prCells) := by
  obtain ⟨g', cap, cur, e, _, hh, hcap, hmx, hsz, hx⟩ : ∃ g' cap cur, Value.slice (some ⟨g, 0, none⟩) l.length c = .slice (some ⟨g', 0, none⟩) l.length cap ∧ 0 ≤ g' ∧ w.heap[g']? = some (.cells cur 59 (0, 0)) ∧ l.length ≤ cap ∧ cap ≤ maxLen ∧ cur.size = cap * 2 ∧ cur.toList.take (l.length * 2) = l.flatMap prCells := by
    rcases ho.2 with ⟨e, _⟩ | h
    · cases e
    · exact h
  injection e with e1 _ e3
  injection e1 with e1
  injection e1 with e1
  subst e1 e3
  have hl1 : ((l.drop k).flatMap prCells).length = (l.length - k) * 2 := by rw [prs_len, List.length_drop]
  obtain ⟨c1, a1, a2, a3, -⟩ := heap_setCells g 59 ((l.drop k).flatMap prCells) 0 (w.drewN q) cur hh (by rw [hl1]; omega)
  obtain ⟨c2, b1, b2, -, b4⟩ := heap_setCells g 59 (List.replicate (k * 2) (.int .i64 0)) ((l.length - k) * 2) _ c1 a1 (by rw [List.length_replicate]; omega)
  refine ⟨by rw [hl1], .inr ⟨g, c, c2, rfl, Nat.zero_le _, b1, by omega, hmx, by omega, ?_⟩⟩
  apply List.ext_getElem?
  intro j
  rw [List.getElem?_take]
  by_cases hj : j < (l.length - k) * 2
  · rw [if_pos hj, Array.getElem?_toList, b4 j (.inl hj), a3 j (Nat.zero_le _) (by rw [hl1]; omega), Nat.sub_zero]
  · rw [if_neg hj, List.getElem?_eq_none (by rw [hl1]; omega)]

set_option maxRecDepth 100000 in
set_option maxHeartbeats 4000000 in
theorem del_walk (g f c k n : Nat) (w : World) (news : List Value) (hcap : n ≤ c) (hm : c ≤ 9223372036854775807) (hk0 : 0 < k) (hk : k ≤ n) (hlen : news.length = (n - k) * 2) (h1 : ∀ u ∈ news, u.oneCell' = true)
    (hsrc : ∀ t u, news[t]? = some u → w.cell? ⟨g, f + k * 2 + t, none⟩ = some u) (hth : ∀ j, j < n * 2 → (w.cell? ⟨g, f + j, none⟩).isSome = true) (hfr : ∀ j, j < n * 2 → w.frozen? ⟨g, f + j, none⟩ = false) :
    Calls Tryd.prog 46 #[.slice (some ⟨g, f, none⟩) n c, .int .i64 0, .int .i64 k] w fun e w' => e = .returned (.slice (some ⟨g, f, none⟩) (n - k : Nat) c) ∧ ∃ q, w' = ((w.drewN q).setCells g f news).setCells g (f + (n - k) * 2) (List.replicate (k * 2) (.int .i64 0)) := by
  obtain ⟨i0, hi0, hz0, hz1, hz2⟩ := info_parts pair_info
  obtain ⟨A, hA, hs⟩ : ∃ A : Addr, (if c = k then some (⟨g, f, none⟩ : Addr) else some ⟨g, f + k * 2, none⟩) = some A ∧ Hid (∀ t u, news[t]? = some u → w.drew.cell? (A.add t) = some u) := by
    by_cases h : c = k
    · refine ⟨⟨g, f, none⟩, by simp [h], fun t u hu => ?_⟩
      have h0 : news.length = 0 := by rw [hlen]; omega
      rw [List.length_eq_zero_iff.1 h0] at hu
      simp at hu
    · refine ⟨⟨g, f + k * 2, none⟩, by simp [h], fun t u hu => ?_⟩
      rw [Addr.add_lit]
      exact hsrc t u hu
  have s3 : Hid (∀ t, t < news.length → (w.drew.cell? ⟨g, f + 0 * 2 + t, none⟩).isSome = true ∧ w.drew.frozen? ⟨g, f + 0 * 2 + t, none⟩ = false) := hide fun t ht => by
    rw [hlen] at ht
    rw [Nat.zero_mul, Nat.add_zero]
    exact ⟨hth t (by omega), hfr t (by omega)⟩
  obtain ⟨W1, hW1⟩ : ∃ W1, W1 = w.drew.setCells g (f + 0 * 2) news := ⟨_, rfl⟩
  have hcl : ∀ ty, (Builtin.clear_ #[22] ty #[.slice (some ⟨g, f + (n - k) * 2, none⟩) (n - (n - k)) (c - (n - k))]).run Tryd.prog W1 = .ok (.tuple #[]) (W1.setCells g (f + (n - k) * 2) (List.replicate ((n - (n - k)) * 2) (.int .i64 0))) :=
    fun ty => run_clear_pairs W1 ty g (f + (n - k) * 2) _ _ (by omega) (fun j hj => by
      rw [hW1, show f + (n - k) * 2 + j = f + ((n - k) * 2 + j) by omega]
      exact World.isSome_setCells g news _ _ _ (hth _ (by omega))) (fun j hj => by
      rw [hW1, World.frozen?_setCells, show f + (n - k) * 2 + j = f + ((n - k) * 2 + j) by omega]
      exact hfr _ (by omega))
  have s1 := hide hlen
  have s2 := hide h1
  have HW1 := hide hW1
  have e0 : ((0 : Int) == (k : Int)) = false := by rw [beq_eq_false_iff_ne]; omega
  have hkc : k ≤ c := by omega
  clear hW1 hsrc hth hfr hlen h1
  go_enter Tryd.func46, Tryd.ntmps46
  go_wp2_with fail
  go_region_law (refine step_append_room rfl (.tmp 22) (.tmp 25) 22 rfl 59 i0 2 Tryd.underlying22 hi0 hz1 g f 0 c (by simp [Act.eval, Act.put]) A (n - k) (c - k) news (by simp [Act.eval, Act.put]) s1.out hs.out s2.out (by omega) s3.out ?_; rw [← HW1.out])
  go_wp2_with fail
  go_ret
  refine ⟨by first | rfl | (simp; done), 1, ?_⟩
  have ek : n - (n - k) = k := by omega
  rw [HW1.out, Nat.zero_mul, Nat.add_zero, ek]
  rfl

theorem del_any (g c k : Nat) (l : List Ep.Pr) (w : World) (ho : w.ownsRow 0 59 2 (.slice (some ⟨g, 0, none⟩) l.length c) l.length (l.flatMap prCells)) (hk0 : 0 < k) (hk : k ≤ l.length) :
    Calls Tryd.prog 46 #[.slice (some ⟨g, 0, none⟩) l.length c, .int .i64 0, .int .i64 k] w fun e w' => e = .returned (.slice (some ⟨g, 0, none⟩) (l.length - k : Nat) c) ∧ w'.ownsRow 0 59 2 (.slice (some ⟨g, 0, none⟩) (l.length - k) c) (l.length - k) ((l.drop k).flatMap prCells) ∧ Chg (fun b => b = g) w w' ∧ w'.heap.size = w.heap.size := by
  obtain ⟨cur, hh, hcap, hmx, hsz⟩ : ∃ cur, w.heap[g]? = some (.cells cur 59 (0, 0)) ∧ l.length ≤ c ∧ c ≤ maxLen ∧ cur.size = c * 2 := by
    rcases ho.2 with ⟨e, _⟩ | ⟨g', cap, cur, e, _, hh, hcap, hmx, hsz, hx⟩
    · cases e
    · injection e with e1 _ e3
      injection e1 with e1
      injection e1 with e1
      subst e1 e3
      exact ⟨cur, hh, hcap, hmx, hsz⟩
  have hmx2 : c ≤ 9223372036854775807 := by simp only [maxLen] at hmx; omega
  have hl1 : ((l.drop k).flatMap prCells).length = (l.length - k) * 2 := by rw [prs_len, List.length_drop]
  obtain ⟨A, c', e, hp, -, -⟩ := pairs_at ho
  injection e with e1 _ e3
  subst e1 e3
  refine (del_walk g 0 c k l.length w ((l.drop k).flatMap prCells) hcap hmx2 hk0 hk hl1 (prs_one _) (fun t u hu => ?_) (fun j hj => ?_) (fun j hj => ?_)).mono ?_
  · have hp2 := hp.piece k l.length hk (Nat.le_refl _)
    rw [List.take_length] at hp2
    have := hp2.news t u hu
    rwa [Addr.add_lit] at this
  · simp only [World.cell?, hh, Nat.zero_add]
    simp [show j < cur.size by omega]
  · simp only [World.frozen?, hh, Nat.zero_add]
    simp
  · rintro e w' ⟨rfl, q, rfl⟩
    refine ⟨rfl, ?_, ?_, by simp [size_setCells9]⟩
    · have := del_row ho hk q
      rwa [Nat.zero_add]
    · exact (Chg.of_below (below_drewN (Below.refl _ _) q)).then ((Chg.setCells (S := fun b => b = g) g rfl _ _ _).then (Chg.setCells (S := fun b => b = g) g rfl _ _ _))

set_option maxRecDepth 100000 in
theorem del_none (g f c n : Nat) (w : World) (hn : n ≤ c) (_hm : c ≤ 9223372036854775807) :
    Calls Tryd.prog 46 #[.slice (some ⟨g, f, none⟩) n c, .int .i64 0, .int .i64 0] w fun e w' => e = .returned (.slice (some ⟨g, f, none⟩) n c) ∧ w' = w := by
  go_enter Tryd.func46, Tryd.ntmps46
  go_wp2_with fail
  go_ret
  exact ⟨rfl, rfl⟩
theorem del_all (g c k : Nat) (l : List Ep.Pr) (w : World) (ho : w.ownsRow 0 59 2 (.slice (some ⟨g, 0, none⟩) l.length c) l.length (l.flatMap prCells)) (hk : k ≤ l.length) :
    Calls Tryd.prog 46 #[.slice (some ⟨g, 0, none⟩) l.length c, .int .i64 0, .int .i64 k] w fun e w' => e = .returned (.slice (some ⟨g, 0, none⟩) (l.length - k : Nat) c) ∧ w'.ownsRow 0 59 2 (.slice (some ⟨g, 0, none⟩) (l.length - k) c) (l.length - k) ((l.drop k).flatMap prCells) ∧ Chg (fun b => b = g) w w' ∧ w'.heap.size = w.heap.size := by
  rcases Nat.eq_zero_or_pos k with rfl | h
  · obtain ⟨A, c', e, hp, -, -⟩ := pairs_at ho
    injection e with e1 _ e3
    subst e1 e3
    refine (del_none g 0 c l.length w hp.le hp.mx).mono ?_
    rintro e w' ⟨rfl, rfl⟩
    exact ⟨rfl, ho, Chg.refl _ _, rfl⟩
  · exact del_any g c k l w ho h hk

/-- The first one's start, stored. -/
theorem front_cells (s : Int) (p : Ep.Pr) (l : List Ep.Pr) : (Ep.front s (p :: l)).flatMap prCells = ((p :: l).flatMap prCells).set 1 (.int .i64 s) := rfl
theorem own_front {w : World} {base g c : Nat} {l : List Ep.Pr} (s : Int) (ho : w.ownsRow base 59 2 (.slice (some ⟨g, 0, none⟩) l.length c) l.length (l.flatMap prCells)) (hl : 0 < l.length) :
    (w.setCell ⟨g, 1, none⟩ (.int .i64 s)).ownsRow base 59 2 (.slice (some ⟨g, 0, none⟩) (Ep.front s l).length c) (Ep.front s l).length ((Ep.front s l).flatMap prCells) := by
  rw [Ep.front_len]
  rcases ho.2 with ⟨e, _⟩ | ⟨g', cap, cur, e, hb, hh, hcap, hmx, hsz, hx⟩
  · cases e
  · injection e with e1 _ e3
    injection e1 with e1
    injection e1 with e1
    subst e1 e3
    refine ⟨by rw [prs_len, Ep.front_len], .inr ⟨g, c, _, rfl, hb, heap_setCell_same w g 1 _ _ _ hh, hcap, hmx, by simpa using hsz, ?_⟩⟩
    cases l with
    | nil => simp at hl
    | cons p l =>
      rw [front_cells, ← hx, Array.toList_setIfInBounds, List.take_set]
end Go.Proofs.YtplpakdbahlgaaaDoor

namespace Go.Proofs.YtplpakdbahlgaaaDoor
open Go.RowKit Go.Lib

/-- place, as a number. -/
theorem epPlace_none (X : Nat) (l : List Ep.Pr) (S : Nat → Prop) (o : Int) (w : World) (h : EpAt w X l S) (ho : Ep.Ok l) (h0 : Ep.upto l o = 0) :
    Calls Tryd.prog 45 #[.pointer (some ⟨X, 0, none⟩), .int .i64 o] w fun e w' => e = .returned (.int .i64 (-1)) ∧ Below w.heap.size w w' := by
  have := epPlace_any X l S o w h ho
  rw [h0] at this
  exact this
theorem epPlace_some (X : Nat) (l : List Ep.Pr) (S : Nat → Prop) (o : Int) (m : Nat) (w : World) (h : EpAt w X l S) (ho : Ep.Ok l) (h0 : Ep.upto l o = m + 1) :
    Calls Tryd.prog 45 #[.pointer (some ⟨X, 0, none⟩), .int .i64 o] w fun e w' => e = .returned (.int .i64 m) ∧ Below w.heap.size w w' := by
  have := epPlace_any X l S o w h ho
  rw [h0, show ((m + 1 : Nat) : Int) - 1 = m by omega] at this
  exact this

set_option maxRecDepth 100000 in
theorem epAt_any (X : Nat) (l : List Ep.Pr) (S : Nat → Prop) (o : Int) (w : World) (h : EpAt w X l S) (ho : Ep.Ok l) :
    Calls Tryd.prog 36 #[.pointer (some ⟨X, 0, none⟩), .int .i64 o] w fun e w' => e = .returned (.tuple #[.int .i64 (Ep.at_ l o).1, .bool (Ep.at_ l o).2]) ∧ Below w.heap.size w w' := by
  unfold Ep.at_
  cases hu : Ep.upto l o with
  | zero =>
    have HP := hide (epPlace_none X l S o w h ho hu)
    rw [if_pos rfl]
    clear h ho hu
    go_enter Tryd.func36, Tryd.ntmps36
    go_wp2_with (first
      | (go_at_call 45; refine HP.out.mono ?_; rintro e w2 ⟨rfl, hb2⟩; have HB2 := hide hb2; clear hb2)
      | fail)
    go_returns
    exact ⟨rfl, HB2.out⟩
  | succ m =>
    have HP := hide (epPlace_some X l S o m w h ho hu)
    rw [if_neg (by omega), Nat.add_sub_cancel]
    have hul := Ep.upto_le l o
    obtain ⟨v, h⟩ := h
    obtain ⟨A, c, rfl, hp, -, cX⟩ := h.cells
    obtain ⟨g, f, rfl, -, k0, -⟩ := hp.at_ m (by omega)
    have hml : m < l.length := by omega
    have hle := hp.le
    have d0 : decide ((m : Int) < 0) = false := decide_eq_false (by omega)
    generalize (Ep.pr l m).ep = pe at *
    generalize l.length = n at *
    clear h ho hu hp hul
    go_enter Tryd.func36, Tryd.ntmps36
    go_wp2_with (first
      | (go_at_call 45; refine HP.out.mono ?_; rintro e w2 ⟨rfl, hb2⟩; have HB2 := hide hb2; have cX2 := (hb2.cell (World.block_lt_of_cell? _ _ cX)).trans cX; have k02 := (hb2.cell (World.block_lt_of_cell? _ _ k0)).trans k0; clear hb2)
      | fail)
    go_returns
    exact ⟨rfl, HB2.out⟩

set_option maxRecDepth 100000 in
theorem epLast_any (X : Nat) (l : List Ep.Pr) (S : Nat → Prop) (w : World) (h : EpAt w X l S) (ho : Ep.Ok l) :
    Calls Tryd.prog 34 #[.pointer (some ⟨X, 0, none⟩)] w fun e w' => e = .returned (.tuple #[prV (Ep.last l), .bool (decide (0 < l.length))]) ∧ Below w.heap.size w w' := by
  obtain ⟨v, h⟩ := h
  obtain ⟨A, c, rfl, hp, -, cX⟩ := h.cells
  have hlen := ho.len
  have hba : Below w.heap.size w (w.alloc (.cells #[.int .i64 0, .int .i64 0] 59)) := balloc (Below.refl _ _) _
  have cX0 := (hba.cell (World.block_lt_of_cell? _ _ cX)).trans cX
  rcases Nat.eq_zero_or_pos l.length with h0 | h0
  · have e1 : Ep.last l = ⟨0, 0⟩ := by rw [List.eq_nil_of_length_eq_zero h0]; rfl
    rw [h0] at cX cX0
    rw [e1, h0]
    clear h ho hp h0 hlen
    go_enter Tryd.func34, Tryd.ntmps34
    go_wp2_with fail
    refine bodyPost_ret (v := .tuple #[prV ⟨0, 0⟩, .bool (decide (0 < 0))]) (by rw [results_cell_tmp rfl]; go_simp) rfl ⟨rfl, ?_⟩
    exact balloc (Below.refl _ _) _
  · obtain ⟨m, hm⟩ : ∃ m, l.length = m + 1 := ⟨l.length - 1, by omega⟩
    have e1 : Ep.last l = Ep.pr l m := by unfold Ep.last; rw [hm]; rfl
    obtain ⟨g, f, rfl, -, k0, k1⟩ := hp.at_ m (by omega)
    have k00 := (hba.cell (World.block_lt_of_cell? _ _ k0)).trans k0
    have k10 := (hba.cell (World.block_lt_of_cell? _ _ k1)).trans k1
    have hle := hp.le
    rw [e1, decide_eq_true h0]
    rw [hm] at hle hlen cX cX0
    generalize Ep.pr l m = q at *
    obtain ⟨pe, ps⟩ := q
    simp only at k0 k1 k00 k10
    have e0 : (((m : Int) + 1) == 0) = false := by rw [beq_eq_false_iff_ne]; omega
    have hw1 : IntKind.i64.wrap ((m : Int) + 1 - 1) = (m : Int) := by rw [IntKind.wrap_i64]; omega
    clear h ho hp h0 hm e1
    go_enter Tryd.func34, Tryd.ntmps34
    go_wp2_with fail
    refine bodyPost_ret (v := .tuple #[prV ⟨pe, ps⟩, .bool true]) (by rw [results_cell_tmp rfl]; go_simp) rfl ⟨rfl, ?_⟩
    exact balloc (Below.refl _ _) _

/-- What holds of a slice's cut. -/
theorem pr_cut {w : World} {v : Value} {l : List Ep.Pr} (h : w.ownsRow 0 59 2 v l.length (l.flatMap prCells)) (k : Nat) (hk : k ≤ l.length) : ∃ A c, v = .slice A l.length c ∧ w.ownsRow 0 59 2 (.slice A k c) (l.take k).length ((l.take k).flatMap prCells) ∧ (Value.slice A k c).ownBlock = v.ownBlock := by
  obtain ⟨A, c, rfl, -, -, -⟩ := pairs_at h
  refine ⟨A, c, rfl, ?_, by cases A <;> rfl⟩
  have := ownsRow_cut h k hk
  rw [prs_take l k hk] at this
  rwa [show (l.take k).length = k by rw [List.length_take]; omega]

set_option maxRecDepth 100000 in
set_option maxHeartbeats 1000000 in
theorem epCutEnd_any (X : Nat) (l : List Ep.Pr) (S : Nat → Prop) (o : Int) (w : World) (h : EpAt w X l S) (ho : Ep.Ok l) :
    Calls Tryd.prog 19 #[.pointer (some ⟨X, 0, none⟩), .int .i64 o] w fun e w' => e = .returned (.tuple #[]) ∧ EpAt w' X (Ep.cutEnd l o) (Up S w w') ∧ Chg S w w' := by
  obtain ⟨v, h⟩ := h
  have hk := Ep.ahead_le l o
  obtain ⟨A, c, rfl, hp, -, cX⟩ := h.cells
  have hle := hp.le
  have hcut : ∀ V : World, V.ownsRow 0 59 2 (.slice A l.length c) l.length (l.flatMap prCells) → V.ownsRow 0 59 2 (.slice A (Ep.ahead l o) c) (Ep.cutEnd l o).length ((Ep.cutEnd l o).flatMap prCells) ∧ (Value.slice A (Ep.ahead l o) c).ownBlock = (Value.slice A l.length c).ownBlock := fun V hV => by
    obtain ⟨A', c', e, h1, h2⟩ := pr_cut hV (Ep.ahead l o) hk
    injection e with e1 _ e3
    subst e1 e3
    exact ⟨h1, h2⟩
  have HC := hide hcut
  have HA := hide (fun V (hb : Below w.heap.size w V) => epAhead_any X l S o V ⟨_, h.below hb⟩ ho)
  have HL := hide h
  have HX := h.lt
  generalize Ep.ahead l o = k at *
  generalize hn : l.length = n at *
  have HN := hide hn
  have hkc : k ≤ c := by omega
  clear h ho hp hcut hn
  go_enter Tryd.func19, Tryd.ntmps19
  refine wp_region_store (G := Below w.heap.size) ⟨fun w => Below.refl _ w, fun h k => h.trans k⟩ [4, 5, 6, 7, 8, 9, 10, 11, 12, 13, 14] (fun d => match d with
    | 4 => .is (.pointer (some ⟨X, 0, none⟩)) | 5 => .is (.pointer (some ⟨X, 0, none⟩)) | 6 => .is (.pointer (some ⟨X, 0, none⟩)) | 7 => .is (.pointer (some ⟨X, 0, none⟩)) | 8 => .is (.slice A n c)
    | 9 => .is (.pointer (some ⟨X, 0, none⟩)) | 10 => .is (.int .i64 o) | 11 => .is (.int .i64 k) | 12 => .is (.slice A k c) | 13 => .is (.pointer (some ⟨X, 0, none⟩)) | 14 => .is (.pointer (some ⟨X, 0, none⟩)) | _ => .any) _ (by kernel_rfl) (by kernel_rfl) rfl (by kernel_rfl) ?_ ?_
  · simp only [List.size_toArray, List.length_cons, List.length_nil, List.take_succ_cons, List.take_zero, StepsH, Nat.reduceAdd, Nat.reduceSub]
    refine ⟨?_, ?_, ?_, ?_, ?_, ?_, ?_, ?_, ?_, ?_, ?_, trivial⟩
    all_goals
      intro ev w1 hb hev hd
      have ev0 : ev (.tmp 0) = .pointer (some ⟨X, 0, none⟩) := hev _ (by simp)
      have ev1 : ev (.tmp 1) = .int .i64 o := hev _ (by simp)
      have evf : ∀ f, ev (.func f) = .func (.func f) #[] #[] := fun f => hev _ (by simp)
      have z1 := (hb.cell (p := ⟨X, 0, none⟩) HX).trans cX
      have HB1 : Hid (Below w.heap.size w w1) := hide ((Below.refl w.heap.size w).drew.trans hb)
      have hrf := Below.refl w.heap.size w1
      clear hev hb
      simp [DepsG, Held.is] at hd
      first
        | (set_option maxHeartbeats 40000 in simp [OpRuns, execOp, go_sem, Held.is, *]; done)
        | (set_option maxHeartbeats 40000 in simp [OpRuns, execOp, go_sem, Held.is, *])
    exact (HA.out _ HB1.out).mono fun e w'' ⟨he, hb8⟩ => ⟨he, hb8.mono HB1.out.size⟩
  · intro f w4 hb hf
    have e14 : f 14 = .pointer (some ⟨X, 0, none⟩) := hf 14 (by simp)
    have e12 : f 12 = .slice A k c := hf 12 (by simp)
    have HB4 : Hid (Below w.heap.size w w4) := hide ((Below.refl w.heap.size w).drew.trans hb)
    have hl4 := HL.out.below HB4.out
    have z1 : w4.cell? ⟨X, 0, none⟩ = some (.slice A n c) := box_cell hl4.box 0
    have u1 := box_free hl4.box 0
    have HL4 := hide hl4
    clear hb hf hl4
    simp only [puts, Act.put, List.setIfInBounds_toArray, List.set_cons_succ, List.set_cons_zero]
    rw [e14, e12]
    clear e14 e12
    generalize f 4 = f4
    generalize f 5 = f5
    generalize f 6 = f6
    generalize f 7 = f7
    generalize f 8 = f8
    generalize f 9 = f9
    generalize f 10 = f10
    generalize f 11 = f11
    generalize f 13 = f13
    clear f
    go_wp2_with fail
    go_returns
    obtain ⟨h1, h2⟩ := HC.out w4 (by have := HL4.out.own; rwa [HN.out] at this)
    obtain ⟨q1, q2⟩ := HL.out.set (Chg.of_below HB4.out) HL4.out.box h1 (fun g hg => by
      rw [h2] at hg
      exact .inl ⟨HL.out.mE g hg, fun e => HL.out.ne (e ▸ hg)⟩)
    exact ⟨rfl, ⟨_, q1⟩, q2⟩

/-- A box whose row stands, its first start stored. -/
theorem EpL.front {w : World} {X g c : Nat} {l : List Ep.Pr} {S : Nat → Prop} (h : EpL w X (.slice (some ⟨g, 0, none⟩) l.length c) l S) (s : Int) (hl : 0 < l.length) :
    EpL (w.setCell ⟨g, 1, none⟩ (.int .i64 s)) X (.slice (some ⟨g, 0, none⟩) (Ep.front s l).length c) (Ep.front s l) S ∧ Chg S w (w.setCell ⟨g, 1, none⟩ (.int .i64 s)) := by
  have hne : g ≠ X := fun e => h.ne (by rw [← e]; rfl)
  refine ⟨⟨?_, own_front s h.own hl, h.mX, fun b hb => h.mE b hb⟩, Chg.setCell w g 1 _ (h.mE g rfl)⟩
  rw [Below.heap_setCell _ _ _ _ (fun e => hne e.symm), h.box, Ep.front_len]

set_option maxRecDepth 100000 in
set_option maxHeartbeats 1000000 in
theorem epCutStart_any (X : Nat) (l : List Ep.Pr) (S : Nat → Prop) (o : Int) (w : World) (h : EpAt w X l S) (ho : Ep.Ok l) :
    Calls Tryd.prog 21 #[.pointer (some ⟨X, 0, none⟩), .int .i64 o] w fun e w' => e = .returned (.tuple #[]) ∧ EpAt w' X (Ep.cutStart l o) (Up S w w') ∧ Chg S w w' := by
  unfold Ep.cutStart
  cases hu : Ep.upto l o with
  | zero =>
    have HP := hide (epPlace_none X l S o w h ho hu)
    rw [if_pos rfl]
    have HH := hide h
    clear h ho hu
    go_enter Tryd.func21, Tryd.ntmps21
    go_wp2_with (first
      | (go_at_call 45; refine HP.out.mono ?_; rintro e w2 ⟨rfl, hb2⟩; have HB2 := hide hb2; clear hb2)
      | fail)
    go_returns
    exact ⟨rfl, (HH.out.below HB2.out).mono up_self, Chg.of_below HB2.out⟩
  | succ m =>
    have HP := hide (epPlace_some X l S o m w h ho hu)
    rw [if_neg (by omega), Nat.add_sub_cancel]
    have hul := Ep.upto_le l o
    obtain ⟨v, h⟩ := h
    obtain ⟨A, c, rfl, hp, hA0, cX⟩ := h.cells
    have hml : m < l.length := by omega
    obtain ⟨g, f, rfl, -, -, -⟩ := hp.at_ m hml
    obtain rfl : f = 0 := by
      obtain ⟨A', c', e, -, -, h3⟩ := pairs_at h.own
      injection e with e1 _ _
      obtain ⟨g', e', -⟩ := h3 _ e1.symm
      injection e'
    have hne : g ≠ X := fun e => h.ne (by rw [← e]; rfl)
    have d0 : decide ((m : Int) < 0) = false := decide_eq_false (by omega)
    have HD := hide (fun V (hb : Below w.heap.size w V) => del_all g c m l V (h.below hb).own (by omega))
    have HL := hide h
    have hX := h.lt
    have HDL : Hid ((l.drop m).length = l.length - m) := hide (by rw [List.length_drop])
    have hsub : 0 < l.length - m := by omega
    have hle := hp.le
    generalize hn : l.length = n at *
    have HN := hide hn
    clear h ho hu hp hul hA0 hn
    go_enter Tryd.func21, Tryd.ntmps21
    go_upto_region 3 with (first
      | (go_at_call 45; refine HP.out.mono ?_; rintro e w2 ⟨rfl, hb2⟩; have HB2 := hide hb2; have cX2 := (hb2.cell (World.block_lt_of_cell? _ _ cX)).trans cX; clear hb2)
      | (go_at_call 46; refine (HD.out _ HB2.out).mono ?_; rintro e w3 ⟨rfl, ho3, hc3, hz3⟩; have HO3 := hide ho3; have HC3 := hide hc3; have HBX : Hid (w3.heap[X]? = some (.cells #[.slice (some ⟨g, 0, none⟩) n c] 75 (0, 0))) := hide ((hc3.block X (Nat.lt_of_lt_of_le hX HB2.out.size) (fun e => hne e.symm)).trans ((HB2.out.block X hX).trans HL.out.box)); have cX3 := box_cell HBX.out 0; have fX3 := box_free HBX.out 0; clear ho3 hc3 hz3)
      | fail)
    have h3c : Chg S w w3 := (Chg.of_below HB2.out).then (HC3.out.mono fun i hi => by rw [hi]; exact HL.out.mE g rfl)
    obtain ⟨hl4, hc4⟩ := HL.out.set (v' := .slice (some ⟨g, 0, none⟩) (n - m) c) (m := l.drop m) h3c HBX.out (by rw [HDL.out]; exact HO3.out) (fun b hb => by
      obtain rfl : g = b := by simpa [Value.ownBlock] using hb
      exact .inl ⟨HL.out.mE g rfl, hne⟩)
    obtain ⟨W4, hW4⟩ : ∃ W4, W4 = w3.setCell ⟨X, 0, none⟩ (.slice (some ⟨g, 0, none⟩) (n - m) c) := ⟨_, rfl⟩
    rw [← hW4] at hl4 hc4 ⊢
    have x4 : W4.cell? ⟨X, 0, none⟩ = some (.slice (some ⟨g, 0, none⟩) (n - m) c) := box_cell hl4.box 0
    obtain ⟨cur, hcur, hcz⟩ : ∃ cur, W4.heap[g]? = some (.cells cur 59 (0, 0)) ∧ 2 ≤ cur.size := by
      rcases hl4.own.2 with ⟨e, _⟩ | ⟨g', cap, cur, e, _, hh, hcap, _, hsz, _⟩
      · cases e
      · injection e with e1 e2 e3
        injection e1 with e1
        injection e1 with e1
        subst e1
        exact ⟨cur, hh, by omega⟩
    obtain ⟨u, hu⟩ : ∃ u, W4.cell? ⟨g, 1, none⟩ = some u := ⟨cur[1]'(by omega), by simp only [World.cell?, hcur]; simp [show 1 < cur.size by omega]⟩
    have fu : W4.frozen? ⟨g, 1, none⟩ = false := by simp only [World.frozen?, hcur]; simp
    have HL4 := hide hl4
    have HC4 := hide hc4
    have hnc : n - m ≤ c := by omega
    generalize n - m = r at *
    clear hl4 hc4 hW4 cX3 fX3 HC3 HO3 HBX cX2 hcur h3c
    go_wp2_with fail
    go_returns
    have hq := HL4.out
    rw [← HDL.out] at hq
    obtain ⟨q1, q2⟩ := hq.front (min o 1099511627776) (by rw [HDL.out]; exact hsub)
    have h4 := HC4.out
    exact ⟨rfl, ⟨_, q1.mono fun k hk => hk.imp id fun h => ⟨h.1, Nat.lt_of_lt_of_le h.2 q2.size⟩⟩, h4.up q2⟩
end Go.Proofs.YtplpakdbahlgaaaDoor

namespace Go.Proofs.YtplpakdbahlgaaaDoor
open Go.RowKit Go.Lib

theorem Ep.last_snoc (l : List Ep.Pr) (p : Ep.Pr) : Ep.last (l ++ [p]) = p := by
  unfold Ep.last
  rw [Ep.pr_right (by simp)]
  simp [Ep.pr]
theorem EpL.push {w w1 w2 : World} {X : Nat} {v v' : Value} {l : List Ep.Pr} {S : Nat → Prop} (h : EpL w X v l S) (hb : Below w.heap.size w w1) (p : Ep.Pr) (ho : w2.ownsRow 0 59 2 v' (l.length + 1) (l.flatMap prCells ++ prCells p)) (hg : w1.grownBy w2 v.ownBlock) (hv : v'.ownBlock = v.ownBlock ∨ v'.ownBlock = some w1.heap.size) :
    EpL (w2.setCell ⟨X, 0, none⟩ v') X v' (l ++ [p]) (Up S w (w2.setCell ⟨X, 0, none⟩ v')) ∧ Chg S w (w2.setCell ⟨X, 0, none⟩ v') := by
  refine h.set ((Chg.of_below hb).then (Chg.of_grown hg fun k hk => h.mE k hk)) (h.boxed hb hg h.ne) ?_ fun g hg' => ?_
  · have e : (l ++ [p]).length = l.length + 1 := by simp
    have e2 : (l ++ [p]).flatMap prCells = l.flatMap prCells ++ prCells p := by simp
    rw [e, e2]; exact ho
  · rcases hv with k | k
    · rw [k] at hg'
      exact .inl ⟨h.mE g hg', fun e => h.ne (e ▸ hg')⟩
    · rw [k] at hg'; injection hg' with hg'
      exact .inr (by rw [← hg']; exact hb.size)

set_option maxRecDepth 100000 in
set_option maxHeartbeats 2000000 in
/-- Begin, where nothing changes. -/
theorem epBegin_keep (X : Nat) (l : List Ep.Pr) (S : Nat → Prop) (e s : Int) (w : World) (p : Nat → Addr) (hs : Sents4B w p) (h : EpAt w X l S) (ho : Ep.Ok l) (r : Option Nat) (hr : Ep.begin l e s = (r, l)) (hne : ¬ (Ep.right ⟨e, s⟩ ∧ l = [])) :
    Calls Tryd.prog 18 #[.pointer (some ⟨X, 0, none⟩), .int .i64 e, .int .i64 s] w fun q w' => q = .returned (errR p r) ∧ Below w.heap.size w w' := by
  have s2 : ∀ V, Below w.heap.size w V → V.cell? ⟨2, 0, none⟩ = some (errV (p 2)) := fun V hb => (hs.below hb).cell 2 (by omega)
  have s3 : ∀ V, Below w.heap.size w V → V.cell? ⟨3, 0, none⟩ = some (errV (p 3)) := fun V hb => (hs.below hb).cell 3 (by omega)
  have s4 : ∀ V, Below w.heap.size w V → V.cell? ⟨0, 0, none⟩ = some (errV (p 4)) := fun V hb => (hs.below hb).cell 4 (by omega)
  have s13 : ∀ V, Below w.heap.size w V → V.cell? ⟨1, 0, none⟩ = some (errV (p 13)) := fun V hb => (hs.below hb).cell 13 (by omega)
  have hb1 : Below w.heap.size w (w.alloc (.cells #[.int .i64 e, .int .i64 s] 59)) := balloc (Below.refl _ _) _
  have HR := hide (fun V => epRight_any ⟨e, s⟩ V)
  have HB1 := hide hb1
  have HB1z : Hid (w.heap.size ≤ (w.alloc (.cells #[.int .i64 e, .int .i64 s] 59)).heap.size) := hide hb1.size
  have HS2 := hide s2
  have HS3 := hide s3
  have HS4 := hide s4
  have HS13 := hide s13
  unfold Ep.begin at hr
  by_cases c1 : Ep.right ⟨e, s⟩
  · rw [if_neg (fun k => k c1)] at hr
    rw [decide_eq_true c1] at HR
    have hl0 : l ≠ [] := fun k => hne ⟨c1, k⟩
    have hp0 : 0 < l.length := List.length_pos_iff.2 hl0
    rw [if_neg hl0] at hr
    have HL := hide (fun V (hb : Below w.heap.size w V) => epLast_any X l S V (h.below hb) ho)
    rw [decide_eq_true hp0] at HL
    obtain ⟨v, hL⟩ := h
    obtain ⟨A, c, rfl, -, -, cX⟩ := hL.cells
    have hX := hL.lt
    have hlen := ho.len
    have HCX := hide (fun V (hb : Below w.heap.size w V) => (hb.cell (p := ⟨X, 0, none⟩) hX).trans cX)
    generalize hq : Ep.last l = q at *
    obtain ⟨le, ls⟩ := q
    simp only at hr
    have HHL := hide hL
    generalize hn : l.length = n at *
    have HN := hide hn
    have HQ := hide hq
    clear hs s2 s3 s4 s13 hb1 hL cX hn hq ho hne c1
    by_cases c3 : e < le
    · rw [if_pos c3] at hr
      obtain rfl : r = some 13 := (Prod.mk.inj hr).1.symm
      simp only [errR]
      have d3 : decide (e < le) = true := decide_eq_true c3
      clear hr c3
      go_enter Tryd.func18, Tryd.ntmps18
      go_wp2_with (first
        | (go_at_call 43; refine (HR.out _).mono ?_; rintro q w2 ⟨rfl, hb2⟩; have HB2 := hide (HB1.out.trans (hb2.mono HB1z.out)); clear hb2)
        | (go_at_call 34; refine (HL.out _ HB2.out).mono ?_; rintro q w3 ⟨rfl, hb3⟩; have HB3 := hide (HB2.out.trans (hb3.mono HB2.out.size)); have HB4 := hide (balloc HB3.out (.cells #[.int .i64 le, .int .i64 ls] 59)); have g3 := HS13.out _ HB4.out; clear hb3)
        | fail)
      go_ret
      exact ⟨rfl, HB4.out⟩
    · rw [if_neg c3] at hr
      have d3 : decide (e < le) = false := decide_eq_false c3
      by_cases c4 : e = le
      · rw [if_pos c4] at hr
        obtain rfl : r = none := (Prod.mk.inj hr).1.symm
        simp only [errR]
        have d4 : (e == le) = true := by rw [beq_iff_eq]; exact c4
        clear hr c3 c4
        go_enter Tryd.func18, Tryd.ntmps18
        go_wp2_with (first
          | (go_at_call 43; refine (HR.out _).mono ?_; rintro q w2 ⟨rfl, hb2⟩; have HB2 := hide (HB1.out.trans (hb2.mono HB1z.out)); clear hb2)
          | (go_at_call 34; refine (HL.out _ HB2.out).mono ?_; rintro q w3 ⟨rfl, hb3⟩; have HB3 := hide (HB2.out.trans (hb3.mono HB2.out.size)); have HB4 := hide (balloc HB3.out (.cells #[.int .i64 le, .int .i64 ls] 59)); clear hb3)
          | fail)
        go_ret
        exact ⟨rfl, HB4.out⟩
      · rw [if_neg c4] at hr
        have d4 : (e == le) = false := by rw [beq_eq_false_iff_ne]; exact c4
        by_cases c5 : s < ls
        · rw [if_pos c5] at hr
          obtain rfl : r = some 2 := (Prod.mk.inj hr).1.symm
          simp only [errR]
          have d5 : decide (s < ls) = true := decide_eq_true c5
          clear hr c3 c4 c5
          go_enter Tryd.func18, Tryd.ntmps18
          go_wp2_with (first
            | (go_at_call 43; refine (HR.out _).mono ?_; rintro q w2 ⟨rfl, hb2⟩; have HB2 := hide (HB1.out.trans (hb2.mono HB1z.out)); clear hb2)
            | (go_at_call 34; refine (HL.out _ HB2.out).mono ?_; rintro q w3 ⟨rfl, hb3⟩; have HB3 := hide (HB2.out.trans (hb3.mono HB2.out.size)); have HB4 := hide (balloc HB3.out (.cells #[.int .i64 le, .int .i64 ls] 59)); have g3 := HS2.out _ HB4.out; clear hb3)
            | fail)
          go_ret
          exact ⟨rfl, HB4.out⟩
        · rw [if_neg c5] at hr
          have d5 : decide (s < ls) = false := decide_eq_false c5
          by_cases c6 : 256 ≤ n
          · rw [if_pos c6] at hr
            obtain rfl : r = some 3 := (Prod.mk.inj hr).1.symm
            simp only [errR]
            have d6 : decide ((256 : Int) ≤ n) = true := decide_eq_true (by omega)
            clear hr c3 c4 c5
            go_enter Tryd.func18, Tryd.ntmps18
            go_wp2_with (first
              | (go_at_call 43; refine (HR.out _).mono ?_; rintro q w2 ⟨rfl, hb2⟩; have HB2 := hide (HB1.out.trans (hb2.mono HB1z.out)); clear hb2)
              | (go_at_call 34; refine (HL.out _ HB2.out).mono ?_; rintro q w3 ⟨rfl, hb3⟩; have HB3 := hide (HB2.out.trans (hb3.mono HB2.out.size)); have HB4 := hide (balloc HB3.out (.cells #[.int .i64 le, .int .i64 ls] 59)); have g3 := HS3.out _ HB4.out; have g4 := HCX.out _ HB4.out; clear hb3)
              | fail)
            go_ret
            exact ⟨rfl, HB4.out⟩
          · exfalso
            rw [if_neg c6] at hr
            split at hr
            · have h1 := congrArg (fun x : Option Nat × List Ep.Pr => Ep.last x.2) hr
              simp only [Ep.last_snoc] at h1
              rw [HQ.out] at h1
              exact c4 (congrArg Ep.Pr.ep h1)
            · have h1 := congrArg (fun x : Option Nat × List Ep.Pr => Ep.last x.2) hr
              simp only [Ep.last_snoc] at h1
              rw [HQ.out] at h1
              exact c4 (congrArg Ep.Pr.ep h1)
  · rw [if_pos c1] at hr
    rw [decide_eq_false c1] at HR
    obtain rfl : r = some 4 := (Prod.mk.inj hr).1.symm
    simp only [errR]
    clear hs s2 s3 s4 s13 hb1 h ho hne c1 hr
    go_enter Tryd.func18, Tryd.ntmps18
    go_wp2_with (first
      | (go_at_call 43; refine (HR.out _).mono ?_; rintro q w2 ⟨rfl, hb2⟩; have HB2 := hide (HB1.out.trans (hb2.mono HB1z.out)); have g3 := HS4.out _ HB2.out; clear hb2)
      | fail)
    go_ret
    exact ⟨rfl, HB2.out⟩
end Go.Proofs.YtplpakdbahlgaaaDoor

namespace Go.Proofs.YtplpakdbahlgaaaDoor
open Go.RowKit Go.Lib

/-- What is known where the pair is to be appended. -/
structure AtPush (w : World) (X : Nat) (l : List Ep.Pr) (S : Nat → Prop) (e s : Int) (W : World) : Prop where
  ex : ∃ v, EpL W X v l (Up S w W)
  chg : Chg S w W
  y0 : W.cell? ⟨w.heap.size, 0, none⟩ = some (.int .i64 e)
  y1 : W.cell? ⟨w.heap.size, 1, none⟩ = some (.int .i64 s)
theorem AtPush.fin {w W W' : World} {X : Nat} {v' : Value} {l m : List Ep.Pr} {S : Nat → Prop} {e s : Int} (h : AtPush w X l S e s W) (hl : EpL W' X v' m (Up (Up S w W) W W')) (hc : Chg (Up S w W) W W') : EpAt W' X m (Up S w W') ∧ Chg S w W' :=
  ⟨⟨v', hl.mono (up_up h.chg.size hc.size)⟩, h.chg.up hc⟩

set_option maxRecDepth 100000 in
set_option maxHeartbeats 2000000 in
/-- Begin of a lineage that has nothing. -/
theorem epBegin_first (X : Nat) (S : Nat → Prop) (e s : Int) (w : World) (h : EpAt w X [] S) (hS : ∀ k, S k → k < w.heap.size) (hr : Ep.right ⟨e, s⟩) :
    Calls Tryd.prog 18 #[.pointer (some ⟨X, 0, none⟩), .int .i64 e, .int .i64 s] w fun q w' => q = .returned .nilIface ∧ EpAt w' X [⟨e, s⟩] (Up S w w') ∧ Chg S w w' := by
  have ho := Ep.Ok.nil
  obtain ⟨l, hl0⟩ : ∃ l : List Ep.Pr, l = [] := ⟨_, rfl⟩
  rw [← hl0] at h ho
  have hS' : ¬ S w.heap.size := fun k => Nat.lt_irrefl _ (hS _ k)
  obtain ⟨W1, hW1⟩ : ∃ W1, W1 = w.alloc (.cells #[.int .i64 e, .int .i64 s] 59) := ⟨_, rfl⟩
  have hb1 : Below w.heap.size w W1 := by rw [hW1]; exact balloc (Below.refl _ _) _
  have hz1 : w.heap.size < W1.heap.size := by rw [hW1]; simp
  have y0 : W1.cell? ⟨w.heap.size, 0, none⟩ = some (.int .i64 e) := by rw [hW1, World.cell?_alloc_mark]; rfl
  have y1 : W1.cell? ⟨w.heap.size, 1, none⟩ = some (.int .i64 s) := by rw [hW1, World.cell?_alloc_mark]; rfl
  have HR := hide (fun V => epRight_any ⟨e, s⟩ V)
  rw [decide_eq_true hr] at HR
  have HL := hide (fun V (hb : Below W1.heap.size W1 V) => epLast_any X l S V ((h.below hb1).below hb) ho)
  have HPU : Hid (∀ V, Below W1.heap.size W1 V → AtPush w X l S e s V) := hide fun V hb => by
    obtain ⟨v, hl⟩ := h
    exact ⟨⟨v, ((hl.below hb1).below hb).mono up_self⟩, Chg.of_below (hb1.trans (hb.mono hb1.size)), (hb.cell (p := ⟨w.heap.size, 0, none⟩) hz1).trans y0, (hb.cell (p := ⟨w.heap.size, 1, none⟩) hz1).trans y1⟩
  have HW1 := hide hW1
  have hlen := ho.len
  have HLEN : Hid (l.length ≤ 256) := hide hlen
  have e1 : Ep.last l = ⟨0, 0⟩ := by rw [hl0]; rfl
  rw [e1, decide_eq_false (show ¬ 0 < l.length by rw [hl0]; simp)] at HL
  have HL0 := hide hl0
  have em : [(⟨e, s⟩ : Ep.Pr)] = l ++ [⟨e, s⟩] := by rw [hl0]; rfl
  rw [em]
  clear h hS hr ho hW1 hb1 hl0 hlen hz1 hS' e1 em
  go_enter Tryd.func18, Tryd.ntmps18
  go_upto_region 2 with fail
  rw [← HW1.out]
  go_upto_region 6 with (first
    | (go_at_call 43; refine (HR.out _).mono ?_; rintro q w2 ⟨rfl, hb2⟩; have HB2 := hide hb2; clear hb2)
    | (go_at_call 34; refine (HL.out _ HB2.out).mono ?_; rintro q w3 ⟨rfl, hb3⟩; have HB3 := hide (HB2.out.trans (hb3.mono HB2.out.size)); clear hb3)
    | fail)
  have HB4 := hide (balloc HB3.out (.cells #[.int .i64 0, .int .i64 0] 59))
  obtain ⟨W5, hW5⟩ : ∃ W5, W5 = w3.alloc (.cells #[.int .i64 0, .int .i64 0] 59) := ⟨_, rfl⟩
  rw [← hW5] at HB4 ⊢
  have HP := hide (HPU.out _ HB4.out)
  clear hW5
  obtain ⟨v, hl5⟩ := HP.out.ex
  have HL5 := hide hl5
  have HBA : Hid (Below W5.heap.size W5 (W5.drew.alloc (.cells #[.int .i64 e, .int .i64 s] 59))) := hide (balloc (Below.refl W5.heap.size W5).drew _)
  have a2 : W5.cell? ⟨X, 0, none⟩ = some v := box_cell hl5.box 0
  have a22 : (W5.alloc (.cells #[.int .i64 e, .int .i64 s] 59)).cell? ⟨X, 0, none⟩ = some v := ((balloc (Below.refl W5.heap.size W5) _).cell (p := ⟨X, 0, none⟩) (World.block_lt_of_cell? _ _ a2)).trans a2
  clear y0 y1
  have y0 := HP.out.y0
  have y1 := HP.out.y1
  clear hl5
  go_region_law (refine step_appR (by rfl) 22 59 2 16 _ (by kernel_rfl) pair_info (by rfl) (by omega) (.tmp 28) (.tmp 30) (by rfl) 0 v _ _ (by rfl) (ownsRow_same HL5.out.own fun g hg => HBA.out.block g (HL5.out.own.lt g hg).2) ⟨W5.heap.size, 0, none⟩ 1 1 (prCells ⟨e, s⟩) (by rfl) (by rfl) (news2 (w := W5.drew)) (by intro u hu; simp at hu; rcases hu with rfl | rfl <;> rfl) (by have := HLEN.out; simp [maxLen]; omega) (by have := HLEN.out; omega) (Nat.zero_le _) ?_; intro v4 w4 ho4 hg4 hv4; obtain ⟨A4, n4, k4, e4⟩ := own_slice ho4; subst e4; have hb4 := HL5.out.boxed HBA.out hg4 HL5.out.ne; have a4 : w4.cell? ⟨X, 0, none⟩ = some v := box_cell hb4 0; have f4 := box_free hb4 0; have HPA := hide (HL5.out.push HBA.out ⟨e, s⟩ ho4 hg4 hv4); clear ho4 hg4 hv4 hb4)
  all_goals
    go_wp2_with fail
    go_ret
    exact ⟨rfl, HP.out.fin HPA.out.1 HPA.out.2⟩

set_option maxRecDepth 100000 in
set_option maxHeartbeats 2000000 in
/-- Begin of a greater epoch. -/
theorem epBegin_more (X : Nat) (l : List Ep.Pr) (S : Nat → Prop) (e s : Int) (w : World) (h : EpAt w X l S) (hS : ∀ k, S k → k < w.heap.size) (ho : Ep.Ok l) (hr : Ep.right ⟨e, s⟩) (h0 : l ≠ []) (h1 : (Ep.last l).ep < e) (h2 : (Ep.last l).st < s) (h3 : l.length < 256) :
    Calls Tryd.prog 18 #[.pointer (some ⟨X, 0, none⟩), .int .i64 e, .int .i64 s] w fun q w' => q = .returned .nilIface ∧ EpAt w' X (l ++ [⟨e, s⟩]) (Up S w w') ∧ Chg S w w' := by
  have hS' : ¬ S w.heap.size := fun k => Nat.lt_irrefl _ (hS _ k)
  obtain ⟨W1, hW1⟩ : ∃ W1, W1 = w.alloc (.cells #[.int .i64 e, .int .i64 s] 59) := ⟨_, rfl⟩
  have hb1 : Below w.heap.size w W1 := by rw [hW1]; exact balloc (Below.refl _ _) _
  have hz1 : w.heap.size < W1.heap.size := by rw [hW1]; simp
  have y0 : W1.cell? ⟨w.heap.size, 0, none⟩ = some (.int .i64 e) := by rw [hW1, World.cell?_alloc_mark]; rfl
  have y1 : W1.cell? ⟨w.heap.size, 1, none⟩ = some (.int .i64 s) := by rw [hW1, World.cell?_alloc_mark]; rfl
  have HR := hide (fun V => epRight_any ⟨e, s⟩ V)
  rw [decide_eq_true hr] at HR
  have HL := hide (fun V (hb : Below W1.heap.size W1 V) => epLast_any X l S V ((h.below hb1).below hb) ho)
  have HPU : Hid (∀ V, Below W1.heap.size W1 V → AtPush w X l S e s V) := hide fun V hb => by
    obtain ⟨v, hl⟩ := h
    exact ⟨⟨v, ((hl.below hb1).below hb).mono up_self⟩, Chg.of_below (hb1.trans (hb.mono hb1.size)), (hb.cell (p := ⟨w.heap.size, 0, none⟩) hz1).trans y0, (hb.cell (p := ⟨w.heap.size, 1, none⟩) hz1).trans y1⟩
  have HW1 := hide hW1
  have hlen := ho.len
  have HLEN : Hid (l.length ≤ 256) := hide hlen
  rw [decide_eq_true (List.length_pos_iff.2 h0)] at HL
  have HCX : Hid (∀ V, Below W1.heap.size W1 V → ∃ A c, V.cell? ⟨X, 0, none⟩ = some (.slice A l.length c)) := hide fun V hb => by
    obtain ⟨v, hl⟩ := h
    obtain ⟨A, c, -, -, -, cX⟩ := ((hl.below hb1).below hb).cells
    exact ⟨A, c, cX⟩
  have d6 : decide ((256 : Int) ≤ l.length) = false := decide_eq_false (by omega)
  generalize Ep.last l = q at *
  obtain ⟨le, ls⟩ := q
  simp only at h1 h2
  have d3 : decide (e < le) = false := decide_eq_false (by omega)
  have d4 : (e == le) = false := by rw [beq_eq_false_iff_ne]; omega
  have d5 : decide (s < ls) = false := decide_eq_false (by omega)
  have d7 : (s == ls) = false := by rw [beq_eq_false_iff_ne]; omega
  clear h hS hr ho hW1 hb1 h0 h1 h2 h3 hlen hz1 hS'
  go_enter Tryd.func18, Tryd.ntmps18
  go_upto_region 2 with fail
  rw [← HW1.out]
  go_upto_region 18 with (first
    | (go_at_call 43; refine (HR.out _).mono ?_; rintro q w2 ⟨rfl, hb2⟩; have HB2 := hide hb2; clear hb2)
    | (go_at_call 34; refine (HL.out _ HB2.out).mono ?_; rintro q w3 ⟨rfl, hb3⟩; have HB3 := hide (HB2.out.trans (hb3.mono HB2.out.size)); have HB4 := hide (balloc HB3.out (.cells #[.int .i64 le, .int .i64 ls] 59)); obtain ⟨A4, c4, cX4⟩ := HCX.out _ HB4.out; clear hb3)
    | fail)
  obtain ⟨W5, hW5⟩ : ∃ W5, W5 = w3.alloc (.cells #[.int .i64 le, .int .i64 ls] 59) := ⟨_, rfl⟩
  rw [← hW5] at HB4 ⊢
  have HP := hide (HPU.out _ HB4.out)
  clear hW5 cX4
  obtain ⟨v, hl5⟩ := HP.out.ex
  have HL5 := hide hl5
  have HBA : Hid (Below W5.heap.size W5 (W5.drew.alloc (.cells #[.int .i64 e, .int .i64 s] 59))) := hide (balloc (Below.refl W5.heap.size W5).drew _)
  have a2 : W5.cell? ⟨X, 0, none⟩ = some v := box_cell hl5.box 0
  have a22 : (W5.alloc (.cells #[.int .i64 e, .int .i64 s] 59)).cell? ⟨X, 0, none⟩ = some v := ((balloc (Below.refl W5.heap.size W5) _).cell (p := ⟨X, 0, none⟩) (World.block_lt_of_cell? _ _ a2)).trans a2
  clear y0 y1
  have y0 := HP.out.y0
  have y1 := HP.out.y1
  clear hl5
  go_region_law (refine step_appR (by rfl) 22 59 2 16 _ (by kernel_rfl) pair_info (by rfl) (by omega) (.tmp 71) (.tmp 73) (by rfl) 0 v _ _ (by rfl) (ownsRow_same HL5.out.own fun g hg => HBA.out.block g (HL5.out.own.lt g hg).2) ⟨W5.heap.size, 0, none⟩ 1 1 (prCells ⟨e, s⟩) (by rfl) (by rfl) (news2 (w := W5.drew)) (by intro u hu; simp at hu; rcases hu with rfl | rfl <;> rfl) (by have := HLEN.out; simp [maxLen]; omega) (by have := HLEN.out; omega) (Nat.zero_le _) ?_; intro v4 w4 ho4 hg4 hv4; obtain ⟨A4, n4, k4, e4⟩ := own_slice ho4; subst e4; have hb4 := HL5.out.boxed HBA.out hg4 HL5.out.ne; have a4 : w4.cell? ⟨X, 0, none⟩ = some v := box_cell hb4 0; have f4 := box_free hb4 0; have HPA := hide (HL5.out.push HBA.out ⟨e, s⟩ ho4 hg4 hv4); clear ho4 hg4 hv4 hb4)
  all_goals
    go_wp2_with fail
    go_ret
    exact ⟨rfl, HP.out.fin HPA.out.1 HPA.out.2⟩

set_option maxRecDepth 100000 in
set_option maxHeartbeats 2000000 in
/-- Begin where the last one begins: it gives way. -/
theorem epBegin_over (X : Nat) (l : List Ep.Pr) (S : Nat → Prop) (e s : Int) (w : World) (h : EpAt w X l S) (hS : ∀ k, S k → k < w.heap.size) (ho : Ep.Ok l) (hr : Ep.right ⟨e, s⟩) (h0 : l ≠ []) (h1 : (Ep.last l).ep < e) (h2 : (Ep.last l).st = s) (h3 : l.length < 256) :
    Calls Tryd.prog 18 #[.pointer (some ⟨X, 0, none⟩), .int .i64 e, .int .i64 s] w fun q w' => q = .returned .nilIface ∧ EpAt w' X (Ep.cutEnd l s ++ [⟨e, s⟩]) (Up S w w') ∧ Chg S w w' := by
  have hS' : ¬ S w.heap.size := fun k => Nat.lt_irrefl _ (hS _ k)
  obtain ⟨W1, hW1⟩ : ∃ W1, W1 = w.alloc (.cells #[.int .i64 e, .int .i64 s] 59) := ⟨_, rfl⟩
  have hb1 : Below w.heap.size w W1 := by rw [hW1]; exact balloc (Below.refl _ _) _
  have hz1 : w.heap.size < W1.heap.size := by rw [hW1]; simp
  have y0 : W1.cell? ⟨w.heap.size, 0, none⟩ = some (.int .i64 e) := by rw [hW1, World.cell?_alloc_mark]; rfl
  have y1 : W1.cell? ⟨w.heap.size, 1, none⟩ = some (.int .i64 s) := by rw [hW1, World.cell?_alloc_mark]; rfl
  have HR := hide (fun V => epRight_any ⟨e, s⟩ V)
  rw [decide_eq_true hr] at HR
  have HL := hide (fun V (hb : Below W1.heap.size W1 V) => epLast_any X l S V ((h.below hb1).below hb) ho)
  have HPU : Hid (∀ V, Below W1.heap.size W1 V → AtPush w X l S e s V) := hide fun V hb => by
    obtain ⟨v, hl⟩ := h
    exact ⟨⟨v, ((hl.below hb1).below hb).mono up_self⟩, Chg.of_below (hb1.trans (hb.mono hb1.size)), (hb.cell (p := ⟨w.heap.size, 0, none⟩) hz1).trans y0, (hb.cell (p := ⟨w.heap.size, 1, none⟩) hz1).trans y1⟩
  have HW1 := hide hW1
  have hlen := ho.len
  have HLEN : Hid ((Ep.cutEnd l s).length ≤ 256) := hide (by rw [Ep.len_cutEnd]; have := Ep.ahead_le l s; omega)
  rw [decide_eq_true (List.length_pos_iff.2 h0)] at HL
  have HCX : Hid (∀ V, Below W1.heap.size W1 V → ∃ A c, V.cell? ⟨X, 0, none⟩ = some (.slice A l.length c)) := hide fun V hb => by
    obtain ⟨v, hl⟩ := h
    obtain ⟨A, c, -, -, -, cX⟩ := ((hl.below hb1).below hb).cells
    exact ⟨A, c, cX⟩
  have HCU : Hid (∀ V, Below W1.heap.size W1 V → Calls Tryd.prog 19 #[.pointer (some ⟨X, 0, none⟩), .int .i64 s] V fun q w' => q = .returned (.tuple #[]) ∧ AtPush w X (Ep.cutEnd l s) S e s w') := hide fun V hb => by
    have hp := HPU.out V hb
    have hbV := hb1.trans (hb.mono hb1.size)
    refine (epCutEnd_any X l S s V ((h.below hb1).below hb) ho).mono ?_
    rintro q w' ⟨rfl, ⟨v, hl⟩, hc⟩
    exact ⟨rfl, ⟨v, hl.mono fun k hk => hk.imp id fun t => ⟨Nat.le_trans hbV.size t.1, t.2⟩⟩, hp.chg.then hc, hc.cell hp.y0 hS', hc.cell hp.y1 hS'⟩
  have d6 : decide ((256 : Int) ≤ l.length) = false := decide_eq_false (by omega)
  generalize Ep.cutEnd l s = m at *
  generalize Ep.last l = q at *
  obtain ⟨le, ls⟩ := q
  simp only at h1 h2
  subst h2
  have d3 : decide (e < le) = false := decide_eq_false (by omega)
  have d4 : (e == le) = false := by rw [beq_eq_false_iff_ne]; omega
  have d5 : decide (ls < ls) = false := decide_eq_false (by omega)
  have d7 : (ls == ls) = true := by rw [beq_iff_eq]
  clear h hS hr ho hW1 hb1 h0 h1 h3 hlen hz1 hS' HPU
  go_enter Tryd.func18, Tryd.ntmps18
  go_upto_region 2 with fail
  rw [← HW1.out]
  go_upto_region 18 with (first
    | (go_at_call 43; refine (HR.out _).mono ?_; rintro q w2 ⟨rfl, hb2⟩; have HB2 := hide hb2; clear hb2)
    | (go_at_call 34; refine (HL.out _ HB2.out).mono ?_; rintro q w3 ⟨rfl, hb3⟩; have HB3 := hide (HB2.out.trans (hb3.mono HB2.out.size)); have HB4 := hide (balloc HB3.out (.cells #[.int .i64 le, .int .i64 ls] 59)); obtain ⟨A4, c4, cX4⟩ := HCX.out _ HB4.out; clear hb3)
    | (go_at_call 19; refine (HCU.out _ HB4.out).mono ?_; rintro q W5 ⟨rfl, hp5⟩; have HP := hide hp5; clear hp5)
    | fail)
  obtain ⟨v, hl5⟩ := HP.out.ex
  have HL5 := hide hl5
  have HBA : Hid (Below W5.heap.size W5 (W5.drew.alloc (.cells #[.int .i64 e, .int .i64 ls] 59))) := hide (balloc (Below.refl W5.heap.size W5).drew _)
  have a2 : W5.cell? ⟨X, 0, none⟩ = some v := box_cell hl5.box 0
  have a22 : (W5.alloc (.cells #[.int .i64 e, .int .i64 ls] 59)).cell? ⟨X, 0, none⟩ = some v := ((balloc (Below.refl W5.heap.size W5) _).cell (p := ⟨X, 0, none⟩) (World.block_lt_of_cell? _ _ a2)).trans a2
  clear y0 y1
  have y0 := HP.out.y0
  have y1 := HP.out.y1
  clear hl5
  go_region_law (refine step_appR (by rfl) 22 59 2 16 _ (by kernel_rfl) pair_info (by rfl) (by omega) (.tmp 71) (.tmp 73) (by rfl) 0 v _ _ (by rfl) (ownsRow_same HL5.out.own fun g hg => HBA.out.block g (HL5.out.own.lt g hg).2) ⟨W5.heap.size, 0, none⟩ 1 1 (prCells ⟨e, ls⟩) (by rfl) (by rfl) (news2 (w := W5.drew)) (by intro u hu; simp at hu; rcases hu with rfl | rfl <;> rfl) (by have := HLEN.out; simp [maxLen]; omega) (by have := HLEN.out; omega) (Nat.zero_le _) ?_; intro v4 w4 ho4 hg4 hv4; obtain ⟨A4, n4, k4, e4⟩ := own_slice ho4; subst e4; have hb4 := HL5.out.boxed HBA.out hg4 HL5.out.ne; have a4 : w4.cell? ⟨X, 0, none⟩ = some v := box_cell hb4 0; have f4 := box_free hb4 0; have HPA := hide (HL5.out.push HBA.out ⟨e, ls⟩ ho4 hg4 hv4); clear ho4 hg4 hv4 hb4)
  all_goals
    go_wp2_with fail
    go_ret
    exact ⟨rfl, HP.out.fin HPA.out.1 HPA.out.2⟩

/-- Begin. -/
theorem epBegin_any (X : Nat) (l : List Ep.Pr) (S : Nat → Prop) (e s : Int) (w : World) (p : Nat → Addr) (hs : Sents4B w p) (h : EpAt w X l S) (hS : ∀ k, S k → k < w.heap.size) (ho : Ep.Ok l) :
    Calls Tryd.prog 18 #[.pointer (some ⟨X, 0, none⟩), .int .i64 e, .int .i64 s] w fun q w' => q = .returned (errR p (Ep.begin l e s).1) ∧ EpAt w' X (Ep.begin l e s).2 (Up S w w') ∧ Chg S w w' := by
  have keep : ∀ r, Ep.begin l e s = (r, l) → ¬ (Ep.right ⟨e, s⟩ ∧ l = []) → Calls Tryd.prog 18 #[.pointer (some ⟨X, 0, none⟩), .int .i64 e, .int .i64 s] w fun q w' => q = .returned (errR p (Ep.begin l e s).1) ∧ EpAt w' X (Ep.begin l e s).2 (Up S w w') ∧ Chg S w w' := fun r hr hne => by
    rw [hr]
    refine (epBegin_keep X l S e s w p hs h ho r hr hne).mono ?_
    rintro q w' ⟨rfl, hb⟩
    exact ⟨rfl, (h.below hb).mono up_self, Chg.of_below hb⟩
  by_cases c1 : Ep.right ⟨e, s⟩
  · by_cases c2 : l = []
    · have hb : Ep.begin l e s = (none, [⟨e, s⟩]) := by unfold Ep.begin; rw [if_neg (fun k => k c1), if_pos c2]
      rw [hb]
      subst c2
      exact epBegin_first X S e s w h hS c1
    · by_cases c3 : e < (Ep.last l).ep
      · exact keep (some 13) (by unfold Ep.begin; rw [if_neg (fun k => k c1), if_neg c2, if_pos c3]) (fun k => c2 k.2)
      · by_cases c4 : e = (Ep.last l).ep
        · exact keep none (by unfold Ep.begin; rw [if_neg (fun k => k c1), if_neg c2, if_neg c3, if_pos c4]) (fun k => c2 k.2)
        · by_cases c5 : s < (Ep.last l).st
          · exact keep (some 2) (by unfold Ep.begin; rw [if_neg (fun k => k c1), if_neg c2, if_neg c3, if_neg c4, if_pos c5]) (fun k => c2 k.2)
          · by_cases c6 : 256 ≤ l.length
            · exact keep (some 3) (by unfold Ep.begin; rw [if_neg (fun k => k c1), if_neg c2, if_neg c3, if_neg c4, if_neg c5, if_pos c6]) (fun k => c2 k.2)
            · by_cases c7 : s = (Ep.last l).st
              · have hb : Ep.begin l e s = (none, Ep.cutEnd l s ++ [⟨e, s⟩]) := by unfold Ep.begin; rw [if_neg (fun k => k c1), if_neg c2, if_neg c3, if_neg c4, if_neg c5, if_neg c6, if_pos c7]
                rw [hb]
                exact epBegin_over X l S e s w h hS ho c1 c2 (by omega) c7.symm (by omega)
              · have hb : Ep.begin l e s = (none, l ++ [⟨e, s⟩]) := by unfold Ep.begin; rw [if_neg (fun k => k c1), if_neg c2, if_neg c3, if_neg c4, if_neg c5, if_neg c6, if_neg c7]
                rw [hb]
                exact epBegin_more X l S e s w h hS ho c1 c2 (by omega) (by omega) (by omega)
  · exact keep (some 4) (by unfold Ep.begin; rw [if_pos c1]) (fun k => c1 k.1)
end Go.Proofs.YtplpakdbahlgaaaDoor

namespace Go.Proofs.YtplpakdbahlgaaaDoor
open Go.RowKit

set_option maxRecDepth 100000 in
theorem samePair_eq (p : Ep.Pr) (w : World) : Calls Tryd.prog 47 #[prV p, prV p] w fun r w' => r = .returned (.bool true) ∧ Below w.heap.size w w' := by
  obtain ⟨e, s⟩ := p
  have b1 : (e == e) = true := by rw [beq_iff_eq]
  have b2 : (s == s) = true := by rw [beq_iff_eq]
  go_enter Tryd.func47, Tryd.ntmps47
  go_wp2_with fail
  go_ret
  exact ⟨rfl, balloc (balloc (Below.refl _ _) _) _⟩

set_option maxRecDepth 100000 in
set_option maxHeartbeats 2000000 in
theorem samePairs_eq (A A' : Option Addr) (c c' n : Nat) (l : List Ep.Pr) (w : World) (hn : l.length = n) (hl : n ≤ 1000000) (h : PrAt w A c l) (h' : PrAt w A' c' l) :
    Calls Tryd.prog 23 #[.slice A n c, .slice A' n c'] w fun r w' => r = .returned (.bool true) ∧ Below w.heap.size w w' := by
  subst hn
  have HA := hide h
  have HA' := hide h'
  have hle := h.le
  have hle' := h'.le
  have u1 : ((l.length : Int) != l.length) = false := by simp
  clear h h'
  generalize hn : l.length = n at *
  have HN := hide hn
  clear hn
  go_enter Tryd.func23, Tryd.ntmps23
  go_wp2_with fail
  go_loopw [5] (fun i wr => ∃ k : Nat, k ≤ n ∧ i = .int .i64 k ∧ Below w.heap.size w wr) (fun i _ => n - (intOf i).toNat)
  case atStart => exact ⟨0, Nat.zero_le _, rfl, Below.refl _ _⟩
  case round =>
    obtain ⟨k, hk, rfl, hb⟩ := hrel
    have HBK := hide hb
    by_cases hlt : k < n
    · obtain ⟨g, f, rfl, hg, k0, k1⟩ := (HA.out.below hb).at_ k (by rw [HN.out]; exact hlt)
      obtain ⟨g', f', rfl, hg', k0', k1'⟩ := (HA'.out.below hb).at_ k (by rw [HN.out]; exact hlt)
      have HS := hide (fun V => samePair_eq (Ep.pr l k) V)
      have d1 : decide ((k : Int) < n) = true := decide_eq_true (by omega)
      generalize Ep.pr l k = q at *
      obtain ⟨pe, ps⟩ := q
      simp only at k0 k1 k0' k1'
      clear hb
      go_upto_region 6 with fail
      refine wp_region_guard (G := fun a b : World => Below a.heap.size a b) ⟨fun w => Below.refl _ w, fun h k => h.trans (k.mono h.size)⟩ [18, 19, 20, 21, 22, 23, 24, 25, 26, 6] (fun d => match d with
    | 18 => .is (.slice (some ⟨g, f, none⟩) n c) | 19 => .is (.int .i64 k) | 20 => .is (.pointer (some ⟨g, f + k * 2, none⟩)) | 21 => .is (.agg #[.int .i64 pe, .int .i64 ps]) | 22 => .is (.slice (some ⟨g', f', none⟩) n c') | 23 => .is (.int .i64 k) | 24 => .is (.pointer (some ⟨g', f' + k * 2, none⟩)) | 25 => .is (.agg #[.int .i64 pe, .int .i64 ps]) | 26 => .is (.bool true) | 6 => .is (.bool true) | _ => .is undef) (by kernel_rfl) (by kernel_rfl) (by kernel_rfl) ?_ ?_
      · simp only [StepsG]
        refine ⟨?_, ?_, ?_, ?_, ?_, ?_, ?_, ?_, ?_, ?_, trivial⟩
        all_goals
          intro ev w6 hb hev hd
          have ev0 : ev (.tmp 0) = .slice (some ⟨g, f, none⟩) n c := hev _ (by simp)
          have ev1 : ev (.tmp 1) = .slice (some ⟨g', f', none⟩) n c' := hev _ (by simp)
          have ev5 : ev (.tmp 5) = .int .i64 k := hev _ (by simp)
          have evf : ∀ f, ev (.func f) = .func (.func f) #[] #[] := fun f => hev _ (by simp)
          have evc : ∀ c, ev (.const c) = c := fun c => hev _ (by simp)
          have HB6 : Hid (Below wr.heap.size wr w6) := hide ((Below.refl wr.heap.size wr).drew.trans hb)
          have j0 := (HB6.out.cell (World.block_lt_of_cell? _ _ k0)).trans k0
          have j1 := (HB6.out.cell (World.block_lt_of_cell? _ _ k1)).trans k1
          have j0' := (HB6.out.cell (World.block_lt_of_cell? _ _ k0')).trans k0'
          have j1' := (HB6.out.cell (World.block_lt_of_cell? _ _ k1')).trans k1'
          clear hev hb k0 k1 k0' k1'
          simp [DepsG, Held.is] at hd
          try simp [OpGuard, OpRuns, execOp, go_sem, Held.is, Below.refl, *]
        exact HS.out w6
      · intro f w9 hb hf
        have e6 : f 6 = .bool true := hf 6 (by simp)
        have HB9 : Hid (Below wr.heap.size wr w9) := hide ((Below.refl wr.heap.size wr).drew.trans hb)
        clear hf hb
        simp only [puts, Act.put, List.setIfInBounds_toArray, List.set_cons_succ, List.set_cons_zero]
        rw [e6]
        clear e6
        generalize f 18 = q18
        generalize f 19 = q19
        generalize f 20 = q20
        generalize f 21 = q21
        generalize f 22 = q22
        generalize f 23 = q23
        generalize f 24 = q24
        generalize f 25 = q25
        generalize f 26 = q26
        clear f
        go_wp2_with fail
        go_roundw
        case rel => exact ⟨k + 1, by omega, by go_num, HBK.out.trans (HB9.out.mono HBK.out.size)⟩
        case measure => simp [intOf]; omega
    · obtain rfl : k = n := by omega
      have d1 : decide ((k : Int) < k) = false := decide_eq_false (by omega)
      clear hb
      go_wp2_with fail
      go_ret
      exact ⟨rfl, HBK.out⟩
end Go.Proofs.YtplpakdbahlgaaaDoor

namespace Go.Proofs.YtplpakdbahlgaaaDoor
open Go.RowKit

/-- Lineages in memory made since w0, each with blocks of its own; rows of pairs that none of them holds. -/
structure Lns (w0 : World) (L : List (Nat × List Ep.Pr)) (R : List (Option Addr × Nat × List Ep.Pr)) (w : World) : Prop where
  ex : ∃ S : Nat → Nat → Prop, (∀ (i : Nat) (x : Nat × List Ep.Pr), L[i]? = some x → EpAt w x.1 x.2 (S i)) ∧ (∀ i k, i < L.length → S i k → w0.heap.size ≤ k ∧ k < w.heap.size) ∧ (∀ i j k, i < L.length → j < L.length → i ≠ j → S i k → ¬ S j k) ∧
    ∀ r ∈ R, PrAt w r.1 r.2.1 r.2.2 ∧ ∀ g o, r.1 = some ⟨g, o, none⟩ → r.2.2 = [] ∨ (g < w.heap.size ∧ ∀ i, i < L.length → ¬ S i g)
  ok : ∀ (i : Nat) (x : Nat × List Ep.Pr), L[i]? = some x → Ep.Ok x.2
  bel : Below w0.heap.size w0 w
section
variable {w0 w w' : World} {L : List (Nat × List Ep.Pr)} {R : List (Option Addr × Nat × List Ep.Pr)}
theorem Lns.nil (hb : Below w0.heap.size w0 w) : Lns w0 [] [] w := ⟨⟨fun _ _ => False, fun i x h => by simp at h, fun i k h => by simp at h, fun i j k h => by simp at h, fun r h => by simp at h⟩, fun i x h => by simp at h, hb⟩
theorem Lns.below (h : Lns w0 L R w) (hb : Below w.heap.size w w') : Lns w0 L R w' := by
  obtain ⟨S, h1, h2, h3, h4⟩ := h.ex
  refine ⟨⟨S, fun i x hx => (h1 i x hx).below hb, fun i k hi hk => ⟨(h2 i k hi hk).1, Nat.lt_of_lt_of_le (h2 i k hi hk).2 hb.size⟩, h3, fun r hr => ⟨(h4 r hr).1.below hb, fun g o e => ?_⟩⟩, h.ok, h.bel.trans (hb.mono h.bel.size)⟩
  rcases (h4 r hr).2 g o e with k | ⟨k1, k2⟩
  · exact .inl k
  · exact .inr ⟨Nat.lt_of_lt_of_le k1 hb.size, k2⟩
theorem Lns.row (h : Lns w0 L R w) (j : Nat) {r : Option Addr × Nat × List Ep.Pr} (hr : R[j]? = some r) : PrAt w r.1 r.2.1 r.2.2 := by
  obtain ⟨S, h1, h2, h3, h4⟩ := h.ex
  exact (h4 r (List.mem_of_getElem? hr)).1
/-- A new lineage. -/
theorem Lns.add (h : Lns w0 L R w) (hb : Below w.heap.size w w') {Y : Nat} {m : List Ep.Pr} (hy : EpAt w' Y m (fun k => w.heap.size ≤ k ∧ k < w'.heap.size)) (hm : Ep.Ok m) : Lns w0 (L ++ [(Y, m)]) R w' := by
  have hz := h.bel.size
  have h' := h.below hb
  obtain ⟨S, h1, h2, h3, h4⟩ := h.ex
  have hlt : ∀ i x, (L ++ [(Y, m)])[i]? = some x → (i < L.length ∧ L[i]? = some x) ∨ (i = L.length ∧ x = (Y, m)) := fun i x hx => by
    rcases Nat.lt_or_ge i L.length with k | k
    · rw [List.getElem?_append_left k] at hx; exact .inl ⟨k, hx⟩
    · rw [List.getElem?_append_right k] at hx
      have : i - L.length = 0 := by
        rcases Nat.eq_zero_or_pos (i - L.length) with e | e
        · exact e
        · rw [List.getElem?_eq_none (by simp; omega)] at hx; cases hx
      rw [this] at hx
      simp at hx
      exact .inr ⟨by omega, hx.symm⟩
  refine ⟨⟨fun i k => if i < L.length then S i k else w.heap.size ≤ k ∧ k < w'.heap.size, fun i x hx => ?_, fun i k hi hk => ?_, fun i j k hi hj hij h5 h6 => ?_, fun r hr => ⟨(h4 r hr).1.below hb, fun g o e => ?_⟩⟩, fun i x hx => ?_, h'.bel⟩
  · rcases hlt i x hx with ⟨k, k2⟩ | ⟨k, k2⟩
    · exact ((h1 i x k2).below hb).mono fun b hb => by dsimp only; rw [if_pos k]; exact hb
    · subst k2; subst k; exact hy.mono fun b hb => by dsimp only; rw [if_neg (by omega)]; exact hb
  · dsimp only at hk
    split at hk
    · rename_i k0; exact ⟨(h2 i k k0 hk).1, Nat.lt_of_lt_of_le (h2 i k k0 hk).2 hb.size⟩
    · exact ⟨by omega, hk.2⟩
  · simp only [List.length_append, List.length_cons, List.length_nil] at hi hj
    dsimp only at h5 h6
    split at h5
    · rename_i k0
      split at h6
      · rename_i k1; exact h3 i j k k0 k1 hij h5 h6
      · have := (h2 i k k0 h5).2; omega
    · rename_i k0
      split at h6
      · rename_i k1; have := (h2 j k k1 h6).2; omega
      · omega
  · rcases (h4 r hr).2 g o e with k | ⟨k1, k2⟩
    · exact .inl k
    · refine .inr ⟨Nat.lt_of_lt_of_le k1 hb.size, fun i hi hs => ?_⟩
      dsimp only at hs
      split at hs
      · rename_i k0; exact k2 i k0 hs
      · omega
  · rcases hlt i x hx with ⟨k, k2⟩ | ⟨k, k2⟩
    · exact h.ok i x k2
    · rw [k2]; exact hm
/-- A new row. -/
theorem Lns.addRow (h : Lns w0 L R w) (hb : Below w.heap.size w w') {v : Value} {m : List Ep.Pr} (hv : OwnP w' w.heap.size v m) : ∃ A c, v = .slice A m.length c ∧ (A = none → m = [] ∧ c = 0) ∧ Lns w0 L (R ++ [(A, c, m)]) w' := by
  obtain ⟨A, c, rfl, hp, h0, hA⟩ := pairs_at hv
  have h' := h.below hb
  obtain ⟨S, h1, h2, h3, h4⟩ := h.ex
  refine ⟨A, c, rfl, h0, ⟨⟨S, fun i x hx => (h1 i x hx).below hb, fun i k hi hk => ⟨(h2 i k hi hk).1, Nat.lt_of_lt_of_le (h2 i k hi hk).2 hb.size⟩, h3, fun r hr => ?_⟩, h.ok, h'.bel⟩⟩
  rcases List.mem_append.1 hr with hr | hr
  · refine ⟨(h4 r hr).1.below hb, fun g o e => ?_⟩
    rcases (h4 r hr).2 g o e with k | ⟨k1, k2⟩
    · exact .inl k
    · exact .inr ⟨Nat.lt_of_lt_of_le k1 hb.size, k2⟩
  · simp only [List.mem_singleton] at hr
    subst hr
    refine ⟨hp, fun g o e => ?_⟩
    rcases Nat.eq_zero_or_pos m.length with k | k
    · exact .inl (List.eq_nil_of_length_eq_zero k)
    · obtain ⟨g', o', e', hg, -⟩ := hp.at_ 0 k
      simp only at e
      obtain ⟨g2, e2, hlo⟩ := hA _ e
      injection e2 with e3
      rw [e] at e'
      injection e' with e'
      injection e' with e'
      refine .inr ⟨e' ▸ hg, fun i hi hs => ?_⟩
      have := (h2 i g hi hs).2
      omega
/-- A row from elsewhere: below all. -/
theorem Lns.addOld (h : Lns w0 L R w) {A : Option Addr} {c : Nat} {m : List Ep.Pr} (hp : PrAt w0 A c m) : Lns w0 L (R ++ [(A, c, m)]) w := by
  have hbel := h.bel
  have hok := h.ok
  obtain ⟨S, h1, h2, h3, h4⟩ := h.ex
  refine ⟨⟨S, h1, h2, h3, fun r hr => ?_⟩, hok, hbel⟩
  rcases List.mem_append.1 hr with hr | hr
  · exact h4 r hr
  · simp only [List.mem_singleton] at hr
    subst hr
    refine ⟨hp.below hbel, fun g o e => ?_⟩
    rcases Nat.eq_zero_or_pos m.length with k | k
    · exact .inl (List.eq_nil_of_length_eq_zero k)
    · obtain ⟨g', o', e', hg, -⟩ := hp.at_ 0 k
      simp only at e
      rw [e] at e'
      injection e' with e'
      injection e' with e'
      subst e'
      refine .inr ⟨Nat.lt_of_lt_of_le hg hbel.size, fun i hi hs => ?_⟩
      have := (h2 i g hi hs).1
      omega
/-- A row of new memory that is read from any place. -/
theorem Lns.addAt (h : Lns w0 L R w) (hb : Below w.heap.size w w') {A : Option Addr} {c : Nat} {m : List Ep.Pr} (hp : PrAt w' A c m) (hA : ∀ g o, A = some ⟨g, o, none⟩ → m = [] ∨ w.heap.size ≤ g) : Lns w0 L (R ++ [(A, c, m)]) w' := by
  have h' := h.below hb
  obtain ⟨S, h1, h2, h3, h4⟩ := h.ex
  refine ⟨⟨S, fun i x hx => (h1 i x hx).below hb, fun i k hi hk => ⟨(h2 i k hi hk).1, Nat.lt_of_lt_of_le (h2 i k hi hk).2 hb.size⟩, h3, fun r hr => ?_⟩, h.ok, h'.bel⟩
  rcases List.mem_append.1 hr with hr | hr
  · refine ⟨(h4 r hr).1.below hb, fun g o e => ?_⟩
    rcases (h4 r hr).2 g o e with k | ⟨k1, k2⟩
    · exact .inl k
    · exact .inr ⟨Nat.lt_of_lt_of_le k1 hb.size, k2⟩
  · simp only [List.mem_singleton] at hr
    subst hr
    refine ⟨hp, fun g o e => ?_⟩
    rcases Nat.eq_zero_or_pos m.length with k | k
    · exact .inl (List.eq_nil_of_length_eq_zero k)
    · obtain ⟨g', o', e', hg, -⟩ := hp.at_ 0 k
      simp only at e
      rcases hA _ _ e with k | hlo
      · exact .inl k
      · rw [e] at e'
        injection e' with e'
        injection e' with e'
        refine .inr ⟨e' ▸ hg, fun i hi hs => ?_⟩
        have := (h2 i g hi hs).2
        omega
/-- Fewer rows. -/
theorem Lns.rows {R' : List (Option Addr × Nat × List Ep.Pr)} (h : Lns w0 L R w) (hR : ∀ r ∈ R', r ∈ R) : Lns w0 L R' w := by
  obtain ⟨S, h1, h2, h3, h4⟩ := h.ex
  exact ⟨⟨S, h1, h2, h3, fun r hr => h4 r (hR r hr)⟩, h.ok, h.bel⟩
/-- One line turned. -/
theorem Lns.turn {i X : Nat} {l m : List Ep.Pr} {S : Nat → Nat → Prop} (h : Lns w0 L R w) (hx : L[i]? = some (X, l)) (hS : (∀ (i : Nat) (x : Nat × List Ep.Pr), L[i]? = some x → EpAt w x.1 x.2 (S i)) ∧ (∀ i k, i < L.length → S i k → w0.heap.size ≤ k ∧ k < w.heap.size) ∧ (∀ i j k, i < L.length → j < L.length → i ≠ j → S i k → ¬ S j k) ∧
    ∀ r ∈ R, PrAt w r.1 r.2.1 r.2.2 ∧ ∀ g o, r.1 = some ⟨g, o, none⟩ → r.2.2 = [] ∨ (g < w.heap.size ∧ ∀ i, i < L.length → ¬ S i g)) (hm : Ep.Ok m) (ha : EpAt w' X m (Up (S i) w w')) (hc : Chg (S i) w w') : Lns w0 (L.set i (X, m)) R w' := by
  obtain ⟨h1, h2, h3, h4⟩ := hS
  have hi : i < L.length := (List.getElem?_eq_some_iff.1 hx).1
  have hz := h.bel.size
  have hget : ∀ j x, (L.set i (X, m))[j]? = some x → (j = i ∧ x = (X, m)) ∨ (j ≠ i ∧ L[j]? = some x) := fun j x hj => by
    rw [List.getElem?_set] at hj
    by_cases e : i = j
    · rw [if_pos e, if_pos (by omega)] at hj
      exact .inl ⟨e.symm, (Option.some.inj hj).symm⟩
    · rw [if_neg e] at hj; exact .inr ⟨fun k => e k.symm, hj⟩
  refine ⟨⟨fun j k => if j = i then Up (S i) w w' k else S j k, fun j x hj => ?_, fun j k hj hk => ?_, fun j j' k hj hj' hne h5 h6 => ?_, fun r hr => ?_⟩, fun j x hj => ?_, h.bel.trans (hc.below hz fun k hk => (h2 i k hi hk).1)⟩
  · rcases hget j x hj with ⟨e, e2⟩ | ⟨e, e2⟩
    · subst e e2; exact ha.mono fun k hk => by dsimp only; rw [if_pos rfl]; exact hk
    · have hjl : j < L.length := (List.getElem?_eq_some_iff.1 e2).1
      exact ((h1 j x e2).same fun k hk hkw => hc.block k hkw fun hs => h3 j i k hjl hi e hk hs).mono fun k hk => by dsimp only; rw [if_neg e]; exact hk
  · rw [List.length_set] at hj
    split at hk
    · rcases hk with hk | hk
      · exact ⟨(h2 i k hi hk).1, Nat.lt_of_lt_of_le (h2 i k hi hk).2 hc.size⟩
      · exact ⟨by omega, hk.2⟩
    · exact ⟨(h2 j k hj hk).1, Nat.lt_of_lt_of_le (h2 j k hj hk).2 hc.size⟩
  · rw [List.length_set] at hj hj'
    split at h5
    · rename_i e
      split at h6
      · rename_i e'; exact hne (e.trans e'.symm)
      · rename_i e'
        rcases h5 with h5 | h5
        · exact h3 i j' k hi hj' (fun t => e' t.symm) h5 h6
        · have := (h2 j' k hj' h6).2; omega
    · rename_i e
      split at h6
      · rcases h6 with h6 | h6
        · exact h3 j i k hj hi e h5 h6
        · have := (h2 j k hj h5).2; omega
      · exact h3 j j' k hj hj' hne h5 h6
  · refine ⟨?_, fun g o e => ?_⟩
    · rcases Nat.eq_zero_or_pos r.2.2.length with k0 | k0
      · exact ⟨(h4 r hr).1.le, (h4 r hr).1.mx, fun k hk => by omega⟩
      · refine (h4 r hr).1.same hc.size fun g o e hg => ?_
        rcases (h4 r hr).2 g o e with k | ⟨k1, k2⟩
        · rw [k] at k0; simp at k0
        · exact hc.block g hg (k2 i hi)
    · rcases (h4 r hr).2 g o e with k | ⟨k1, k2⟩
      · exact .inl k
      · refine .inr ⟨Nat.lt_of_lt_of_le k1 hc.size, fun j hj hs => ?_⟩
        rw [List.length_set] at hj
        split at hs
        · rcases hs with hs | hs
          · exact k2 i hi hs
          · omega
        · exact k2 j hj hs
  · rcases hget j x hj with ⟨e, e2⟩ | ⟨e, e2⟩
    · rw [e2]; exact hm
    · exact h.ok j x e2

theorem Lns.get {i X : Nat} {l : List Ep.Pr} (h : Lns w0 L R w) (hx : L[i]? = some (X, l)) : ∃ S, EpAt w X l S ∧ Ep.Ok l := by
  obtain ⟨S, h1, -⟩ := h.ex
  exact ⟨_, h1 i _ hx, h.ok i _ hx⟩
theorem Lns.cutEnd {i X : Nat} {l : List Ep.Pr} (h : Lns w0 L R w) (hx : L[i]? = some (X, l)) (o : Int) :
    Calls Tryd.prog 19 #[.pointer (some ⟨X, 0, none⟩), .int .i64 o] w fun e w' => e = .returned (.tuple #[]) ∧ Lns w0 (L.set i (X, Ep.cutEnd l o)) R w' := by
  have hok := h.ok i _ hx
  obtain ⟨S, hS⟩ := h.ex
  refine (epCutEnd_any X l (S i) o w (hS.1 i _ hx) hok).mono ?_
  rintro e w' ⟨rfl, ha, hc⟩
  exact ⟨rfl, h.turn hx hS (hok.cutEnd o) ha hc⟩
theorem Lns.cutStart {i X : Nat} {l : List Ep.Pr} (h : Lns w0 L R w) (hx : L[i]? = some (X, l)) (o : Int) :
    Calls Tryd.prog 21 #[.pointer (some ⟨X, 0, none⟩), .int .i64 o] w fun e w' => e = .returned (.tuple #[]) ∧ Lns w0 (L.set i (X, Ep.cutStart l o)) R w' := by
  have hok := h.ok i _ hx
  obtain ⟨S, hS⟩ := h.ex
  refine (epCutStart_any X l (S i) o w (hS.1 i _ hx) hok).mono ?_
  rintro e w' ⟨rfl, ha, hc⟩
  exact ⟨rfl, h.turn hx hS (hok.cutStart o) ha hc⟩
theorem Lns.begin {i X : Nat} {l : List Ep.Pr} (h : Lns w0 L R w) (p : Nat → Addr) (hs : Sents4B w0 p) (hx : L[i]? = some (X, l)) (a s : Int) :
    Calls Tryd.prog 18 #[.pointer (some ⟨X, 0, none⟩), .int .i64 a, .int .i64 s] w fun e w' => e = .returned (errR p (Ep.begin l a s).1) ∧ Lns w0 (L.set i (X, (Ep.begin l a s).2)) R w' := by
  have hok := h.ok i _ hx
  have hi : i < L.length := (List.getElem?_eq_some_iff.1 hx).1
  obtain ⟨S, hS⟩ := h.ex
  refine (epBegin_any X l (S i) a s w p (hs.below h.bel) (hS.1 i _ hx) (fun k hk => (hS.2.1 i k hi hk).2) hok).mono ?_
  rintro e w' ⟨rfl, ha, hc⟩
  exact ⟨rfl, h.turn hx hS (hok.begin a s) ha hc⟩
theorem Lns.clone {i X : Nat} {l : List Ep.Pr} (h : Lns w0 L R w) (hx : L[i]? = some (X, l)) :
    Calls Tryd.prog 15 #[.pointer (some ⟨X, 0, none⟩)] w fun e w' => ∃ Y, e = .returned (.pointer (some ⟨Y, 0, none⟩)) ∧ Lns w0 (L ++ [(Y, l)]) R w' := by
  obtain ⟨S, hS, hok⟩ := h.get hx
  refine (epClone_any X l S w (by have := hok.len; omega) hS).mono ?_
  rintro e w' ⟨Y, rfl, hy, hb⟩
  exact ⟨Y, rfl, h.add hb hy hok⟩
theorem Lns.pairs {i X : Nat} {l : List Ep.Pr} (h : Lns w0 L R w) (hx : L[i]? = some (X, l)) :
    Calls Tryd.prog 16 #[.pointer (some ⟨X, 0, none⟩)] w fun e w' => ∃ A c, e = .returned (.slice A l.length c) ∧ (A = none → l = [] ∧ c = 0) ∧ Lns w0 L (R ++ [(A, c, l)]) w' := by
  obtain ⟨S, hS, hok⟩ := h.get hx
  refine (epPairs_any X l S w (by have := hok.len; omega) hS).mono ?_
  rintro e w' ⟨v, rfl, hv, hb⟩
  obtain ⟨A, c, rfl, h0, h1⟩ := h.addRow hb hv
  exact ⟨A, c, rfl, h0, h1⟩
theorem Lns.at_ {i X : Nat} {l : List Ep.Pr} (h : Lns w0 L R w) (hx : L[i]? = some (X, l)) (o : Int) :
    Calls Tryd.prog 36 #[.pointer (some ⟨X, 0, none⟩), .int .i64 o] w fun e w' => e = .returned (.tuple #[.int .i64 (Ep.at_ l o).1, .bool (Ep.at_ l o).2]) ∧ Lns w0 L R w' := by
  obtain ⟨S, hS, hok⟩ := h.get hx
  refine (epAt_any X l S o w hS hok).mono ?_
  rintro e w' ⟨rfl, hb⟩
  exact ⟨rfl, h.below hb⟩
theorem Lns.last {i X : Nat} {l : List Ep.Pr} (h : Lns w0 L R w) (hx : L[i]? = some (X, l)) :
    Calls Tryd.prog 34 #[.pointer (some ⟨X, 0, none⟩)] w fun e w' => e = .returned (.tuple #[prV (Ep.last l), .bool (decide (0 < l.length))]) ∧ Lns w0 L R w' := by
  obtain ⟨S, hS, hok⟩ := h.get hx
  refine (epLast_any X l S w hS hok).mono ?_
  rintro e w' ⟨rfl, hb⟩
  exact ⟨rfl, h.below hb⟩
theorem Lns.end_ {i X : Nat} {l : List Ep.Pr} (h : Lns w0 L R w) (hx : L[i]? = some (X, l)) (o z : Int) :
    Calls Tryd.prog 37 #[.pointer (some ⟨X, 0, none⟩), .int .i64 o, .int .i64 z] w fun e w' => e = .returned (.tuple #[.int .i64 (Ep.end_ l o z).1, .int .i64 (Ep.end_ l o z).2.1, .bool (Ep.end_ l o z).2.2]) ∧ Lns w0 L R w' := by
  obtain ⟨S, hS, hok⟩ := h.get hx
  refine (epEnd_any X l S o z w hS hok).mono ?_
  rintro e w' ⟨rfl, hb⟩
  exact ⟨rfl, h.below hb⟩
end
end Go.Proofs.YtplpakdbahlgaaaDoor
