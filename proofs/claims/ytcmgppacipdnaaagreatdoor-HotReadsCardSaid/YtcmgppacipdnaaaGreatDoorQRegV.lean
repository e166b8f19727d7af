/-
  The law of a region that draws its order, with guards, one of whose operations (number jj; it may leave no value) changes what the others only read: what is known ahead of it, and what behind it. Not of any one program.
-/
import Derived.Test.YtcmgppacipdnaaaGreatDoorQHtP
namespace Go.Proofs.YtcmgppacipdnaaaGreatDoor
open Go Go.RowKit

/-- Operation k waits for operation i by its own word. -/
def waits (ops : Array Oper) (k i : Nat) : Bool := match ops[k]? with
  | some o => o.after.any (fun e => e.on == i && Region.binds .any e)
  | none => false
theorem waits_of {ops : Array Oper} {k i : Nat} (h : waits ops k i = true) : ∃ o, ops[k]? = some o ∧ ∃ e ∈ o.after.toList, Region.binds .any e = true ∧ e.on = i := by
  unfold waits at h
  cases ho : ops[k]? with
  | none => rw [ho] at h; cases h
  | some o =>
    rw [ho] at h
    simp only [Array.any_eq_true, Bool.and_eq_true, beq_iff_eq] at h
    obtain ⟨j, hj, h2, h3⟩ := h
    exact ⟨o, rfl, o.after[j], by simp, h3, h2⟩
def guardV (ops : Array Oper) (jj : Nat) (sl : List Nat) : Bool :=
  (List.range ops.size).all (fun i => match ops[i]? with
    | some o => (match o.guard with | none => true | some (j, _) => decide (j < i) && ((ops[j]?).bind (·.dst)).isSome && o.after.any (fun e => e.on == j && Region.binds .any e)) && o.after.all (fun e => !Region.binds .any e || decide (e.on < i)) && (o.dst == some (sl.getD i 0) || (i == jj && o.dst.isNone))
    | none => false) &&
  decide sl.Nodup && decide (sl.length = ops.size)
/-- Those of aft come behind jj, those of bef ahead of it. -/
def ordV (ops : Array Oper) (jj : Nat) (bef aft : List Nat) : Bool :=
  aft.all (fun i => decide (i ≠ jj) && (waits ops i jj || aft.any fun k => decide (k < i) && waits ops i k)) &&
  bef.all (fun i => decide (i < jj) && (waits ops jj i || bef.any fun k => decide (i < k) && waits ops k i))

structure MidstV (jj : Nat) (sl dsts : List Nat) (G0 : World → World → Prop) (J : World → Prop) (D0 D1 : Nat → Value → World → Prop) (ops : Array Oper) (a : Act) (w : World) (listed : Array Bool) (a' : Act) (w' : World) : Prop where
  size : a'.tmps.size = a.tmps.size
  defers : a'.defers = a.defers
  same : ∀ k, k ∉ dsts → a'.tmps[k]? = a.tmps[k]?
  pre : listed.getD jj false = false → G0 w w' ∧ ∀ i, i < ops.size → listed.getD i false = true → D0 (sl.getD i 0) (a'.tmps.getD (sl.getD i 0) undef) w'
  post : listed.getD jj false = true → J w' ∧ ∀ i, i < ops.size → listed.getD i false = true → D1 (sl.getD i 0) (a'.tmps.getD (sl.getD i 0) undef) w'
  closed : ∀ (j : Nat) (o : Oper), ops[j]? = some o → listed.getD j false = true → ∀ e ∈ o.after.toList, Region.binds .any e = true → listed.getD e.on false = true

theorem aft_listed {ops : Array Oper} {jj : Nat} {bef aft : List Nat} (hord : ordV ops jj bef aft = true) {listed : Array Bool} (closed : ∀ (j : Nat) (o : Oper), ops[j]? = some o → listed.getD j false = true → ∀ e ∈ o.after.toList, Region.binds .any e = true → listed.getD e.on false = true) :
    ∀ n i, i < n → i ∈ aft → (∀ o, ops[i]? = some o → ∀ e ∈ o.after.toList, Region.binds .any e = true → listed.getD e.on false = true) → listed.getD jj false = true := by
  simp only [ordV, Bool.and_eq_true, List.all_eq_true, Bool.or_eq_true, List.any_eq_true, decide_eq_true_eq] at hord
  intro n
  induction n with
  | zero => intro i h; omega
  | succ n ih =>
    intro i hi hm hd
    rcases (hord.1 i hm).2 with h | ⟨k, hk, hlt, h⟩
    · obtain ⟨o, ho, e, he, hb, rfl⟩ := waits_of h
      exact hd o ho e he hb
    · obtain ⟨o, ho, e, he, hb, rfl⟩ := waits_of h
      have hl := hd o ho e he hb
      exact ih e.on (by omega) hk (fun o2 ho2 => closed e.on o2 ho2 hl)
theorem bef_listed {ops : Array Oper} {jj : Nat} {bef aft : List Nat} (hord : ordV ops jj bef aft = true) {listed : Array Bool} (closed : ∀ (j : Nat) (o : Oper), ops[j]? = some o → listed.getD j false = true → ∀ e ∈ o.after.toList, Region.binds .any e = true → listed.getD e.on false = true) (hj : listed.getD jj false = true) :
    ∀ n i, jj - i < n → i ∈ bef → listed.getD i false = true := by
  simp only [ordV, Bool.and_eq_true, List.all_eq_true, Bool.or_eq_true, List.any_eq_true, decide_eq_true_eq] at hord
  intro n
  induction n with
  | zero => intro i h; omega
  | succ n ih =>
    intro i hi hm
    obtain ⟨hlt0, h⟩ := hord.2 i hm
    rcases h with h | ⟨k, hk, hlt, h⟩
    · obtain ⟨o, ho, e, he, hb, rfl⟩ := waits_of h
      exact closed jj o ho hj e he hb
    · obtain ⟨o, ho, e, he, hb, rfl⟩ := waits_of h
      exact closed k o ho (ih k (by omega) hk) e he hb

theorem wpAny_V {P : Program} {ops : Array Oper} {Q : Exit → Act → World → Prop} {jj : Nat} {sl dsts bef aft : List Nat} {D0 D1 : Nat → Value → World → Prop} {G0 G1 : World → World → Prop} {J : World → Prop} (hG0 : Goes G0) {a : Act} {w : World} (hB : guardV ops jj sl = true) (hord : ordV ops jj bef aft = true) (hds : ops.toList.filterMap (·.dst) = dsts) (hjj : jj < ops.size)
    (hfit : ∀ d ∈ dsts, d < a.tmps.size)
    (stable0 : ∀ d v w1 w2, D0 d v w1 → G0 w1 w2 → D0 d v w2) (stable1 : ∀ d v w1 w2, D1 d v w1 → G1 w1 w2 → D1 d v w2) (stableJ : ∀ w1 w2, J w1 → G1 w1 w2 → J w2)
    (hnone : ∀ o, ops[jj]? = some o → o.dst = none → ∀ v w, D1 (sl.getD jj 0) v w)
    (step0 : ∀ i o, i ≠ jj → i ∉ aft → ops[i]? = some o → ∀ (ev : Operand → Value) w1, G0 w w1 → (∀ x, (∀ d ∈ dsts, x ≠ .tmp d) → ev x = a.eval x) →
      (∀ e ∈ o.after.toList, Region.binds .any e = true → D0 (sl.getD e.on 0) (ev (.tmp (sl.getD e.on 0))) w1) → OpGuardU P ev o (fun j => sl.getD j 0) w1 fun v w2 => G0 w1 w2 ∧ D0 (sl.getD i 0) v w2)
    (stepJ : ∀ o, ops[jj]? = some o → ∀ (ev : Operand → Value) w1, G0 w w1 → (∀ x, (∀ d ∈ dsts, x ≠ .tmp d) → ev x = a.eval x) →
      (∀ e ∈ o.after.toList, Region.binds .any e = true → D0 (sl.getD e.on 0) (ev (.tmp (sl.getD e.on 0))) w1) → OpGuardU P ev o (fun j => sl.getD j 0) w1 fun v w2 => J w2 ∧ D1 (sl.getD jj 0) v w2 ∧ ∀ d ∈ sl, d ≠ sl.getD jj 0 → D0 d (ev (.tmp d)) w1 → D1 d (ev (.tmp d)) w2)
    (step1 : ∀ i o, i ≠ jj → i ∉ bef → ops[i]? = some o → ∀ (ev : Operand → Value) w1, J w1 → (∀ x, (∀ d ∈ dsts, x ≠ .tmp d) → ev x = a.eval x) →
      (∀ e ∈ o.after.toList, Region.binds .any e = true → D1 (sl.getD e.on 0) (ev (.tmp (sl.getD e.on 0))) w1) → OpGuardU P ev o (fun j => sl.getD j 0) w1 fun v w2 => G1 w1 w2 ∧ D1 (sl.getD i 0) v w2)
    (last : ∀ f w1, J w1 → (∀ d ∈ dsts, D1 d (f d) w1) → Q .normal (puts a f dsts) w1) :
    ∀ (fuel : Nat) (listed : Array Bool) (a' : Act) (w' : World), listed.size = ops.size → todo listed = fuel → MidstV jj sl dsts G0 J D0 D1 ops a w listed a' w' → wpAny P .any ops Q fuel listed a' w' := by
  have hB' := hB
  simp only [guardV, Bool.and_eq_true, decide_eq_true_eq, List.all_eq_true, List.mem_range] at hB'
  obtain ⟨⟨hall, hnd⟩, hlen⟩ := hB'
  have form : ∀ (i : Nat) (o : Oper), ops[i]? = some o → (∀ j b, o.guard = some (j, b) → j < i ∧ ((ops[j]?).bind (·.dst)).isSome = true) ∧ (∀ e ∈ o.after.toList, Region.binds .any e = true → e.on < i) ∧ (o.dst = some (sl.getD i 0) ∨ i = jj ∧ o.dst = none) := by
    intro i o ho
    have hi : i < ops.size := (Array.getElem?_eq_some_iff.1 ho).1
    have h := hall i hi
    rw [ho] at h
    simp only [Bool.and_eq_true, Bool.or_eq_true, beq_iff_eq, Option.isNone_iff_eq_none] at h
    refine ⟨fun j b hg => ?_, fun e he hbd => ?_, h.2⟩
    · have h1 := h.1.1
      rw [hg] at h1
      simp only [Bool.and_eq_true, decide_eq_true_eq, Array.any_eq_true, beq_iff_eq] at h1
      exact h1.1
    · have := Array.all_eq_true_iff_forall_mem.1 h.1.2 e (by simpa using he)
      simpa [hbd] using this
  have slget : ∀ i, i < ops.size → sl[i]? = some (sl.getD i 0) := fun i hi => by simp [List.getD, show i < sl.length by omega]
  have slinj : ∀ i j, i < ops.size → j < ops.size → sl.getD i 0 = sl.getD j 0 → i = j := fun i j hi hj h => (List.getElem?_inj (by omega) hnd).1 (by rw [slget i hi, slget j hj, h])
  have slmem : ∀ i, i < ops.size → sl.getD i 0 ∈ sl := fun i hi => by
    rw [show sl.getD i 0 = sl[i] from by simp [List.getD, show i < sl.length by omega]]
    exact List.getElem_mem _
  have dmem : ∀ (i : Nat) (o : Oper) d, ops[i]? = some o → o.dst = some d → d ∈ dsts := fun i o d ho hd => by
    rw [← hds, List.mem_filterMap]
    exact ⟨o, Array.mem_toList_iff.2 (Array.mem_of_getElem? ho), hd⟩
  have dback : ∀ d ∈ dsts, ∃ i, i < ops.size ∧ d = sl.getD i 0 := fun d hd => by
    rw [← hds, List.mem_filterMap] at hd
    obtain ⟨o, ho, hod⟩ := hd
    obtain ⟨i, hi, e⟩ := List.mem_iff_getElem.1 ho
    have hi' : i < ops.size := by simpa using hi
    have ho' : ops[i]? = some o := by simp [hi', ← e]
    rcases (form i o ho').2.2 with h | ⟨_, h⟩
    · rw [hod] at h; injection h with h; exact ⟨i, hi', h⟩
    · rw [hod] at h; cases h
  have alive : ∀ listed : Array Bool, listed.size = ops.size → 0 < todo listed → Region.ready .any ops listed ≠ [] := by
    intro listed hs ht he
    obtain ⟨i, hi⟩ : ∃ i, i < ops.size ∧ listed.getD i true = false := by
      unfold todo at ht
      obtain ⟨i, hi, e⟩ := List.mem_iff_getElem.1 (List.count_pos_iff.1 ht)
      have hi' : i < listed.size := by simpa using hi
      exact ⟨i, by omega, by simpa [hi'] using e⟩
    obtain ⟨n, ⟨hn, hf⟩, hmin⟩ : ∃ n, (n < ops.size ∧ listed.getD n true = false) ∧ ∀ m, m < n → listed.getD m true = true := by
      have : ∀ k i, i < k → i < ops.size → listed.getD i true = false → ∃ n, (n < ops.size ∧ listed.getD n true = false) ∧ ∀ m, m < n → listed.getD m true = true := by
        intro k
        induction k with
        | zero => intro i h; omega
        | succ k ih =>
          intro i hik h1 h2
          by_cases hm : ∃ m, m < i ∧ listed.getD m true = false
          · obtain ⟨m, hmi, hmf⟩ := hm
            exact ih m (by omega) (by omega) hmf
          · refine ⟨i, ⟨h1, h2⟩, fun m hmi => ?_⟩
            rcases Bool.eq_false_or_eq_true (listed.getD m true) with h | h
            · exact h
            · exact absurd ⟨m, hmi, h⟩ hm
      exact this (i + 1) i (by omega) hi.1 hi.2
    have hmem : n ∈ Region.ready .any ops listed := by
      refine mem_ready.2 ⟨hf, ops[n], by simp [hn], fun e hee hbd => ?_⟩
      have hlt := (form n ops[n] (by simp [hn])).2.1 e (by simpa using hee) hbd
      have := hmin e.on hlt
      have hsz : e.on < listed.size := by omega
      simpa [hsz] using this
    rw [he] at hmem
    cases hmem
  intro fuel
  induction fuel with
  | zero =>
    intro listed a' w' hs ht M
    have hdone : ∀ i, i < ops.size → listed.getD i true = true := by
      intro i hi
      rcases Bool.eq_false_or_eq_true (listed.getD i true) with h | h
      · exact h
      · have := todo_set (i := i) (listed := listed) (by omega) h
        omega
    have hdoneF : ∀ i, i < ops.size → listed.getD i false = true := fun i hi => by
      have := hdone i hi
      have hsz : i < listed.size := by omega
      simpa [hsz] using this
    refine ⟨?_, ?_⟩
    · match hr : Region.ready .any ops listed with
      | [] => rfl
      | i :: _ =>
        exfalso
        have hi : i ∈ Region.ready .any ops listed := by rw [hr]; exact List.mem_cons_self
        obtain ⟨h1, o, ho, _⟩ := mem_ready.1 hi
        have hlt : i < ops.size := (Array.getElem?_eq_some_iff.1 ho).1
        rw [hdone i hlt] at h1
        cases h1
    · have hput : a' = puts a (fun k => a'.tmps.getD k undef) dsts := by
        refine act_eq ?_ (by rw [puts_defers, M.defers])
        apply Array.ext_getElem?
        intro k
        rw [puts_get]
        split
        · rename_i h
          have hk : k < a'.tmps.size := by rw [M.size]; exact h.2
          simp [hk]
        · rename_i h
          by_cases hk : k ∈ dsts
          · exact absurd ⟨hk, hfit k hk⟩ h
          · exact M.same k hk
      obtain ⟨hJ, hD⟩ := M.post (hdoneF jj hjj)
      have h := last (fun k => a'.tmps.getD k undef) w' hJ (fun d hd => by
        obtain ⟨j, hj, rfl⟩ := dback d hd
        exact hD j hj (hdoneF j hj))
      rwa [← hput] at h
  | succ fuel ih =>
    intro listed a' w' hs ht M
    refine ⟨fun he => absurd he (alive listed hs (by omega)), fun i hi => ?_⟩
    obtain ⟨h1, o, ho, hdeps⟩ := mem_ready.1 hi
    have hlt : i < ops.size := (Array.getElem?_eq_some_iff.1 ho).1
    have hlz : i < listed.size := by omega
    have h1F : listed.getD i false = false := by simpa [hlz] using h1
    have hset := todo_set (i := i) (listed := listed) hlz h1
    obtain ⟨hg, hon, hdst⟩ := form i o ho
    have hframe : ∀ x, (∀ d ∈ dsts, x ≠ .tmp d) → a'.eval x = a.eval x := fun x hx => by
      cases x with
      | tmp t =>
        have hm : t ∉ dsts := fun hm => hx t hm rfl
        have := M.same t hm
        simp only [Act.eval, Array.getD_eq_getD_getElem?, this]
      | const c => rfl
      | global g => rfl
      | func f => rfl
    have hdeps' : ∀ e ∈ o.after.toList, Region.binds .any e = true → listed.getD e.on false = true := fun e he hbd => hdeps e (by simpa using he) hbd
    have mono : ∀ x, listed.getD x false = true → (listed.setIfInBounds i true).getD x false = true := fun x hx => by
      by_cases hxi : x = i
      · subst hxi; exact getD_set_self hlz false
      · rw [getD_set_ne false (Ne.symm hxi)]; exact hx
    have hclosed : ∀ (j : Nat) (o2 : Oper), ops[j]? = some o2 → (listed.setIfInBounds i true).getD j false = true → ∀ e ∈ o2.after.toList, Region.binds .any e = true → (listed.setIfInBounds i true).getD e.on false = true := fun j o2 ho2 hjl e he hbd => by
      by_cases hji : j = i
      · subst hji
        obtain rfl : o2 = o := Option.some.inj (ho2.symm.trans ho)
        exact mono _ (hdeps' e he hbd)
      · have hold : listed.getD j false = true := by rwa [getD_set_ne false (Ne.symm hji)] at hjl
        exact mono _ (M.closed j o2 ho2 hold e he hbd)
    -- what the slots hold behind it
    have slot : ∀ (v : Value) (j : Nat), j < ops.size → (j ≠ i → (a'.put o.dst v).tmps.getD (sl.getD j 0) undef = a'.tmps.getD (sl.getD j 0) undef) ∧ (j = i → o.dst.isSome = true → (a'.put o.dst v).tmps.getD (sl.getD j 0) undef = v) := fun v j hj => by
      rcases hdst with hd | ⟨_, hd⟩
      · refine ⟨fun hji => ?_, fun hji _ => ?_⟩
        · have hne : sl.getD i 0 ≠ sl.getD j 0 := fun e => hji (slinj i j hlt hj e).symm
          rw [hd]
          generalize sl.getD i 0 = x at *
          generalize sl.getD j 0 = y at *
          simp [Act.put, hne]
        · subst hji
          have hds' : sl.getD j 0 < a'.tmps.size := by rw [M.size]; exact hfit _ (dmem j o _ ho hd)
          rw [hd]
          generalize sl.getD j 0 = x at *
          simp [Act.put, hds']
      · refine ⟨fun _ => by rw [hd]; rfl, fun _ h => by rw [hd] at h; cases h⟩
    have basics : ∀ v : Value, (a'.put o.dst v).tmps.size = a.tmps.size ∧ (a'.put o.dst v).defers = a.defers ∧ ∀ k, k ∉ dsts → (a'.put o.dst v).tmps[k]? = a.tmps[k]? := fun v => by
      rcases hdst with hd | ⟨_, hd⟩
      · refine ⟨by rw [hd]; simp [Act.put, M.size], by rw [hd]; simp [Act.put, M.defers], fun k hk => ?_⟩
        have hkd : sl.getD i 0 ≠ k := fun e => hk (e ▸ dmem i o _ ho hd)
        rw [hd]
        simp only [Act.put, Array.getElem?_setIfInBounds, if_neg hkd]
        exact M.same k hk
      · rw [hd]
        exact ⟨M.size, M.defers, M.same⟩
    -- an operation run, or passed over
    have run : ∀ (Post : Value → World → Prop), OpGuardU P a'.eval o (fun j => sl.getD j 0) w' Post → (∀ v w2, Post v w2 → wpAny P .any ops Q fuel (listed.setIfInBounds i true) (a'.put o.dst v) w2) → wpOp P ops Q i (wpAny P .any ops Q fuel (listed.setIfInBounds i true)) a' w' := fun Post hr fin => by
      unfold wpOp
      simp only [ho]
      unfold OpGuardU at hr
      cases hgd : o.guard with
      | none =>
        rw [hgd] at hr
        rw [if_pos (by simp [Region.wanted, hgd])]
        exact .inl (hr.wp fun v w2 hp => fin v w2 hp)
      | some jb =>
        obtain ⟨j, b⟩ := jb
        rw [hgd] at hr
        have hj : j < ops.size := by have := (hg j b hgd).1; omega
        have hoj : ops[j]? = some ops[j] := by simp [hj]
        obtain ⟨dj, hdj⟩ : ∃ dj, ops[j].dst = some dj := Option.isSome_iff_exists.1 (by have h := (hg j b hgd).2; rw [hoj] at h; exact h)
        have e1 : sl.getD j 0 = dj := by
          rcases (form j _ hoj).2.2 with h | ⟨_, h⟩
          · rw [hdj] at h; injection h with h; exact h.symm
          · rw [hdj] at h; cases h
        rcases hr with ⟨c, hc, hy, hn⟩ | ⟨hc, hn⟩
        · have hyd : yielded ops a'.tmps j = some c := by
            simp only [e1] at hc
            have hcell : a'.tmps[dj]? = some (.bool c) := by
              simp only [Act.eval, Array.getD_eq_getD_getElem?] at hc
              cases ht : a'.tmps[dj]? with
              | none => rw [ht] at hc; simp [undef] at hc
              | some v => rw [ht] at hc; simp at hc; rw [hc]
            unfold yielded
            rw [hoj]
            simp [hdj, hcell]
          by_cases hcb : c = b
          · rw [if_pos (by simp [Region.wanted, hgd, hyd, hcb])]
            exact .inl ((hy hcb).wp fun v w2 hp => fin v w2 hp)
          · rw [if_neg (by simp [Region.wanted, hgd, hyd, hcb])]
            exact fin undef w' (hn hcb)
        · have hyd : yielded ops a'.tmps j = none := by
            simp only [e1] at hc
            unfold yielded
            rw [hoj]
            simp only [Act.eval, Array.getD_eq_getD_getElem?] at hc
            cases ht : a'.tmps[dj]? with
            | none => simp [hdj, ht]
            | some v =>
              rw [ht] at hc
              simp at hc
              subst hc
              simp [hdj, ht, undef]
          rw [if_neg (by simp [Region.wanted, hgd, hyd])]
          exact fin undef w' hn
    cases hjl : listed.getD jj false with
    | true =>
      have hij : i ≠ jj := fun e => by rw [e, hjl] at h1F; cases h1F
      obtain ⟨hJ, hD⟩ := M.post hjl
      have hib : i ∉ bef := fun hm => by
        have := bef_listed hord M.closed hjl _ i (Nat.lt_succ_self _) hm
        rw [h1F] at this; cases this
      have hsm : o.dst.isSome = true := by
        rcases hdst with hd | ⟨hd, _⟩
        · rw [hd]; rfl
        · exact absurd hd hij
      refine run _ (step1 i o hij hib ho a'.eval w' hJ hframe (fun e he hb => hD e.on (by have := hon e he hb; omega) (hdeps' e he hb))) fun v w2 ⟨hg1, hd1⟩ => ih _ _ w2 (by simpa using hs) (by omega) ?_
      obtain ⟨b1, b2, b3⟩ := basics v
      refine ⟨b1, b2, b3, fun h => ?_, fun _ => ⟨stableJ _ _ hJ hg1, fun j hj hjl2 => ?_⟩, hclosed⟩
      · rw [mono _ hjl] at h; cases h
      · by_cases hji : j = i
        · rw [(slot v j hj).2 hji hsm, hji]; exact hd1
        · rw [(slot v j hj).1 hji]
          exact stable1 _ _ _ _ (hD j hj (by rwa [getD_set_ne false (Ne.symm hji)] at hjl2)) hg1
    | false =>
      obtain ⟨hG, hD⟩ := M.pre hjl
      by_cases hij : i = jj
      · subst hij
        refine run _ (stepJ o ho a'.eval w' hG hframe (fun e he hb => hD e.on (by have := hon e he hb; omega) (hdeps' e he hb))) fun v w2 ⟨hJ2, hDj, htr⟩ => ih _ _ w2 (by simpa using hs) (by omega) ?_
        obtain ⟨b1, b2, b3⟩ := basics v
        refine ⟨b1, b2, b3, fun h => ?_, fun _ => ⟨hJ2, fun j hj hjl2 => ?_⟩, hclosed⟩
        · rw [getD_set_self hlz false] at h; cases h
        · by_cases hji : j = i
          · subst hji
            by_cases hsm : o.dst.isSome = true
            · rw [(slot v j hj).2 rfl hsm]; exact hDj
            · exact hnone o ho (by simpa using hsm) _ _
          · rw [(slot v j hj).1 hji]
            exact htr _ (slmem j hj) (fun e => hji (slinj j i hj hlt e)) (hD j hj (by rwa [getD_set_ne false (Ne.symm hji)] at hjl2))
      · have hia : i ∉ aft := fun hm => by
          have := aft_listed hord M.closed _ i (Nat.lt_succ_self _) hm (fun o2 ho2 e he hb => by
            obtain rfl : o2 = o := Option.some.inj (ho2.symm.trans ho)
            exact hdeps' e he hb)
          rw [hjl] at this; cases this
        have hsm : o.dst.isSome = true := by
          rcases hdst with hd | ⟨hd, _⟩
          · rw [hd]; rfl
          · exact absurd hd hij
        refine run _ (step0 i o hij hia ho a'.eval w' hG hframe (fun e he hb => hD e.on (by have := hon e he hb; omega) (hdeps' e he hb))) fun v w2 ⟨hg0, hd0⟩ => ih _ _ w2 (by simpa using hs) (by omega) ?_
        obtain ⟨b1, b2, b3⟩ := basics v
        refine ⟨b1, b2, b3, fun _ => ⟨hG0.trans hG hg0, fun j hj hjl2 => ?_⟩, fun h => ?_, hclosed⟩
        · by_cases hji : j = i
          · rw [(slot v j hj).2 hji hsm, hji]; exact hd0
          · rw [(slot v j hj).1 hji]
            exact stable0 _ _ _ _ (hD j hj (by rwa [getD_set_ne false (Ne.symm hji)] at hjl2)) hg0
        · rw [getD_set_ne false hij, hjl] at h; cases h

def DepsV (sl : List Nat) (D : Nat → Value → World → Prop) (ev : Operand → Value) (w1 : World) : List Edge → Prop
  | [] => True
  | e :: es => (match e.ground with
    | .textOnly _ => True
    | .gcOnly _ => True
    | _ => D (sl.getD e.on 0) (ev (.tmp (sl.getD e.on 0))) w1) ∧ DepsV sl D ev w1 es
theorem depsV_of {sl : List Nat} {D : Nat → Value → World → Prop} {ev : Operand → Value} {w1 : World} : ∀ {es : List Edge}, (∀ e ∈ es, Region.binds .any e = true → D (sl.getD e.on 0) (ev (.tmp (sl.getD e.on 0))) w1) → DepsV sl D ev w1 es
  | [], _ => trivial
  | e :: _, h => ⟨by
      have h1 := h e List.mem_cons_self
      unfold Region.binds at h1
      split
      · trivial
      · trivial
      · rename_i h2 h3
        refine h1 ?_
        split
        · rename_i r hr; exact absurd hr (h2 r)
        · rename_i r hr; exact absurd hr (h3 r)
        · rfl, depsV_of fun e he => h e (List.mem_cons_of_mem _ he)⟩
/-- One operation, from what is known of its operands. -/
def StepV (Pre : World → Prop) (P : Program) (sl dsts : List Nat) (D : Nat → Value → World → Prop) (a : Act) (o : Oper) (Post : (Operand → Value) → World → Value → World → Prop) : Prop :=
  ∀ (ev : Operand → Value) w1, Pre w1 → (∀ x, (∀ d ∈ dsts, x ≠ .tmp d) → ev x = a.eval x) → DepsV sl D ev w1 o.after.toList → OpGuardU P ev o (fun j => sl.getD j 0) w1 (Post ev w1)
section
variable (G0 G1 : World → World → Prop) (J : World → Prop) (P : Program) (sl dsts : List Nat) (D0 D1 : Nat → Value → World → Prop) (a : Act) (w : World) (jj : Nat) (bef aft : List Nat)
/-- Each operation, ahead of jj, behind it, or both. -/
def StepsV : Nat → List Oper → List Nat → Prop
  | i, o :: os, d :: ds =>
    (if i = jj then StepV (G0 w) P sl dsts D0 a o (fun ev w1 v w2 => J w2 ∧ D1 d v w2 ∧ ∀ e ∈ sl, e ≠ d → D0 e (ev (.tmp e)) w1 → D1 e (ev (.tmp e)) w2)
    else if i ∈ bef then StepV (G0 w) P sl dsts D0 a o (fun _ w1 v w2 => G0 w1 w2 ∧ D0 d v w2)
    else if i ∈ aft then StepV J P sl dsts D1 a o (fun _ w1 v w2 => G1 w1 w2 ∧ D1 d v w2)
    else StepV (G0 w) P sl dsts D0 a o (fun _ w1 v w2 => G0 w1 w2 ∧ D0 d v w2) ∧ StepV J P sl dsts D1 a o (fun _ w1 v w2 => G1 w1 w2 ∧ D1 d v w2)) ∧ StepsV (i + 1) os ds
  | _, _, _ => True
end
theorem stepsV_at {G0 G1 : World → World → Prop} {J : World → Prop} {P : Program} {sl dsts : List Nat} {D0 D1 : Nat → Value → World → Prop} {a : Act} {w : World} {jj : Nat} {bef aft : List Nat} : ∀ {os : List Oper} {ds : List Nat} {n : Nat} (_ : StepsV G0 G1 J P sl dsts D0 D1 a w jj bef aft n os ds) (i : Nat) {o : Oper} {d : Nat}, os[i]? = some o → ds[i]? = some d →
    (if n + i = jj then StepV (G0 w) P sl dsts D0 a o (fun ev w1 v w2 => J w2 ∧ D1 d v w2 ∧ ∀ e ∈ sl, e ≠ d → D0 e (ev (.tmp e)) w1 → D1 e (ev (.tmp e)) w2)
    else if n + i ∈ bef then StepV (G0 w) P sl dsts D0 a o (fun _ w1 v w2 => G0 w1 w2 ∧ D0 d v w2)
    else if n + i ∈ aft then StepV J P sl dsts D1 a o (fun _ w1 v w2 => G1 w1 w2 ∧ D1 d v w2)
    else StepV (G0 w) P sl dsts D0 a o (fun _ w1 v w2 => G0 w1 w2 ∧ D0 d v w2) ∧ StepV J P sl dsts D1 a o (fun _ w1 v w2 => G1 w1 w2 ∧ D1 d v w2))
  | [], _, _, _, i, _, _, h, _ => by simp at h
  | _ :: _, [], _, _, i, _, _, _, h => by simp at h
  | _ :: _, _ :: _, _, h, 0, _, _, ho, hd => by simp at ho hd; subst ho hd; exact h.1
  | _ :: os, _ :: ds, n, h, i + 1, _, _, ho, hd => by
    have := stepsV_at h.2 i (by simpa using ho) (by simpa using hd)
    rwa [show n + 1 + i = n + (i + 1) by omega] at this

/-- THE LAW. -/
theorem wp_region_V {P : Program} {id : Nat} {ops : Array Oper} {Q : Exit → Act → World → Prop} {G0 G1 : World → World → Prop} {J : World → Prop} (hG0 : Goes G0) (stableJ : ∀ w1 w2, J w1 → G1 w1 w2 → J w2) (jj : Nat) (sl dsts bef aft : List Nat) (T0 : Nat → Held G0) (T1 : Nat → Held G1) {a : Act} {w : World} (hm : P.follows .mixedOrders = true)
    (hB : (guardV ops jj sl && ordV ops jj bef aft && decide (ops.toList.filterMap (·.dst) = dsts) && decide (jj < ops.size)) = true)
    (hfit : (dsts.all fun d => decide (d < a.tmps.size)) = true)
    (hnone : ((ops[jj]?).bind (·.dst)).isSome = true ∨ ∀ v w, (T1 (sl.getD jj 0)).p v w)
    (steps : StepsV G0 G1 J P sl dsts (fun d => (T0 d).p) (fun d => (T1 d).p) a w.drew jj bef aft 0 ops.toList sl)
    (last : ∀ f w1, J w1 → (∀ d ∈ dsts, (T1 d).p (f d) w1) → Q .normal (puts a f dsts) w1) : (Code.region id ops true).wp P Q a w := by
  simp only [Bool.and_eq_true, decide_eq_true_eq] at hB
  obtain ⟨⟨⟨hB, hord⟩, hds⟩, hjj⟩ := hB
  have hB' := hB
  simp only [guardV, Bool.and_eq_true, decide_eq_true_eq] at hB'
  obtain ⟨-, hlen⟩ := hB'
  have hdep : ∀ (i : Nat) (o : Oper), ops[i]? = some o → ∀ (D : Nat → Value → World → Prop) (ev : Operand → Value) (w1 : World), (∀ e ∈ o.after.toList, Region.binds .any e = true → D (sl.getD e.on 0) (ev (.tmp (sl.getD e.on 0))) w1) → DepsV sl D ev w1 o.after.toList := fun _ _ _ _ _ _ h => depsV_of h
  have hst : ∀ (i : Nat) (o : Oper), ops[i]? = some o → _ := fun i o ho => stepsV_at steps i (o := o) (d := sl.getD i 0) (by simpa using ho) (by
    have hlt : i < ops.size := (Array.getElem?_eq_some_iff.1 ho).1
    simp [List.getD, show i < sl.length by omega])
  simp only [Nat.zero_add] at hst
  refine wp_region_any hm (wpAny_V (D0 := fun d => (T0 d).p) (D1 := fun d => (T1 d).p) (G1 := G1) (J := J) (bef := bef) (aft := aft) hG0 (w := w.drew) hB hord hds hjj (fun d hd => by simpa using List.all_eq_true.1 hfit d hd) (fun d => (T0 d).st) (fun d => (T1 d).st) stableJ
    (fun o ho hn v w => hnone.elim (fun h => by rw [ho] at h; simp [hn] at h) (fun h => h v w))
    (fun i o hij hia ho ev w1 hb hev hdeps => ?_) (fun o ho ev w1 hb hev hdeps => ?_) (fun i o hij hib ho ev w1 hb hev hdeps => ?_) last _ _ _ _ (by simp) (by simp [todo]) ⟨rfl, rfl, fun _ _ => rfl, fun _ => ⟨hG0.refl _, fun i hi h => ?_⟩, fun h => ?_, fun j o2 ho2 h => ?_⟩)
  · have h := hst i o ho
    rw [if_neg hij] at h
    by_cases hib : i ∈ bef
    · rw [if_pos hib] at h
      exact h ev w1 hb hev (hdep i o ho _ ev w1 hdeps)
    · rw [if_neg hib, if_neg hia] at h
      exact h.1 ev w1 hb hev (hdep i o ho _ ev w1 hdeps)
  · have h := hst jj o ho
    rw [if_pos rfl] at h
    exact h ev w1 hb hev (hdep jj o ho _ ev w1 hdeps)
  · have h := hst i o ho
    rw [if_neg hij, if_neg hib] at h
    by_cases hia : i ∈ aft
    · rw [if_pos hia] at h
      exact h ev w1 hb hev (hdep i o ho _ ev w1 hdeps)
    · rw [if_neg hia] at h
      exact h.2 ev w1 hb hev (hdep i o ho _ ev w1 hdeps)
  · have h0 : (Array.replicate ops.size false).getD i false = false := by simp [show i < ops.size by omega]
    rw [h0] at h; cases h
  · have h0 : (Array.replicate ops.size false).getD jj false = false := by simp [hjj]
    rw [h0] at h; cases h
  · have hj : j < ops.size := (Array.getElem?_eq_some_iff.1 ho2).1
    have h0 : (Array.replicate ops.size false).getD j false = false := by simp [hj]
    rw [h0] at h; cases h
end Go.Proofs.YtcmgppacipdnaaaGreatDoor
