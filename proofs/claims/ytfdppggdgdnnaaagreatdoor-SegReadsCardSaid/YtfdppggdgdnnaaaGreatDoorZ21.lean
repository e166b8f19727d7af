/-
  The reference's Next and Size.
  The law of a region that draws its order, with guards that themselves were passed over: such an operation is passed over, too. Not of any one program.
-/
import Derived.Test.YtfdppggdgdnnaaaGreatDoorZ20
import Derived.Test.YtfdppggdgdnnaaaGreatDoorZ4
namespace Go.Proofs.YtfdppggdgdnnaaaGreatDoor
open Go.RowKit

set_option maxRecDepth 100000 in
theorem rnext_any (b : Rc.Bat) (A : Option Addr) (cap n : Nat) (w : World) (hn : b.recs.length = n) (h0 : 0 ≤ b.base) (h1 : b.base ≤ 1099511627776) (h2 : n ≤ 100000) :
    Calls Tryz.prog 18 #[batV b.base b.epoch A n cap] w fun e w' => e = .returned (.int .i64 (b.base + b.recs.length)) ∧ Below w.heap.size w w' := by
  subst hn
  generalize b.recs.length = m at *
  generalize b.base = ba at *
  generalize b.epoch = ep at *
  unfold batV
  have y0 : (w.alloc (.cells #[.int .i64 ba, .int .i64 ep, .slice A m cap] 41)).cell? ⟨w.heap.size, 0, none⟩ = some (.int .i64 ba) := by rw [World.cell?_alloc_mark]; rfl
  have y2 : (w.alloc (.cells #[.int .i64 ba, .int .i64 ep, .slice A m cap] 41)).cell? ⟨w.heap.size, 2, none⟩ = some (.slice A m cap) := by rw [World.cell?_alloc_mark]; rfl
  have hw : IntKind.i64.wrap (ba + (m : Int)) = ba + (m : Int) := by rw [IntKind.wrap_i64]; omega
  go_enter Tryz.func18, Tryz.ntmps18
  go_wp2_with fail
  go_ret
  exact ⟨rfl, balloc (Below.refl _ _) _⟩

set_option maxRecDepth 100000 in
set_option maxHeartbeats 1000000 in
theorem rsize1_any (b : Rc.Bat) (A : Option Addr) (cap n : Nat) (w : World) (h : IsBat w A cap b) (hg : Rc.Good b) (hn : b.recs.length = n) :
    Calls Tryz.prog 46 #[batV b.base b.epoch A n cap] w fun e w' => e = .returned (.int .i64 ((Rc.bytes b).length : Nat)) ∧ Below w.heap.size w w' := by
  have HV := hide (fun (W : World) (hw : Below w.heap.size w W) => rvalid_any b A cap n W (h.below hw (Nat.le_refl _)) hn)
  rw [(Rc.bad_good b).2 hg] at HV
  have HB := hide (fun (W : World) (hw : Below w.heap.size w W) => rbatch_any b A cap n W (h.below hw (Nat.le_refl _)) hg hn)
  clear h hg hn
  generalize Rc.bytes b = l at *
  generalize b.base = ba at *
  generalize b.epoch = ep at *
  unfold batV at *
  have y0 : (w.alloc (.cells #[.int .i64 ba, .int .i64 ep, .slice A n cap] 41)).cell? ⟨w.heap.size, 0, none⟩ = some (.int .i64 ba) := by rw [World.cell?_alloc_mark]; rfl
  have y1 : (w.alloc (.cells #[.int .i64 ba, .int .i64 ep, .slice A n cap] 41)).cell? ⟨w.heap.size, 1, none⟩ = some (.int .i64 ep) := by rw [World.cell?_alloc_mark]; rfl
  have y2 : (w.alloc (.cells #[.int .i64 ba, .int .i64 ep, .slice A n cap] 41)).cell? ⟨w.heap.size, 2, none⟩ = some (.slice A n cap) := by rw [World.cell?_alloc_mark]; rfl
  have hbz : w.heap.size < (w.alloc (.cells #[.int .i64 ba, .int .i64 ep, .slice A n cap] 41)).heap.size := by simp
  have HW1 : Hid (Below w.heap.size w (w.alloc (.cells #[.int .i64 ba, .int .i64 ep, .slice A n cap] 41))) := hide (balloc (Below.refl _ _) _)
  go_enter Tryz.func46, Tryz.ntmps46
  go_wp2_with (first
    | (go_at_call 33; refine (HV.out _ HW1.out).mono ?_; rintro e w2 ⟨rfl, hb2⟩; have HB2 := hide (HW1.out.trans (hb2.mono HW1.out.size)); have z0 := (hb2.cell (p := ⟨w.heap.size, 0, none⟩) hbz).trans y0; have z1 := (hb2.cell (p := ⟨w.heap.size, 1, none⟩) hbz).trans y1; have z2 := (hb2.cell (p := ⟨w.heap.size, 2, none⟩) hbz).trans y2; clear hb2)
    | (go_at_call 15; refine (HB.out _ HB2.out).mono ?_; rintro e w3 ⟨v, rfl, ho, hb3⟩; obtain ⟨A3, c3, rfl, -⟩ := ho.arg; have HB3 := hide (HB2.out.trans (hb3.mono HB2.out.size)); clear hb3 ho)
    | fail)
  go_ret
  exact ⟨rfl, HB3.out⟩
end Go.Proofs.YtfdppggdgdnnaaaGreatDoor

namespace Go.Proofs.YtfdppggdgdnnaaaGreatDoor
open Go Go.RowKit

def OpGuardU (P : Program) (ev : Operand → Value) (o : Oper) (dj : Nat → Nat) (w1 : World) (Post : Value → World → Prop) : Prop :=
  match o.guard with
  | none => OpRuns P ev o w1 Post
  | some (j, b) => (∃ c, ev (.tmp (dj j)) = .bool c ∧ (c = b → OpRuns P ev o w1 Post) ∧ (c ≠ b → Post undef w1)) ∨ (ev (.tmp (dj j)) = undef ∧ Post undef w1)

theorem wpAny_guardU {P : Program} {ops : Array Oper} {Q : Exit → Act → World → Prop} {D : Nat → Value → World → Prop} {G : World → World → Prop} (hG : Goes G) {a : Act} {w : World} (hB : guardAll ops = true)
    (hfit : ∀ d ∈ dstsAll ops, d < a.tmps.size)
    (stable : ∀ d v w1 w2, D d v w1 → G w1 w2 → D d v w2)
    (step : ∀ i o, ops[i]? = some o → ∀ (ev : Operand → Value) w1, G w w1 → (∀ x, (∀ d ∈ dstsAll ops, x ≠ .tmp d) → ev x = a.eval x) →
      (∀ e ∈ o.after.toList, Region.binds .any e = true → D (dstOf ops e.on) (ev (.tmp (dstOf ops e.on))) w1) → OpGuardU P ev o (dstOf ops) w1 fun v w2 => G w1 w2 ∧ D (dstOf ops i) v w2)
    (last : ∀ f w1, G w w1 → (∀ d ∈ dstsAll ops, D d (f d) w1) → Q .normal (puts a f (dstsAll ops)) w1) :
    ∀ (fuel : Nat) (listed : Array Bool) (a' : Act) (w' : World), listed.size = ops.size → todo listed = fuel → MidstG G ops D a w listed a' w' → wpAny P .any ops Q fuel listed a' w' := by
  have hB' := hB
  simp only [guardAll, Bool.and_eq_true, decide_eq_true_eq, List.all_eq_true, List.mem_range] at hB'
  obtain ⟨hall, hnd⟩ := hB'
  have form : ∀ (i : Nat) (o : Oper), ops[i]? = some o → (∀ j b, o.guard = some (j, b) → j < i ∧ ∃ e ∈ o.after.toList, e.on = j ∧ Region.binds .any e = true) ∧ (∀ e ∈ o.after.toList, e.on < i) ∧ o.dst.isSome = true := by
    intro i o ho
    have hi : i < ops.size := (Array.getElem?_eq_some_iff.1 ho).1
    have h := hall i hi
    rw [ho] at h
    simp only [Bool.and_eq_true] at h
    refine ⟨fun j b hg => ?_, fun e he => ?_, h.2⟩
    · have h1 := h.1.1
      rw [hg] at h1
      simp only [Bool.and_eq_true, decide_eq_true_eq, Array.any_eq_true, beq_iff_eq] at h1
      obtain ⟨h2, k, hk, h3, h4⟩ := h1
      exact ⟨h2, o.after[k], by simp, h3, h4⟩
    · have := Array.all_eq_true_iff_forall_mem.1 h.1.2 e (by simpa using he)
      simpa using this
  have alive : ∀ listed : Array Bool, listed.size = ops.size → 0 < todo listed → Region.ready .any ops listed ≠ [] := by
    intro listed hs ht he
    obtain ⟨i, hi⟩ : ∃ i, i < ops.size ∧ listed.getD i true = false := by
      unfold todo at ht
      obtain ⟨i, hi, e⟩ := List.mem_iff_getElem.1 (List.count_pos_iff.1 ht)
      have hi' : i < listed.size := by simpa using hi
      exact ⟨i, by omega, by simpa [hi'] using e⟩
    obtain ⟨n, ⟨hn, hf⟩, hmin⟩ : ∃ n, (n < ops.size ∧ listed.getD n true = false) ∧ ∀ m, m < n → listed.getD m true = true := by
      have : ∀ k i, i < k → i < ops.size → listed.getD i true = false → ∃ n, (n < ops.size ∧ listed.getD n true = false) ∧ ∀ m, m < n → listed.getD m true = true := by
        intro k
        induction k with
        | zero => intro i h; omega
        | succ k ih =>
          intro i hik h1 h2
          by_cases hm : ∃ m, m < i ∧ listed.getD m true = false
          · obtain ⟨m, hmi, hmf⟩ := hm
            exact ih m (by omega) (by omega) hmf
          · refine ⟨i, ⟨h1, h2⟩, fun m hmi => ?_⟩
            rcases Bool.eq_false_or_eq_true (listed.getD m true) with h | h
            · exact h
            · exact absurd ⟨m, hmi, h⟩ hm
      exact this (i + 1) i (by omega) hi.1 hi.2
    have hmem : n ∈ Region.ready .any ops listed := by
      refine mem_ready.2 ⟨hf, ops[n], by simp [hn], fun e hee _ => ?_⟩
      have hlt := (form n ops[n] (by simp [hn])).2.1 e (by simpa using hee)
      have := hmin e.on hlt
      have hsz : e.on < listed.size := by omega
      simpa [hsz] using this
    rw [he] at hmem
    cases hmem
  intro fuel
  induction fuel with
  | zero =>
    intro listed a' w' hs ht M
    have hdone : ∀ i, i < ops.size → listed.getD i true = true := by
      intro i hi
      rcases Bool.eq_false_or_eq_true (listed.getD i true) with h | h
      · exact h
      · have := todo_set (i := i) (listed := listed) (by omega) h
        omega
    refine ⟨?_, ?_⟩
    · match hr : Region.ready .any ops listed with
      | [] => rfl
      | i :: _ =>
        exfalso
        have hi : i ∈ Region.ready .any ops listed := by rw [hr]; exact List.mem_cons_self
        obtain ⟨h1, o, ho, _⟩ := mem_ready.1 hi
        have hlt : i < ops.size := (Array.getElem?_eq_some_iff.1 ho).1
        rw [hdone i hlt] at h1
        cases h1
    · have hput : a' = puts a (fun k => a'.tmps.getD k undef) (dstsAll ops) := by
        refine act_eq ?_ (by rw [puts_defers, M.defers])
        apply Array.ext_getElem?
        intro k
        rw [puts_get]
        split
        · rename_i h
          have hk : k < a'.tmps.size := by rw [M.size]; exact h.2
          simp [hk]
        · rename_i h
          by_cases hk : k ∈ dstsAll ops
          · exact absurd ⟨hk, hfit k hk⟩ h
          · exact M.same k hk
      have h := last (fun k => a'.tmps.getD k undef) w' M.goes (fun d hd => by
        obtain ⟨j, hj, rfl⟩ := List.mem_map.1 hd
        have hj' := List.mem_range.1 hj
        refine M.known j hj' ?_
        have := hdone j hj'
        have hsz : j < listed.size := by omega
        simpa [hsz] using this)
      rwa [← hput] at h
  | succ fuel ih =>
    intro listed a' w' hs ht M
    refine ⟨fun he => absurd he (alive listed hs (by omega)), fun i hi => ?_⟩
    obtain ⟨h1, o, ho, hdeps⟩ := mem_ready.1 hi
    have hlt : i < ops.size := (Array.getElem?_eq_some_iff.1 ho).1
    have hset := todo_set (i := i) (listed := listed) (by omega) h1
    obtain ⟨hg, hon, hdst⟩ := form i o ho
    obtain ⟨d, hd⟩ : ∃ d, o.dst = some d := Option.isSome_iff_exists.1 hdst
    have hdi : dstOf ops i = d := by simp [dstOf, ho, hd]
    have hdm : d ∈ dstsAll ops := hdi ▸ dstAll_mem hlt
    have hr := step i o ho a'.eval w' M.goes (fun x hx => by
      cases x with
      | tmp t =>
        have hm : t ∉ dstsAll ops := fun hm => hx t hm rfl
        have := M.same t hm
        simp only [Act.eval, Array.getD_eq_getD_getElem?, this]
      | const c => rfl
      | global g => rfl
      | func f => rfl) (fun e he hbd => M.known e.on (by have := hon e he; omega) (hdeps e (by simpa using he) hbd))
    have fin : ∀ v w2, G w' w2 → D (dstOf ops i) v w2 → wpAny P .any ops Q fuel (listed.setIfInBounds i true) (a'.put o.dst v) w2 := fun v w2 hb2 hD => by
      refine ih _ _ w2 (by simpa using hs) (by omega) ?_
      rw [hd]
      refine ⟨by simp [Act.put, M.size], by simp [Act.put, M.defers], fun k hk => ?_, hG.trans M.goes hb2, fun j hj hjl => ?_⟩
      · have hkd : d ≠ k := fun e => hk (e ▸ hdm)
        simp only [Act.put, Array.getElem?_setIfInBounds, if_neg hkd]
        exact M.same k hk
      · by_cases hji : j = i
        · subst hji
          rw [hdi] at hD ⊢
          have hds : d < a'.tmps.size := by rw [M.size]; exact hfit d hdm
          simpa [Act.put, hds] using hD
        · have hne : d ≠ dstOf ops j := fun e => hji (dstAll_inj hnd hj hlt (by rw [hdi, e]))
          have hold : listed.getD j false = true := by rwa [getD_set_ne false (Ne.symm hji)] at hjl
          have := stable _ _ _ _ (M.known j hj hold) hb2
          simpa [Act.put, Array.getElem?_setIfInBounds, hne] using this
    unfold wpOp
    simp only [ho]
    unfold OpGuardU at hr
    cases hgd : o.guard with
    | none =>
      rw [hgd] at hr
      rw [if_pos (by simp [Region.wanted, hgd])]
      exact .inl (hr.wp fun v w2 ⟨hb2, hD⟩ => fin v w2 hb2 hD)
    | some jb =>
      obtain ⟨j, b⟩ := jb
      rw [hgd] at hr
      have hj : j < ops.size := by have := (hg j b hgd).1; omega
      have hoj : ops[j]? = some ops[j] := by simp [hj]
      obtain ⟨dj, hdj⟩ : ∃ dj, ops[j].dst = some dj := Option.isSome_iff_exists.1 (form j _ hoj).2.2
      have e1 : dstOf ops j = dj := by simp [dstOf, hoj, hdj]
      rcases hr with ⟨c, hc, hy, hn⟩ | ⟨hc, hn⟩
      · have hyd : yielded ops a'.tmps j = some c := by
          rw [e1] at hc
          have hcell : a'.tmps[dj]? = some (.bool c) := by
            simp only [Act.eval, Array.getD_eq_getD_getElem?] at hc
            cases ht : a'.tmps[dj]? with
            | none => rw [ht] at hc; simp [undef] at hc
            | some v => rw [ht] at hc; simp at hc; rw [hc]
          unfold yielded
          rw [hoj]
          simp [hdj, hcell]
        by_cases hcb : c = b
        · rw [if_pos (by simp [Region.wanted, hgd, hyd, hcb])]
          exact .inl ((hy hcb).wp fun v w2 ⟨hb2, hD⟩ => fin v w2 hb2 hD)
        · rw [if_neg (by simp [Region.wanted, hgd, hyd, hcb])]
          exact fin undef w' (hn hcb).1 (hn hcb).2
      · have hyd : yielded ops a'.tmps j = none := by
          rw [e1] at hc
          unfold yielded
          rw [hoj]
          simp only [Act.eval, Array.getD_eq_getD_getElem?] at hc
          cases ht : a'.tmps[dj]? with
          | none => simp [hdj, ht]
          | some v =>
            rw [ht] at hc
            simp at hc
            subst hc
            simp [hdj, ht, undef]
        rw [if_neg (by simp [Region.wanted, hgd, hyd])]
        exact fin undef w' hn.1 hn.2

def StepGU {G : World → World → Prop} (P : Program) (dsts : List Nat) (T : Nat → Held G) (a : Act) (w : World) (o : Oper) (d : Nat) : Prop :=
  ∀ (ev : Operand → Value) w1, G w w1 → (∀ x, (∀ d ∈ dsts, x ≠ .tmp d) → ev x = a.eval x) → DepsG dsts T ev w1 o.after.toList → OpGuardU P ev o (fun j => dsts.getD j 0) w1 fun v w2 => G w1 w2 ∧ (T d).p v w2
def StepsGU {G : World → World → Prop} (P : Program) (dsts : List Nat) (T : Nat → Held G) (a : Act) (w : World) : List Oper → List Nat → Prop
  | o :: os, d :: ds => StepGU P dsts T a w o d ∧ StepsGU P dsts T a w os ds
  | _, _ => True
theorem stepsG_atU {G : World → World → Prop} {P : Program} {dsts : List Nat} {T : Nat → Held G} {a : Act} {w : World} : ∀ {os : List Oper} {ds : List Nat} (_ : StepsGU P dsts T a w os ds) (i : Nat) {o : Oper} {d : Nat}, os[i]? = some o → ds[i]? = some d → StepGU P dsts T a w o d
  | [], _, _, i, _, _, h, _ => by simp at h
  | _ :: _, [], _, i, _, _, _, h => by simp at h
  | _ :: os, _ :: ds, h, 0, _, _, ho, hd => by simp at ho hd; subst ho hd; exact h.1
  | _ :: os, _ :: ds, h, i + 1, _, _, ho, hd => stepsG_atU h.2 i (by simpa using ho) (by simpa using hd)

/-- THE LAW. -/
theorem wp_region_guardU {P : Program} {id : Nat} {ops : Array Oper} {Q : Exit → Act → World → Prop} {G : World → World → Prop} (hG : Goes G) (dsts : List Nat) (T : Nat → Held G) {a : Act} {w : World} (hm : P.follows .mixedOrders = true)
    (hB : (guardAll ops && edgesBind ops && decide (dstsAll ops = dsts)) = true)
    (hfit : (dsts.all fun d => decide (d < a.tmps.size)) = true)
    (steps : StepsGU P dsts T a w.drew ops.toList dsts)
    (last : ∀ f w1, G w.drew w1 → (∀ d ∈ dsts, (T d).p (f d) w1) → Q .normal (puts a f dsts) w1) : (Code.region id ops true).wp P Q a w := by
  simp only [Bool.and_eq_true, decide_eq_true_eq] at hB
  obtain ⟨⟨hB, hbind⟩, rfl⟩ := hB
  have hB' := hB
  simp only [guardAll, Bool.and_eq_true] at hB'
  have hform := hB'.1
  rw [List.all_eq_true] at hform
  refine wp_region_any hm (wpAny_guardU (D := fun d v w => (T d).p v w) hG (w := w.drew) hB (fun d hd => by simpa using List.all_eq_true.1 hfit d hd) (fun d v w1 w2 h hb => (T d).st v w1 w2 h hb)
    (fun i o ho ev w1 hb hev hdeps => ?_) (fun f w1 hb h => last f w1 hb h) _ _ _ _ (by simp) (by simp [todo]) ⟨rfl, rfl, fun _ _ => rfl, hG.refl _, fun i hi h => ?_⟩)
  · have hlt : i < ops.size := (Array.getElem?_eq_some_iff.1 ho).1
    have h1 := stepsG_atU steps i (o := o) (d := dstOf ops i) (by simpa using ho) (by simp [dstsAll, hlt])
    have hf := hform i (List.mem_range.2 hlt)
    rw [ho] at hf
    simp only [Bool.and_eq_true] at hf
    have hget : ∀ j, j < ops.size → (dstsAll ops).getD j 0 = dstOf ops j := fun j hj => by simp [dstsAll, List.getD, hj]
    have h2 := h1 ev w1 hb hev (depsG_of fun e he => ?_)
    · unfold OpGuardU at h2 ⊢
      cases hgd : o.guard with
      | none => rw [hgd] at h2; exact h2
      | some jb =>
        obtain ⟨j, b⟩ := jb
        rw [hgd] at h2
        have hj : j < i := by
          have h3 := hf.1.1
          rw [hgd] at h3
          simp only [Bool.and_eq_true, decide_eq_true_eq] at h3
          exact h3.1
        simp only [hget j (by omega)] at h2
        exact h2
    · have hon : e.on < i := by simpa using Array.all_eq_true_iff_forall_mem.1 hf.1.2 e (by simpa using he)
      have hbd : Region.binds .any e = true := by
        have h2 := Array.all_eq_true_iff_forall_mem.1 hbind o (Array.mem_of_getElem? ho)
        exact Array.all_eq_true_iff_forall_mem.1 h2 e (by simpa using he)
      rw [hget e.on (by omega)]
      exact hdeps e he hbd
  · have h0 : (Array.replicate ops.size false).getD i false = false := by simp [show i < ops.size by omega]
    rw [h0] at h; cases h
end Go.Proofs.YtfdppggdgdnnaaaGreatDoor
